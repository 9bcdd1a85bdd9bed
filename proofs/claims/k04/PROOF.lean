import PyProof.Rows.All
import Wide.All
import OpenK.AllK
import Wide.FinOn
import Lean
import PyProof.EqAt
import PyProof.EqKinds
import PyProof.TupleCall
import KE.KRevIter
import PySem.Challenge.RW_ringfell_k04_webs_cut_and_joined
open List renaming length_map → qu,size_toArray → qx,length_append → qC,mem_append → qH,getElem?_eq_some_iff → qI,map_append → qQ,getElem?_eq_getElem → qS,mem_of_getElem? → qV,mem_cons_of_mem → qZ,mem_cons_self → rk,mem_append_right → rq,map_cons → rz,take_of_length_le → rA,replicate → rB,append_assoc → rC,length_cons → rG,mem_iff_getElem? → rJ,getElem?_map → rK,extract_eq_take_drop → rN,drop_sublist → rQ,getD_eq_getElem?_getD → rT,mem_cons → rU,append_nil → rW,length_take → rX,length_drop → rY,take_sublist → r9,pairwise_append → si,mem_map → sj,mem_of_mem_take → sI,range → sN,mem_of_mem_drop → sP,take_add_one → sR,length_singleton → sW,getElem?_take → td,pairwise_singleton → tj,flatten_cons → tq,take_append_drop → tG,pairwise_cons → tH,perm_append_comm → tI,filterMap_cons → tO,replicate_succ → tQ,mem_map_of_mem → tS,getElem?_set_self → tW,mem_filter → tZ,map_map → uc,all_eq_true → uq,lookup_cons → ur,getElem_mem → uu,reverse_append → uw,set_set → ux,getElem?_drop → uz,nil_append → uA,length_eq_zero_iff → uB,mem_range → uL,drop_zero → uM,drop_append_of_le_length → uP,take_append_of_le_length → uQ,getElem?_set_ne → uU,idxOf_cons_self → uZ,nodup_cons → u7,getElem?_append_right → vf,mem_filterMap → vj,getElem?_append_left → vp,getElem?_zip_eq_some → vq,pairwise_iff_getElem → vv,take_zero → vw,drop_left → vx,pairwise_map → vA,idxOf_lt_length_iff → vE,any_cons → vJ,map_take → vN,range'_succ → vU,drop_eq_nil_of_le → v3,of_mem_zip → v9,getElem?_toArray → wc,length_filter_le → wq,mem_append_left → wz,reverse_reverse → wA,erase_cons_tail → wB,replicate_succ' → wD,erase_cons_head → wF,zip_cons_cons → wU,map_drop → wZ,map_replicate → w4,cons_append → xA,length_nil → xD,foldl_cons → xF,length_zip → xG,idxOf_cons → xI,filter_map → xJ,drop_drop → xS,all_cons → x4,set_comm → x5,map_nil → x9
open PySem.W renaming Frag → qv,nsIn → rh,mg_none_of → rF,mg_of → rV,kia_one → sL,hideAll_get → vR,cellsFrom_some → vX,kat_nil → wj,callWith_K → wN,kitx_list → xf,kitx_dict → xg,looks_findIn → xv
open PySem renaming Value → qw,Shared → qy,wpAny_bind → qA,sizeLine → qD,wpAny_pure → qR,mainGlobals → qT,Program → qX,model → rD,wpAny → rH,starEach → rL,World → rO,bootBuiltins → rS,Around → r6,FuncData → sA,wpAny_mono → sT,wpAny_newObj_type → sU,wpAny_truthy_bool → tx,mem_of_lookup → tE,compareOp → tJ,codeAny_builtin → tN,wpAny_typeOf → ud,wpAny_holding → uh,wpAny_loadPart_at → uj,wpAny_execs_nil → uE,wpAny_passesOwn → uF,wpAny_Call_Name_kw → uG,wpAny_rule → uJ,noFill_tuple_add → uS,backTo → u0,call_meets → u5,codeAny_mono → vn,concat_meets → vo,boot_len → vy,seq_tuple_add → vO,wpAny_callSpecial?_slot → vP,wpAny_execs_cons → vV,wpAny_call_entry → vW,wpAny_Call_method_late → v7,richCompare_meets_room → v8,wpAny_isTrue_Compare1 → wt,codeAny_call_builtin → wG,wpAny_standAt → w5,wpAny_newList → xb,plainId_quiet → xc,wpAny_pyIter_list → xo,wpAny_sequenceKey → xp,codeAny → xq,seqIndex_neg → xt,seqSlot_of → xB,sizeLine_eq → xK,wpAny_field → xM,seqIndex_of → xN,wpAny_Name → xX,wpAny_load → xY,typeIs_int → xZ
open Nat renaming le_refl → qz,lt_of_lt_of_le → qM,le_trans → rn,ne_of_lt → rM,zero_le → sC,lt_irrefl → sE,le_sub_one_of_lt → tf,add_sub_cancel_left → tR,le_add_right → tU,eq_zero_of_not_pos → tY,le_succ_of_le → uf,zero_add → uN,sub_one_lt_of_lt → uW,add_le_add_left → u9,le_of_lt → vi,lt_of_succ_lt → vz,le_of_sub_eq_zero → we,min_self → wg,lt_of_le_of_lt → wQ,lt_of_le_of_ne → wR,sub_pos_of_lt → xh,le_of_succ_le → xi,sub_zero → xr,succ_le_succ → xx,le_antisymm → xE,add_assoc → x6
open PySem.Heap renaming get?_push_of_some → qB,lt_size → qP,get?_push_size → q8,get?_update_other → vY,get?_update_ne → wJ
open Array renaming length_toList → qF,getElem?_toList → qL,toList_append → q9,toList_extract → sH,getElem?_eq_some_iff → sQ,toList_push → tw,toList_reverse → tK,size_push → t8,size_append → ug,toList_setIfInBounds → vg,perm_iff_toList_perm → vh,getElem_mem → vC,toList_inj → vT
open PyProof.Rows renaming wpS_bind → qG,Keyed → qJ,wpS_pure → qK,arrOf → qN,pendingOf → qU,SortSt → qY,slot_tuple_getitem → rP,wpS_forRange → rR,wpS_mono → sV,wpS_modify → tD,reverseSlice'_eq → uT,callWith_type1 → u6,IntsAre → vb,KeyOrd → vG,wpS_get → vQ,subscriptTail_builtinR → v5,wpS_lift → wx,getElem?_mirror_all → wK,args_tuple_getitem → w6,listUpdate_at → w9,listItems_at → xu
open Bool renaming false_ne_true → qO,and_eq_true → rZ,false_eq_true → sJ,eq_iff_iff → t7,not_true → vK,eq_false_iff → xj,or_false → x3,false_or → x8
open PySem.Value renaming ref → qW,int → vH,none → vI
open PyProof.Rows.KeyOrd renaming kle_trans → rj,kle_of_klt → sh,kle_refl → sO,kle_antisymm → wI
open Option.some renaming inj → rE
open PySem.Pv renaming boot_tuple → sS,boot_int → uI,boot_list → vm,boot_bool → wX,boot_str → xn
open List.Perm renaming append_left → sZ,append_right → tF,refl → vt
open PySem.F renaming args_tuple_add_2 → tL,entry_tuple_add → tP,slot_tuple_add → tX,plainAttrs_list → uD,slot_tuple_mul → uH,typeOf_object_class → uO,slot_tuple_count → vB,slot_list_remove → vD,slot_tuple_index → vF,slot_tuple_rmul → vL,plain_list_iadd → vM,slot_int_rmul → wk,attrBase_ValueError → wm,excBase_ValueError → wC,slot_gs_get → wW,args_list_ne_2 → xC,entry_list_ne → xH
open Int renaming toNat_natCast → tM,emod_nonneg → va,fdiv_eq_ediv_of_nonneg → vd,fmod_eq_emod_of_nonneg → ve,zero_add → wo,emod_lt_of_pos → wY
open PySem.Obj renaming mapSeq → tV
open PySem.Builtin.List renaming listExtendWith → ue
open PySem.Around renaming under_plainId → um
open Iff renaming rfl → uo
open Ne renaming symm → uv
open PySem.PassesOwn renaming never → uC
open PySem.SeqAt renaming EqAt → uK,notIn_tupleAt → wH
open PySem.Calls renaming evalArgs_plain → uV,Name_function_global → vc,callWith_builtin → vZ
open PySem.Paired renaming length → u3
open PySem.SeqAt.EqAt renaming int_int → vk,same → wa,int_str → wL,str_int → wM,str_str → wO
open PySem.AutoListH renaming list_insert_list_int_val_1 → vS
open Option renaming map_some → wb,getD_none → xw
open Std.Legacy.Range renaming forIn_eq_forIn_range' → wu
open PySem.Code renaming quiet_builtin → wV
open PySem.SeqAt.RcAt renaming tuples → xk
open PySem.EqMixed renaming eq_bool_str → xO,eq_str_bool → xP,ne_bool_str → xQ,ne_str_bool → xR,eq_int_str → xT,eq_str_int → xU,ne_int_str → xV,ne_str_int → xW
open PySem.W.Looks renaming of_pure → yb
open PySem.W.KatTups renaming cons → yc
open PySem.Heap.IsSliceOf renaming new → yd
set_option Elab.async false
set_option linter.all false
set_option maxRecDepth 100000
namespace L2
open PySem PySem.Spec PyProof.Rows
abbrev Key:=Sum Int Str
def nk:Key->qw->Bool
 | .inl k,v=>Value.isInt k v
 | .inr x,v=>Value.isStrOf x v
def keyH (w:rO):Key->Int
 | .inl k=>hashInt k
 | .inr x=>hashStr w x
theorem aV:∀{k:Key} {v:qw},nk k v=true->(∃i t,k=Sum.inl i/\v=vH i t)\/(∃x t,k=Sum.inr x/\v=Value.str x t)
 | .inl i,v,h=>by
  obtain ⟨t,e⟩:=Value.isInt_shape (k:=i) (v:=v) h
  exact .inl ⟨i,t,rfl,e⟩
 | .inr x,v,h=>by
  obtain ⟨t,e⟩:=Value.isStrOf_shape (x:=x) (v:=v) h
  exact .inr ⟨x,t,rfl,e⟩
theorem nN (a b:Int):decide ((Sum.inl a:Key)=Sum.inl b)=(a == b):=by
 by_cases e:a=b
 ·subst e;simp
 ·have h:¬ (Sum.inl a:Key)=Sum.inl b:=λq=>e (Sum.inl.inj q)
  rw[decide_eq_false h]
  exact (beq_eq_false_iff_ne.mpr e).symm
theorem nO (a b:Str):decide ((Sum.inr a:Key)=Sum.inr b)=decide (a=b):=by
 by_cases e:a=b
 ·subst e;simp
 ·have h:¬ (Sum.inr a:Key)=Sum.inr b:=λq=>e (Sum.inr.inj q)
  rw[decide_eq_false h,decide_eq_false e]
theorem nP (a:Int)(b:Str):decide ((Sum.inl a:Key)=Sum.inr b)=false:=decide_eq_false (λq=>nomatch q)
theorem nQ (a:Str)(b:Int):decide ((Sum.inr a:Key)=Sum.inl b)=false:=decide_eq_false (λq=>nomatch q)
def iY (prog:qX)(w:rO):PySem.KeyKind prog w Key where
 is:=nk
 hash:=keyH w
 inj:=λv a b ha hb=>by
  rcases aV ha with ⟨i,t,rfl,rfl⟩ | ⟨x,t,rfl,rfl⟩
  ·rcases aV hb with ⟨j,u,rfl,e⟩ | ⟨y,u,rfl,e⟩
   ·injection e with e1 _;rw[e1]
   ·exact nomatch e
  ·rcases aV hb with ⟨j,u,rfl,e⟩ | ⟨y,u,rfl,e⟩
   ·exact nomatch e
   ·injection e with e1 _;rw[e1]
 byValue:=λk v h=>by
  rcases aV h with ⟨i,t,rfl,rfl⟩ | ⟨x,t,rfl,rfl⟩ <;> rfl
 pyHash:=λhv h=>by
  rcases aV hv with ⟨i,t,rfl,rfl⟩ | ⟨x,t,rfl,rfl⟩
  ·exact wpAny_pyHash_int h
  ·exact wpAny_pyHash_str h
 eqBool:=λhu hv h=>by
  rcases aV hu with ⟨i,t,rfl,rfl⟩ | ⟨x,t,rfl,rfl⟩
  ·rcases aV hv with ⟨j,u,rfl,rfl⟩ | ⟨y,u,rfl,rfl⟩
   ·rw[nN] at h;exact wpAny_eqBool_int h
   ·rw[nP] at h;exact wL i t y u _ _ _ _ h
  ·rcases aV hv with ⟨j,u,rfl,rfl⟩ | ⟨y,u,rfl,rfl⟩
   ·rw[nQ] at h;exact wM x t j u _ _ _ _ h
   ·rw[nO] at h;exact wpAny_eqBool_str h
 «strs» := λk x t v h=>by
  rcases aV h with ⟨i,u,rfl,e⟩ | ⟨y,u,rfl,e⟩
  ·exact nomatch e
  ·injection e with e1 _
   subst e1
   cases v <;> rfl
open PySem PySem.Spec PyProof.Rows
inductive V where
 | non | bl (b:Bool) | int (i:Int) | str (x:Str) | byt (b:Array UInt8) | flt (b:UInt64) | ref (a:Addr) | ty (n:String)
 deriving DecidableEq
def RelV:V->qw->Prop
 | .non,u=>u=vI
 | .bl b,u=>u=Value.bool b
 | .int i,u=>∃t,u=vH i t
 | .str x,u=>∃t,u=Value.str x t
 | .byt b,u=>∃t,u=Value.bytes b t
 | .flt b,u=>∃t,u=Value.float b t
 | .ref a,u=>u=qW a
 | .ty n,u=>u=Value.type n
abbrev Vals:List V->List qw->Prop:=Paired RelV
theorem Vals.length {xs:List V}{us:List qw}(r:Vals xs us):xs.length=us.length:=u3 r
theorem Vals.get:∀{xs:List V} {us:List qw} {i:Nat} {x:V},Vals xs us->xs[i]? = some x->∃u,us[i]? = some u/\RelV x u
 | _,_,_,_,.nil,e=>by simp at e
 | _,_,0,_,.cons r _,e=>by simp at e;subst e;exact ⟨_,rfl,r⟩
 | _,_,i+1,x,.cons _ t,e=>by
  obtain ⟨u,h1,h2⟩:=Vals.get (i:=i) (x:=x) t (by simpa using e)
  exact ⟨u,by simpa using h1,h2⟩
theorem Vals.set {x:V}{u:qw}(r:RelV x u):∀{xs:List V} {us:List qw} (i:Nat),Vals xs us->Vals (xs.set i x) (us.set i u)
 | _,_,_,.nil =>.nil
 | _,_,0,.cons _ t =>.cons r t
 | _,_,i+1,.cons q t =>.cons q (Vals.set r i t)
theorem Vals.append:∀{xs ys:List V} {us ws:List qw},Vals xs us->Vals ys ws->Vals (xs++ys) (us++ws)
 | _,_,_,_,.nil,s=>s
 | _,_,_,_,.cons r t,s =>.cons r (Vals.append t s)
theorem Vals.take:∀{xs:List V} {us:List qw} (n:Nat),Vals xs us->Vals (xs.take n) (us.take n)
 | _,_,0,_ =>.nil
 | _,_,_+1,.nil =>.nil
 | _,_,n+1,.cons r t =>.cons r (Vals.take n t)
theorem Vals.drop:∀{xs:List V} {us:List qw} (n:Nat),Vals xs us->Vals (xs.drop n) (us.drop n)
 | _,_,0,r=>r
 | _,_,_+1,.nil =>.nil
 | _,_,n+1,.cons _ t=>Vals.drop n t
def nR:Option V->Option qw->Prop
 | some v,some u=>RelV v u
 | none,none=>True
 | _,_=>False
def KV {κ:Type}:List (κ×V)->List (κ×qw)->Prop:=Paired λ(p:κ×V) (q:κ×qw)=>p.1=q.1/\RelV p.2 q.2
def kV:Key->V
 | .inl i =>.int i
 | .inr x =>.str x
inductive HO where
  | lst (xs:List V)
  | tup (xs:List V)
  | dK (kvs:List (Key×V)) | dT (kvs:List (List Key×V))
  | set (S:Int->Bool) (n:Nat)
  | ins (C dx:Addr) (fs:List (Str×V))
  | own (x:Addr)
  | xd (fs:List (Str×V))
  | met (f x:Addr)
  | rng (lo hi:Int)
  | frz (o:Obj) (u:HO)
  | tbl (ps:Array qw)
  | ext (φ:Heap->Prop)
abbrev Hp:=Addr->Option HO
def upd (H:Hp)(a:Addr)(o:HO):Hp:=λb=>if b=a then some o else H b
theorem ag {H:Hp}{a:Addr}{o:HO}:upd H a o a=some o:=by unfold upd;rw[if_pos rfl]
theorem az {H:Hp}{a b:Addr}{o:HO}(h:b≠a):upd H a o b=H b:=by unfold upd;rw[if_neg h]
theorem nq {H:Hp}{a b:Addr}{o u:HO}(h:H a=some o)(h':H b=some u)(d:o≠u):a≠b:=by
 intro e;subst e;rw[h] at h';exact d (rE h')
theorem ax {H:Hp}{a b:Addr}{o:HO}(h:H a=some o)(h':H b=none):a≠b:=by
 intro e;subst e;rw[h] at h';cases h'
def bQ (h:Heap)(a:Addr)(items:Array qw):Prop:=∃o,h.get? a=some o/\(o.cls = .type "tuple" /\ o.dict=none)/\∃n,o.data = .seq items n
theorem bQ.tup {h:Heap}{a:Addr}{items:Array qw}(x:bQ h a items):IsTup h a items:=let ⟨o,e,c,n,d⟩:=x;⟨o,e,c.1,n,d⟩
theorem bQ.new (h:Heap)(items:Array qw):bQ (h.push { cls :=.type "tuple",data :=.seq items }) h.objs.size items:=⟨_,q8 _ rfl,⟨rfl,rfl⟩,_,rfl⟩
section
variable  (P:qX)(w:rO)
def aX (H:Hp)(h:Heap)(a:Addr):HO->Prop
 | .lst xs=>xs.length<=qD/\∃(its:List qw) (n:Nat),Vals xs its/\h.get? a=some { cls :=.type "list",data :=.seq its.toArray n }
 | .tup xs=>xs.length<=qD/\∃its:List qw,Vals xs its/\bQ h a its.toArray
 | .dK kvs=>kvs.length<=qD/\(a == sysModules)=false/\∃vs,KV kvs vs/\h.DictOf (iY P w) a vs
 | .dT kvs=>kvs.length<=qD/\(a == sysModules)=false/\∃xs:List (List Key×Addr×qw),
   Paired (λ(p:List Key×V) (q:List Key×Addr×qw)=>p.1=q.1/\H q.2.1=some (.tup (p.1.map kV))/\RelV p.2 q.2.2) kvs xs ∧
   ∃o es ep,h.get? a=some o/\o.ExactDict/\o.data = .dict es ep/\es.toList=xs.map (entryOfKey (tupleKind (iY P w)))/\(xs.map (·.1)).Nodup
 | .set S n=>h.SetOf (intKind P w) a S n
 | .ins C dx fs=>H dx=some (.own a)/\fs.length<=1000/\dx≠a/\h.get? a=some (PySem.W.instObj C dx) ∧
   ∃mA,h.Ns1 dx mA/\(∀f,nR (fs.lookup f) (mA f))/\PySem.Within mA (fs.map (·.1))
 | .own _=>∃o,h.get? a=some o
 | .xd fs=>∃mA,h.Ns1 a mA/\∀f,nR (fs.lookup f) (mA f)
 | .rng lo hi=>∃t u v,h.get? a=some { cls :=.type "range",data :=.fields #[.int lo t,.int hi u,.int 1 v] }
 | .frz o u=>h.get? a=some o/\aX H h a u
 | .tbl ps=>h.get? a=some { cls :=.none,data :=.fields ps }
 | .met f x=>h.get? a=some (PySem.W.methodObj (.ref f) (.ref x))
 | .ext φ=>φ h/\(∃o,h.get? a=some o)/\∀h1 h2:Heap, φ h1->(∀o,h1.get? a=some o->h2.get? a=some o) -> φ h2
def HOk (H:Hp)(h:Heap):Prop:=∀a o,H a=some o->aX P w H h a o
end
section
variable  {P:qX}{w:rO}{H H':Hp}{h h':Heap}{a:Addr}{o:HO}
theorem aX.lt (x:aX P w H h a o):a<h.objs.size:=by
 cases o with
 | lst xs=>obtain ⟨_,_,_,_,e⟩:=x;exact qP e
 | tup xs=>obtain ⟨_,_,_,p⟩:=x;exact (bQ.tup p).lt
 | dK kvs=>obtain ⟨_,_,_,_,o,_,_,e,_⟩:=x;exact qP e
 | dT kvs=>obtain ⟨_,_,_,_,o,_,_,e,_⟩:=x;exact qP e
 | set S n=>obtain ⟨o,_,_,_,e,_⟩:=x;exact qP e
 | ins C dx fs=>obtain ⟨_,_,_,e,_⟩:=x;exact qP e
 | own y=>obtain ⟨_,e⟩:=x;exact qP e
 | xd fs=>obtain ⟨_,⟨_,_,_,e,_⟩,_⟩:=x;exact qP e
 | rng lo hi=>obtain ⟨_,_,_,e⟩:=x;exact qP e
 | frz ob u=>obtain ⟨e,_⟩:=x;exact qP e
 | tbl ps=>exact qP (show h.get? a=some _ from x)
 | met f y=>exact qP (show h.get? a=some _ from x)
 | ext φ=>obtain ⟨_,⟨_,e⟩,_⟩:=x;exact qP e
theorem Paired.nT {α β:Type}{F G:α -> β -> Prop}:∀{l₁:List α} {l₂:List β},Paired F l₁ l₂->(∀a b,F a b->G a b)->Paired G l₁ l₂
 | _,_,.nil,_ =>.nil
 | _,_,.cons r t,f =>.cons (f _ _ r) (Paired.nT t f)
theorem aX.gf (x:aX P w H h a o)(k:∀b u,(b=a\/H b=some (.own a))->h.get? b=some u->h'.get? b=some u)
  (ho:∀b,H b=some (.own a)->H' b=some (.own a)) (ht:∀b xs,H b=some (.tup xs)->H' b=some (.tup xs)):aX P w H' h' a o:=by
 induction o with
 | lst xs=>obtain ⟨z,its,n,r,e⟩:=x;exact ⟨z,its,n,r,k _ _ (.inl rfl) e⟩
 | tup xs=>obtain ⟨z,its,r,ob,e,c⟩:=x;exact ⟨z,its,r,ob,k _ _ (.inl rfl) e,c⟩
 | dK kvs=>obtain ⟨z,y,vs,r,ob,es,ep,e,c⟩:=x;exact ⟨z,y,vs,r,ob,es,ep,k _ _ (.inl rfl) e,c⟩
 | dT kvs =>
  obtain ⟨z,y,xs,r,ob,es,ep,e,c⟩:=x
  exact ⟨z,y,xs,Paired.nT r λp q z=>⟨z.1,ht _ _ z.2.1,z.2.2⟩,ob,es,ep,k _ _ (.inl rfl) e,c⟩
 | set S n=>obtain ⟨ob,es,ep,t,e,c⟩:=x;exact ⟨ob,es,ep,t,k _ _ (.inl rfl) e,c⟩
 | ins C dx fs =>
  obtain ⟨d,z,ne,e,mA,⟨od,es,ep,e2,c⟩,r⟩:=x
  exact ⟨ho _ d,z,ne,k _ _ (.inl rfl) e,mA,⟨od,es,ep,k _ _ (.inr d) e2,c⟩,r⟩
 | own y=>obtain ⟨ob,e⟩:=x;exact ⟨ob,k _ _ (.inl rfl) e⟩
 | xd fs=>obtain ⟨mA,⟨od,es,ep,e,c⟩,r⟩:=x;exact ⟨mA,⟨od,es,ep,k _ _ (.inl rfl) e,c⟩,r⟩
 | rng lo hi=>obtain ⟨t,u,v,e⟩:=x;exact ⟨t,u,v,k _ _ (.inl rfl) e⟩
 | frz ob u ih=>obtain ⟨e,q⟩:=x;exact ⟨k _ _ (.inl rfl) e,ih q⟩
 | tbl ps =>
  have e:h.get? a=some { cls :=.none,data :=.fields ps }:=x
  show h'.get? a=some { cls :=.none,data :=.fields ps }
  exact k a _ (.inl rfl) e
 | met f y =>
  have e:h.get? a=some (PySem.W.methodObj (.ref f) (.ref y)):=x
  show h'.get? a=some (PySem.W.methodObj (.ref f) (.ref y))
  exact k a _ (.inl rfl) e
 | ext φ=>obtain ⟨p,⟨o,e⟩,st⟩:=x;exact ⟨st _ _ p λo q=>k _ _ (.inl rfl) q,⟨o,k _ _ (.inl rfl) e⟩,st⟩
theorem HOk.lt (x:HOk P w H h)(e:H a=some o):a<h.objs.size:=(x a o e).lt
theorem HOk.fresh (x:HOk P w H h)(e:h.objs.size<=a):H a=none:=by
 cases q:H a with
 | none=>rfl
 | some u=>exact absurd (qM (x.lt q) e) (sE _)
theorem HOk.kept (x:HOk P w H h)(k:∀b u,h.get? b=some u->h'.get? b=some u):HOk P w H h':=λa o e =>
 (x a o e).gf (λb u _ q=>k b u q) (λ_ q=>q) λ_ _ q=>q
theorem HOk.laid (x:HOk P w H h)(k:∀b u,h.get? b=some u->h'.get? b=some u)(hp:h.objs.size<=a)(new:aX P w (upd H a o) h' a o):HOk P w (upd H a o) h':=λb u e=>by
 have hn:=x.fresh hp
 by_cases hb:b=a
 ·subst hb;rw[ag] at e;cases e;exact new
 ·rw[az hb] at e
  exact (x b u e).gf (λc v _ q=>k c v q) (λc q=>by rw[az (ax q hn)];exact q) λc xs q=>by rw[az (ax q hn)];exact q
end
def Rd (H:Hp)(a:Addr)(u:HO):Prop:=H a=some u\/∃o,H a=some (.frz o u)
theorem Rd.ok {P:qX}{w:rO}{H:Hp}{h:Heap}{a:Addr}{u:HO}(r:Rd H a u)(x:HOk P w H h):aX P w H h a u:=by
 rcases r with r | ⟨o,r⟩
 ·exact x a u r
 ·obtain ⟨_,q⟩:=x a _ r
  exact q
def Mut:Option HO->Prop
 | some (.lst _)=>True
 | some (.dK _)=>True
 | some (.dT _)=>True
 | some (.set _ _)=>True
 | some (.ins _ _ _)=>True
 | some (.ext _)=>True
 | _=>False
section
variable  {P:qX}{w:rO}{H:Hp}{h h':Heap}{x e:Addr}{o':HO}
theorem HOk.write (ok:HOk P w H h)(mu:Mut (H x))(he:e=x\/H e=some (.own x))(k:∀b u,b≠e->h.get? b=some u->h'.get? b=some u)(heo:∃u,h'.get? e=some u)
  (new:aX P w (upd H x o') h' x o'):HOk P w (upd H x o') h':=λb u q=>by
 have nown:∀c y,H c=some (.own y)->c≠x:=λc y r z=>by subst z;rw[r] at mu;exact mu
 have ntup:∀c xs,H c=some (.tup xs)->c≠x:=λc xs r z=>by subst z;rw[r] at mu;exact mu
 by_cases hb:b=x
 ·subst hb;rw[ag] at q;cases q;exact new
 ·rw[az hb] at q
  by_cases hbe:b=e
  ·have q':H b=some (.own x):=by
    rcases he with z | z
    ·exact absurd (hbe.trans z) hb
    ·rw[hbe];exact z
   rw[q] at q';cases q'
   obtain ⟨v,hv⟩:=heo
   exact ⟨v,by rw[hbe];exact hv⟩
  ·refine (ok b u q).gf (λc v hc r=>k c v ?_ r) (λc r=>by rw[az (nown c b r)];exact r) λc xs r=>by rw[az (ntup c xs r)];exact r
   rcases hc with rfl | hc
   ·exact hbe
   ·rintro rfl
    rcases he with z | z
    ·exact nown c b hc z
    ·rw[hc] at z;cases z;exact hb rfl
end
structure Un (fs ex:List Addr)(H H':Hp)(h h':Heap):Prop where
 keep:∀b o,h.get? b=some o->H b=none->b∉fs->b∉ex->h'.get? b=some o
 slot:∀b o,h.get? b=some o->H b=none->b∈fs->b∉ex->∃sl,h'.get? b=some { o with slots:=sl }
 free:∀b o,h.get? b=some o->H b=none->b∉ex->H' b=none
 there:∀b o,h.get? b=some o->b∉ex->∃o',h'.get? b=some o'
 tups:∀b xs,H b=some (.tup xs)->H' b=some (.tup xs)
 frzs:∀b o u,H b=some (.frz o u)->H' b=some (.frz o u)
 tbls:∀b ps,H b=some (.tbl ps)->∃more,H' b=some (.tbl (ps++more))
section
variable  {fs fs' ex ex':List Addr}{H H1 H2:Hp}{h h1 h2 h':Heap}{a x e:Addr}{o:HO}
theorem Un.any (u:Un fs ex H H1 h h1){b:Addr}{ob:Obj}(q:h.get? b=some ob)(n:H b=none)(hx:b∉ex):∃sl,h1.get? b=some { ob with slots:=sl }:=by
 by_cases hb:b∈fs
 ·exact u.slot b ob q n hb hx
 ·exact ⟨ob.slots,u.keep b ob q n hb hx⟩
theorem Un.kept (k:∀b u,h.get? b=some u->h'.get? b=some u):Un fs ex H H h h' :=
 ⟨λb ob q _ _ _=>k b ob q,λb ob q _ _ _=>⟨ob.slots,k b ob q⟩,λ_ _ _ n _=>n,λb ob q _=>⟨ob,k b ob q⟩,λ_ _ q=>q,λ_ _ _ q=>q,λ_ ps q=>⟨#[],by rw[q];simp⟩⟩
theorem Un.refl:Un fs ex H H h h:=Un.kept λ_ _ q=>q
theorem Un.laid (k:∀b u,h.get? b=some u->h'.get? b=some u)(hp:h.objs.size<=a)(hn:H a=none):Un fs ex H (upd H a o) h h' where
 keep:=λb u q _ _ _=>k b u q
 slot:=λb u q _ _ _=>⟨u.slots,k b u q⟩
 free:=λb u q n _=>by rw[az (rM (qM (qP q) hp))];exact n
 there:=λb u q _=>⟨u,k b u q⟩
 tups:=λb xs q=>by rw[az (ax q hn)];exact q
 frzs:=λb u xs q=>by rw[az (ax q hn)];exact q
 tbls:=λb ps q=>⟨#[],by rw[az (ax q hn),q];simp⟩
theorem Un.write (mu:Mut (H x))(he:e=x\/H e=some (.own x))(k:∀b u,b≠e->h.get? b=some u->h'.get? b=some u)(heo:∃u,h'.get? e=some u):Un fs ex H (upd H x o) h h':=by
 have hx:∀b,H b=none->b≠x:=λb n z=>by subst z;rw[n] at mu;exact mu
 have hb:∀b,H b=none->b≠e:=λb n z=>by
  subst z
  rcases he with r | r
  ·exact hx b n r
  ·rw[n] at r;cases r
 have hm:∀b u,H b=some u->¬ Mut (some u)->b≠x:=λb u q nm z=>by subst z;rw[q] at mu;exact nm mu
 refine ⟨λb u q n _ _=>k b u (hb b n) q,λb u q n _ _=>⟨u.slots,k b u (hb b n) q⟩,λb u q n _=>by rw[az (hx b n)];exact n,λb u q _ =>?_,
  λb xs q=>by rw[az (hm b _ q λz=>z)];exact q,λb u xs q=>by rw[az (hm b _ q λz=>z)];exact q,λb ps q=>⟨#[],by rw[az (hm b _ q λz=>z),q];simp⟩⟩
 by_cases hbe:b=e
 ·subst hbe;exact heo
 ·exact ⟨u,k b u hbe q⟩
end
def trk (h:Heap)(H:Hp):List Addr:=(sN h.objs.size).filter λa=>(H a).isSome
def gh (h:Heap)(H:Hp):Heap:=PySem.W.hideAll h (trk h H)
theorem jI (h:Heap)(H:Hp):(gh h H).objs.size=h.objs.size:=PySem.W.hideAll_size _ _
theorem kh {h:Heap}{H:Hp}{b:Addr}{o:Obj}(e:h.get? b=some o)(n:H b=none):(gh h H).get? b=some o :=
 PySem.W.hideAll_get _ e λhm=>by
  have q:(H b).isSome=true:=(tZ.mp hm).2
  rw[n] at q;simp at q
theorem lX {h:Heap}{H:Hp}{b:Addr}{o:Obj}(e:(gh h H).get? b=some o):h.get? b=some o/\H b=none:=by
 have e':h.get? b=some o:=PySem.W.of_hideAll (trk h H) e
 refine ⟨e',?_⟩
 cases q:H b with
 | none=>rfl
 | some x =>
  have hm:b∈trk h H:=tZ.mpr ⟨uL.mpr (qP e'),by simp[q]⟩
  have z:(gh h H).get? b=none:=PySem.W.hideAll_none (trk h H) hm
  rw[z] at e;cases e
def lY (g h:Heap)(L:Addr):List (Addr×Obj):=(sN h.objs.size).filterMap λa=>if a=L\/(g.get? a).isSome=true then none else (h.get? a).map λo=>(a,o)
def rest (g h:Heap)(L d:Addr):List (Addr×Obj):=(lY g h L).filter λp=>decide (p.1≠d)
open PySem PySem.Spec PyProof.Rows
structure Mod (K:qv)(mg:Str->Option qw)(base:Heap):Prop where
 kin:K.In base
 glob:base.Ns qT mg
 blt:∃mb,base.Ns builtinsNs mb/\∀x:Str,x ≠ "__name__" -> mb x=rS x
 nolimit:base.NoLimit
structure Cx where
 prog:qX
 w:rO
 K:qv
 mg:Str->Option qw
 base:Heap
 A:r6
 N:List Str
 s₀:qy
 H₀:Hp
 env:Env
 outer:List Env
 stack:List Env
 ex:List Addr
 fn:Str->Bool
 calm:Bool
 pn:List (Addr×Obj)
 xe:qw->qy->Prop
def frs (l:List Env):List Addr:=l.filterMap (·.frame)
abbrev Cx.fs (X:Cx):List Addr:=frs X.outer
def Vis (sc:Scope)(x:Str):Prop:=sc.names.lookup x=some .local\/sc.names.lookup x=some .cell\/sc.names.lookup x=some .free
def Loc (sc:Scope)(x:Str):Prop:=sc.names.lookup x=some .local\/sc.names.lookup x=some .cell
def Look (env:Env)(h:Heap)(m:Str->Option qw)(x:Str)(u:qw):Prop :=
 (env.kindOf x=some .local/\m x=some u)\/((env.kindOf x=some .cell\/env.kindOf x=some .free)/\∃c,env.cells.lookup x=some c/\h.IsCell c (some u))
structure Cx.Ok (X:Cx):Prop where
 mod:Mod X.K X.mg X.base
 kind:X.env.scope.kind = .function
 glob:X.env.globals=qT
 blt:X.env.builtins=builtinsNs
 above:X.s₀.heap.objs.size<=X.env.locals
 inj:∀x y c,X.env.cells.lookup x=some c->X.env.cells.lookup y=some c->x=y
 has:∀x,(X.env.kindOf x=some .cell\/X.env.kindOf x=some .free)->∃c,X.env.cells.lookup x=some c
 cab:∀x c,X.fn x=true->X.env.cells.lookup x=some c->X.s₀.heap.objs.size<=c
 hd:X.calm=true->X.A.handled=none
 frames:X.A.frames=some X.stack
 stk:X.stack=X.outer\/(X.stack=X.env :: X.outer/\X.env.frame=some X.env.locals)
 exf:∀b∈X.ex,b≠X.env.locals/\∀x c,X.env.cells.lookup x=some c->c≠b
 bs:∀b o,X.base.get? b=some o->X.s₀.heap.get? b=some o/\X.H₀ b=none
 bsz:X.base.objs.size<=X.s₀.heap.objs.size
 noex:∀b o,X.base.get? b=some o->b∉X.ex
 exfs:∀b∈X.ex,b∉X.fs
 funs:X.s₀.heap.FunFrames X.base X.outer
 frf:∀b∈X.fs,X.H₀ b=none
structure Inv (X:Cx)(pins:List (Addr×Obj))(σ:List (Option V))(H:Hp)(s:qy):Prop where
 ok:X.Ok
 os:s.os=X.s₀.os
 bare:AllBare s.gens
 base:Un X.fs X.ex X.H₀ H X.s₀.heap s.heap
 loc:∃m,s.heap.Ns X.env.locals m/\∀(i:Nat) (x:Str) (v:V),X.N[i]? = some x->σ[i]? = some (some v)->Vis X.env.scope x->∃u,RelV v u/\Look X.env s.heap m x u
 cell:∀x c,X.env.cells.lookup x=some c->∃v,s.heap.IsCell c v
 free:H X.env.locals=none
 freeC:∀x c,X.env.cells.lookup x=some c->H c=none
 pin:∀p∈X.pn++pins,s.heap.get? p.1=some p.2/\H p.1=none/\p.1≠X.env.locals/\p.1∉X.fs/\∀v,p.2.data ≠ .cell v
 hok:HOk X.prog X.w H s.heap
 len:σ.length=X.N.length
section
variable  {X:Cx}{pins:List (Addr×Obj)}{σ:List (Option V)}{H H':Hp}{s:qy}{h':Heap}
theorem Cx.Ok.nofr (ok:X.Ok){b:Addr}{o:Obj}(e:X.base.get? b=some o):b∉X.fs:=λhb=>by
 have:=(ok.funs.mem hb).1
 rw[e] at this;cases this
theorem Inv.bs (I:Inv X pins σ H s):∀b o,X.base.get? b=some o->s.heap.get? b=some o/\H b=none:=λb o e =>
 ⟨I.base.keep b o (I.ok.bs b o e).1 (I.ok.bs b o e).2 (I.ok.nofr e) (I.ok.noex b o e),I.base.free b o (I.ok.bs b o e).1 (I.ok.bs b o e).2 (I.ok.noex b o e)⟩
theorem Inv.bk (I:Inv X pins σ H s):∀b o,X.base.get? b=some o->s.heap.get? b=some o:=λb o e=>(I.bs b o e).1
theorem Inv.mod (I:Inv X pins σ H s):Mod X.K X.mg X.base:=I.ok.mod
theorem Inv.kIn (I:Inv X pins σ H s):X.K.In s.heap:=I.ok.mod.kin.keeps I.bk
theorem Inv.lt (I:Inv X pins σ H s):X.env.locals<s.heap.objs.size:=let ⟨_,hn,_⟩:=I.loc;hn.lt
theorem Inv.sz (I:Inv X pins σ H s):X.s₀.heap.objs.size<=s.heap.objs.size:=rn I.ok.above (vi I.lt)
theorem Inv.nU (I:Inv X pins σ H s){a:Addr}(h:s.heap.objs.size<=a):a∉X.fs:=λhb=>by
 obtain ⟨_,o,ho,_⟩:=I.ok.funs.mem hb
 exact absurd (qM (qP ho) (rn I.sz h)) (sE _)
theorem Inv.cne (I:Inv X pins σ H s):∀x c,X.env.cells.lookup x=some c->c≠X.env.locals:=λx c e z=>by
 obtain ⟨v,o,ho,hd⟩:=I.cell x c e
 obtain ⟨m,⟨o',es,ep,ho',hd',_⟩,_⟩:=I.loc
 rw[z,ho'] at ho;cases ho;rw[hd'] at hd;cases hd
theorem Inv.funs (I:Inv X pins σ H s):s.heap.FunFrames X.base X.outer:=by
 have all:∀(l:List Env),(∀b∈frs l,b∈X.fs)->X.s₀.heap.FunFrames X.base l->s.heap.FunFrames X.base l:=by
  intro l
  induction l with
  | nil=>intro _ _;trivial
  | cons env r ih =>
   intro hs hl
   obtain ⟨hk,⟨L,o,hf,hn,ho,hd⟩,hr⟩:=hl
   have hL:L∈X.fs:=hs L (by unfold frs;rw[tO,hf];exact rk)
   obtain ⟨sl,e⟩:=I.base.slot L o ho (I.ok.frf L hL) hL λz=>I.ok.exfs L z hL
   exact ⟨hk,⟨L,_,hf,hn,e,hd⟩,ih (λb hb=>hs b (by unfold frs;rw[tO,hf];exact qZ _ hb)) hr⟩
 exact all X.outer (λ_ hb=>hb) I.ok.funs
theorem Inv.stack (I:Inv X pins σ H s):s.heap.FunFrames X.base X.stack:=by
 rcases I.ok.stk with e | ⟨e,hf⟩
 ·rw[e];exact I.funs
 ·rw[e]
  obtain ⟨m,hn,_⟩:=I.loc
  refine .cons (by rw[I.ok.kind];decide) hf hn ?_ I.funs
  exact Heap.get?_none_of_le (rn I.ok.bsz I.ok.above)
theorem Inv.gi (I:Inv X pins σ H s):∀b∈frs X.stack,b∈X.env.locals :: X.fs:=λb hb=>by
 rcases I.ok.stk with e | ⟨e,hf⟩
 ·rw[e] at hb;exact qZ _ hb
 ·rw[e] at hb
  unfold frs at hb
  rw[tO,hf] at hb
  exact hb
theorem Inv.gj (I:Inv X pins σ H s):∀b∈frs X.stack,H b=none:=λb hb=>by
 rcases rU.mp (I.gi b hb) with e | hb
 ·rw[e];exact I.free
 ·obtain ⟨_,o,ho,_⟩:=I.ok.funs.mem hb
  exact I.base.free b o ho (I.ok.frf b hb) λz=>I.ok.exfs b z hb
theorem Inv.step {g':Array GenState}{t':Nat}{d':Drawn}{ch:List Addr}(I:Inv X pins σ H s)
  (hch:∀b∈ch,(b∈X.ex\/X.s₀.heap.objs.size<=b)/\b≠X.env.locals/\(∀x c,X.env.cells.lookup x=some c->c≠b)/\∀p∈X.pn++pins,p.1≠b)
  (keep:∀b o,b≠X.env.locals->b∉X.fs->b∉ch->s.heap.get? b=some o->H b=none->h'.get? b=some o)
  (slot:∀b o,b≠X.env.locals->b∈X.fs->b∉ch->s.heap.get? b=some o->H b=none->∃sl,h'.get? b=some { o with slots:=sl }) (free:∀b o,b∉ch->s.heap.get? b=some o->H b=none->H' b=none)
  (there:∀b o,b∉ch->s.heap.get? b=some o->∃o',h'.get? b=some o')
  (tups:∀b xs,H b=some (.tup xs)->H' b=some (.tup xs)) (frzs:∀b o u,H b=some (.frz o u)->H' b=some (.frz o u)) (tbls:∀b ps,H b=some (.tbl ps)->∃more,H' b=some (.tbl (ps++more)))
  (ns:∀m,s.heap.Ns X.env.locals m->h'.Ns X.env.locals m) (hok:HOk X.prog X.w H' h') (hg:AllBare g') :
  Inv X pins σ H' { s with heap:=h',gens:=g',drawn:=d',toks:=t' }:=by
 have neL:∀b o,X.s₀.heap.get? b=some o->b≠X.env.locals:=λb o e=>rM (qM (qP e) I.ok.above)
 have neC:∀b o,X.s₀.heap.get? b=some o->b∉X.ex->b∉ch:=λb o e hx hb=>by
  rcases (hch b hb).1 with z | z
  ·exact hx z
  ·exact absurd (qM (qP e) z) (sE _)
 have cellK:∀x c,X.env.cells.lookup x=some c->∀v,s.heap.IsCell c v->h'.IsCell c v:=λx c e v ⟨o,ho,hd⟩=>by
  have nch:c∉ch:=λz=>(hch c z).2.2.1 x c e rfl
  by_cases hc:c∈X.fs
  ·obtain ⟨sl,q⟩:=slot c o (I.cne x c e) hc nch ho (I.freeC x c e)
   exact ⟨_,q,hd⟩
  ·exact ⟨o,keep c o (I.cne x c e) hc nch ho (I.freeC x c e),hd⟩
 refine ⟨I.ok,I.os,hg,⟨λb o e n hb hx =>?_,λb o e n hb hx =>?_,λb o e n hx =>?_,λb o e hx =>?_,λb xs e=>tups b xs (I.base.tups b xs e),λb o xs e=>frzs b o xs (I.base.frzs b o xs e),λb ps e =>?_⟩,?_,λx c e =>?_,?_,λx c e =>?_,λp hp =>?_,hok,I.len⟩
 ·exact keep b o (neL b o e) hb (neC b o e hx) (I.base.keep b o e n hb hx) (I.base.free b o e n hx)
 ·obtain ⟨sl,e1⟩:=I.base.slot b o e n hb hx
  obtain ⟨sl',e2⟩:=slot b _ (neL b o e) hb (neC b o e hx) e1 (I.base.free b o e n hx)
  exact ⟨sl',e2⟩
 ·obtain ⟨o',e1⟩:=I.base.there b o e hx
  exact free b o' (neC b o e hx) e1 (I.base.free b o e n hx)
 ·obtain ⟨o',e1⟩:=I.base.there b o e hx
  exact there b o' (neC b o e hx) e1
 ·obtain ⟨m1,e1⟩:=I.base.tbls b ps e
  obtain ⟨m2,e2⟩:=tbls b _ e1
  exact ⟨m1++m2,by rw[e2,Array.append_assoc]⟩
 ·obtain ⟨m,hn,hl⟩:=I.loc
  refine ⟨m,ns m hn,λi x v e1 e2 e3 =>?_⟩
  obtain ⟨u,r,l⟩:=hl i x v e1 e2 e3
  refine ⟨u,r,?_⟩
  rcases l with l | ⟨k,c,e,z⟩
  ·exact .inl l
  ·exact .inr ⟨k,c,e,cellK x c e _ z⟩
 ·obtain ⟨v,z⟩:=I.cell x c e
  exact ⟨v,cellK x c e v z⟩
 ·obtain ⟨m,⟨o,_,_,ho,_⟩,_⟩:=I.loc
  exact free _ o (λz=>(hch _ z).2.1 rfl) ho I.free
 ·obtain ⟨v,o,ho,hd⟩:=I.cell x c e
  exact free c o (λz=>(hch c z).2.2.1 x c e rfl) ho (I.freeC x c e)
 ·obtain ⟨e,n,ne,nf,d⟩:=I.pin p hp
  have nch:p.1∉ch:=λz=>(hch p.1 z).2.2.2 p hp rfl
  exact ⟨keep p.1 p.2 ne nf nch e n,free p.1 p.2 nch e n,ne,nf,d⟩
theorem Inv.un {t':Nat}(I:Inv X pins σ H s)(u:Un X.fs [] H H' s.heap h')(hok:HOk X.prog X.w H' h'):Inv X pins σ H' { s with heap:=h',toks:=t' }:=by
 obtain ⟨m,⟨o,es,ep,ho,r⟩,_⟩:=id I.loc
 obtain ⟨sl,hL⟩:=u.any ho I.free (by simp)
 exact I.step (g':=s.gens) (d':=s.drawn) (ch:=[]) (λ_ z=>nomatch z) (λb o _ hb _ e n=>u.keep b o e n hb (by simp)) (λb o _ hb _ e n=>u.slot b o e n hb (by simp)) (λb o _ e n=>u.free b o e n (by simp)) (λb o _ e=>u.there b o e (by simp)) u.tups u.frzs u.tbls (λm' hm=>by
  obtain ⟨o',es',ep',ho',r'⟩:=hm
  rw[ho] at ho';cases ho'
  exact ⟨_,es',ep',hL,r'⟩) hok I.bare
theorem Inv.call {g':Array GenState}{t':Nat}{d':Drawn}{ch:List Addr}(I:Inv X pins σ H s)(u:Un (frs X.stack) ch H H' s.heap h')(hok:HOk X.prog X.w H' h')(hg:AllBare g')
  (hch:∀b∈ch,(b∈X.ex\/X.s₀.heap.objs.size<=b)/\b≠X.env.locals/\(∀x c,X.env.cells.lookup x=some c->c≠b)/\∀p∈X.pn++pins,p.1≠b) :
  Inv X pins σ H' { s with heap:=h',gens:=g',drawn:=d',toks:=t' }:=by
 obtain ⟨m,⟨o,es,ep,ho,r⟩,_⟩:=id I.loc
 obtain ⟨sl,hL⟩:=u.any ho I.free λz=>(hch _ z).2.1 rfl
 exact I.step (ch:=ch) hch (λb o hL hb hc e n=>u.keep b o e n (λz=>(rU.mp (I.gi b z)).elim hL hb) hc) (λb o _ _ hc e n=>u.any e n hc) (λb o hc e n=>u.free b o e n hc) (λb o hc e=>u.there b o e hc) u.tups u.frzs u.tbls (λm' hm=>by
  obtain ⟨o',es',ep',ho',r'⟩:=hm
  rw[ho] at ho';cases ho'
  exact ⟨_,es',ep',hL,r'⟩) hok hg
theorem Inv.turned {t':Nat}{it:Addr}(I:Inv X pins σ H s)(k:∀b o,b≠it->s.heap.get? b=some o->h'.get? b=some o)(hn:H it=none)(hL:it≠X.env.locals)
  (h1:it∈X.ex\/X.s₀.heap.objs.size<=it) (h2:∀x c,X.env.cells.lookup x=some c->c≠it) (h3:∀p∈X.pn++pins,p.1≠it):Inv X pins σ H { s with heap:=h',toks:=t' }:=by
 have nit:∀b u,H b=some u->b≠it:=λb u e z=>by rw[z,hn] at e;cases e
 refine I.step (g':=s.gens) (d':=s.drawn) (ch:=[it]) (λb hb =>?_) (λb o _ _ hc e _=>k b o (λz=>hc (by simp[z])) e) (λb o _ _ hc e _=>⟨o.slots,k b o (λz=>hc (by simp[z])) e⟩) (λ_ _ _ _ n=>n)
  (λb o hc e=>⟨o,k b o (λz=>hc (by simp[z])) e⟩) (λ_ _ e=>e) (λ_ _ _ e=>e) (λb ps e=>⟨#[],by rw[e];simp⟩) (λm hm =>?_) (λb u e =>?_) I.bare
 ·have e:b=it:=by simpa using hb
  subst e
  exact ⟨h1,hL,h2,h3⟩
 ·obtain ⟨o,es,ep,ho,r⟩:=hm
  exact ⟨o,es,ep,k _ o (uv hL) ho,r⟩
 ·refine (I.hok b u e).gf (λc v hc q=>k c v ?_ q) (λ_ q=>q) λ_ _ q=>q
  rcases hc with z | z
  ·rw[z];exact nit b u e
  ·exact nit c _ z
theorem Inv.tok (I:Inv X pins σ H s)(t:Nat):Inv X pins σ H { s with toks:=t }:=I.un (h':=s.heap) (t':=t) Un.refl I.hok
theorem Inv.kept {t':Nat}(I:Inv X pins σ H s)(k:∀b u,s.heap.get? b=some u->h'.get? b=some u):Inv X pins σ H { s with heap:=h',toks:=t' }:=I.un (Un.kept k) (I.hok.kept k)
theorem Inv.laid {a:Addr}{o:HO}{t':Nat}(I:Inv X pins σ H s)(k:∀b u,s.heap.get? b=some u->h'.get? b=some u)(hp:s.heap.objs.size<=a)(new:aX X.prog X.w (upd H a o) h' a o) :
  Inv X pins σ (upd H a o) { s with heap:=h',toks:=t' }:=I.un (Un.laid k hp (I.hok.fresh hp)) (I.hok.laid k hp new)
theorem Inv.write {x e:Addr}{o:HO}{t':Nat}(I:Inv X pins σ H s)(mu:Mut (H x))(he:e=x\/H e=some (.own x))(k:∀b u,b≠e->s.heap.get? b=some u->h'.get? b=some u)(heo:∃u,h'.get? e=some u)
  (new:aX X.prog X.w (upd H x o) h' x o):Inv X pins σ (upd H x o) { s with heap:=h',toks:=t' }:=I.un (Un.write mu he k heo) (I.hok.write mu he k heo new)
theorem Inv.dr {pins':List (Addr×Obj)}(I:Inv X pins σ H s)(h:∀p∈pins',s.heap.get? p.1=some p.2/\H p.1=none/\p.1≠X.env.locals/\p.1∉X.fs/\∀v,p.2.data ≠ .cell v):Inv X pins' σ H s :=
 ⟨I.ok,I.os,I.bare,I.base,I.loc,I.cell,I.free,I.freeC,λp hp=>(qH.mp hp).elim (λz=>I.pin p (wz _ z)) (h p),I.hok,I.len⟩
theorem eM {N:List Str}(hN:N.Nodup){i j:Nat}{x:Str}(a:N[i]? = some x)(b:N[j]? = some x):i=j:=by
 obtain ⟨h1,e1⟩:=qI.mp a
 obtain ⟨h2,e2⟩:=qI.mp b
 exact (List.getElem_inj hN).mp (e1.trans e2.symm)
theorem jJ {M:Model}{A:r6}{E:qw->qy->Prop}{i:Nat}{x:Str}{v:V}{u:qw}{Q:Unit->qy->Prop}(I:Inv X pins σ H s)(hN:X.N.Nodup)(hi:X.N[i]? = some x)(hx:Loc X.env.scope x)(r:RelV v u)
  (h:∀s',Inv X pins (σ.set i (some v)) H s'->(∃a,Heap.SameBut a s.heap s'.heap/\(a=X.env.locals\/X.env.cells.lookup x=some a))->Q () s') (hf:X.fn x=true\/X.env.scope.names.lookup x=some .local:=by first | exact .inl rfl | exact .inr rfl | assumption):rH M A (storeName X.env x u) Q E s:=by
 obtain ⟨m,hn,hl⟩:=id I.loc
 have hcls:(X.env.scope.kind == .class || (X.env.scope.kind == .module && X.env.locals != X.env.globals))=false:=by rw[I.ok.kind];rfl
 have hiσ:i<σ.length:=by rw[I.len];exact (qI.mp hi).1
 have cne:=I.cne
 have tracked:∀{a:Addr} {h':Heap},(∃o,s.heap.get? a=some o/\H a=none)->Heap.SameBut a s.heap h'->HOk X.prog X.w H h':=λ{a h'} ha hs b ob e=>by
  obtain ⟨_,_,hfree⟩:=ha
  refine (I.hok b ob e).gf (λc w' hc q=>(hs.2 c ?_).trans q) (λ_ q=>q) λ_ _ q=>q
  rintro rfl
  rcases hc with rfl | hc
  ·rw[hfree] at e;cases e
  ·rw[hfree] at hc;cases hc
 rcases hx with hk | hk
 ·refine wpAny_storeName_local hk hn (λh' hn' hs =>?_) hcls
  obtain ⟨oL,_,_,hoL,_⟩:=id hn
  refine h _ ⟨I.ok,I.os,I.bare,⟨λb o e n hb hx =>?_,λb o e n hb hx =>?_,I.base.free,λb o e hx =>?_,I.base.tups,I.base.frzs,I.base.tbls⟩,⟨_,hn',λj y v' e1 e2 e3 =>?_⟩,λy c e =>?_,I.free,I.freeC,λp hp =>?_,tracked ⟨oL,hoL,I.free⟩ hs,by simpa using I.len⟩ ⟨_,hs,.inl rfl⟩
  ·exact (hs.2 b (rM (qM (qP e) I.ok.above))).trans (I.base.keep b o e n hb hx)
  ·obtain ⟨sl,e1⟩:=I.base.slot b o e n hb hx
   exact ⟨sl,(hs.2 b (rM (qM (qP e) I.ok.above))).trans e1⟩
  ·obtain ⟨o',e1⟩:=I.base.there b o e hx
   exact ⟨o',(hs.2 b (rM (qM (qP e) I.ok.above))).trans e1⟩
  ·by_cases hj:j=i
   ·subst hj
    rw[hi] at e1;cases e1
    rw[tW hiσ] at e2
    cases e2
    exact ⟨u,r,.inl ⟨hk,by simp⟩⟩
   ·rw[uU (uv hj)] at e2
    obtain ⟨u',r',q⟩:=hl j y v' e1 e2 e3
    refine ⟨u',r',?_⟩
    rcases q with ⟨k,e⟩ | ⟨k,c,e,z⟩
    ·refine .inl ⟨k,?_⟩
     have:y≠x:=λe=>hj (eM hN e1 (e ▸ hi))
     simp[this,e]
    ·exact .inr ⟨k,c,e,z.sameBut hs (cne y c e)⟩
  ·obtain ⟨w',z⟩:=I.cell y c e
   exact ⟨w',z.sameBut hs (cne y c e)⟩
  ·obtain ⟨e,n,ne,nf,d⟩:=I.pin p hp
   exact ⟨(hs.2 p.1 ne).trans e,n,ne,nf,d⟩
 ·have hfn:X.fn x=true:=by
   rcases hf with z | z
   ·exact z
   ·rw[z] at hk;cases hk
  obtain ⟨c,hc⟩:=I.ok.has x (.inl hk)
  obtain ⟨w',z⟩:=I.cell x c hc
  refine wpAny_storeName_cell I.ok.kind hk hc z (λh' hc' hs =>?_)
  obtain ⟨oc,hoc,hocd⟩:=id z
  refine h { s with heap:=h' } ⟨I.ok,I.os,I.bare,⟨λb o e n hb hx =>?_,λb o e n hb hx =>?_,I.base.free,λb o e hx =>?_,I.base.tups,I.base.frzs,I.base.tbls⟩,⟨m,hn.sameBut hs (uv (cne x c hc)),λj y v' e1 e2 e3 =>?_⟩,λy c' e =>?_,I.free,I.freeC,λp hp =>?_,tracked ⟨oc,hoc,I.freeC x c hc⟩ hs,by simpa using I.len⟩ ⟨c,hs,.inr hc⟩
  ·exact (hs.2 b (rM (qM (qP e) (I.ok.cab x c hfn hc)))).trans (I.base.keep b o e n hb hx)
  ·obtain ⟨sl,e1⟩:=I.base.slot b o e n hb hx
   exact ⟨sl,(hs.2 b (rM (qM (qP e) (I.ok.cab x c hfn hc)))).trans e1⟩
  ·obtain ⟨o',e1⟩:=I.base.there b o e hx
   exact ⟨o',(hs.2 b (rM (qM (qP e) (I.ok.cab x c hfn hc)))).trans e1⟩
  ·by_cases hj:j=i
   ·subst hj
    rw[hi] at e1;cases e1
    rw[tW hiσ] at e2
    cases e2
    exact ⟨u,r,.inr ⟨.inl hk,c,hc,hc'⟩⟩
   ·rw[uU (uv hj)] at e2
    obtain ⟨u',r',q⟩:=hl j y v' e1 e2 e3
    refine ⟨u',r',?_⟩
    rcases q with q | ⟨k,c',e,z'⟩
    ·exact .inl q
    ·refine .inr ⟨k,c',e,z'.sameBut hs ?_⟩
     rintro rfl
     exact hj (eM hN e1 (I.ok.inj _ _ _ e hc ▸ hi))
  ·by_cases hcc:c'=c
   ·subst hcc;exact ⟨_,hc'⟩
   ·obtain ⟨w2,z2⟩:=I.cell y c' e
    exact ⟨w2,z2.sameBut hs hcc⟩
  ·obtain ⟨e,n,ne,nf,d⟩:=I.pin p hp
   refine ⟨(hs.2 p.1 ?_).trans e,n,ne,nf,d⟩
   intro q
   rw[q,hoc] at e
   have q':oc=p.2:=rE e
   exact d w' (by rw[<- q'];exact hocd)
theorem eN {M:Model}{A:r6}{E:qw->qy->Prop}{i:Nat}{x:Str}{v:V}{u:qw}{Q:Unit->qy->Prop}(I:Inv X pins σ H s)(hN:X.N.Nodup)(hi:X.N[i]? = some x)(hx:Loc X.env.scope x)(r:RelV v u)
  (h:∀s',Inv X pins (σ.set i (some v)) H s'->Q () s') (hf:X.fn x=true\/X.env.scope.names.lookup x=some .local:=by first | exact .inl rfl | exact .inr rfl | assumption):rH M A (storeName X.env x u) Q E s :=
 jJ I hN hi hx r (λs' I' _=>h s' I') hf
theorem Inv.nu {s':qy}{ch:List Addr}(I:Inv X pins σ H s)(ho:s'.os=s.os)(u:Un (frs X.stack) ch H H' s.heap s'.heap)(hok:HOk X.prog X.w H' s'.heap)(hg:AllBare s'.gens)
  (hch:∀b∈ch,(b∈X.ex\/X.s₀.heap.objs.size<=b)/\b≠X.env.locals/\(∀x c,X.env.cells.lookup x=some c->c≠b)/\∀p∈X.pn++pins,p.1≠b):Inv X pins σ H' s':=by
 obtain ⟨h',g',d',t',o'⟩:=s'
 have e:o'=s.os:=ho
 subst e
 exact I.call (g':=g') (t':=t') (d':=d') u hok hg hch
end
abbrev XK:=qw->Option Addr->Hp->Prop
abbrev St:=List (Option V)
abbrev VK:=V->Hp->Prop
abbrev TE:=St->Hp->VK->Prop
abbrev TT:=St->Hp->(Bool->Hp->Prop)->Prop
abbrev TA:=St->Hp->(List V->Hp->Prop)->Prop
structure Ends where
 nx:St->Hp->Prop
 rt:VK
 bk:St->Hp->Prop:=λ_ _=>False
 ct:St->Hp->Prop:=λ_ _=>False
abbrev TS:=Ends->St->Hp->Prop
def EP (X:Cx)(pins:List (Addr×Obj))(σ:St)(Q:VK)(u:qw)(s':qy):Prop:=∃v H',Inv X pins σ H' s'/\RelV v u/\Q v H'
def TP (X:Cx)(pins:List (Addr×Obj))(σ:St)(Q:Bool->Hp->Prop)(b:Bool)(s':qy):Prop:=∃H',Inv X pins σ H' s'/\Q b H'
def AP (X:Cx)(pins:List (Addr×Obj))(σ:St)(Q:List V->Hp->Prop)(us:List qw)(s':qy):Prop:=∃vs H',Inv X pins σ H' s'/\Vals vs us/\Q vs H'
def SP (X:Cx)(pins:List (Addr×Obj))(D:Ends)(f:Flow)(s':qy):Prop :=
 match f with
 | .next=>∃σ' H',Inv X pins σ' H' s'/\D.nx σ' H'
 | .brk=>∃σ' H',Inv X pins σ' H' s'/\D.bk σ' H'
 | .cont=>∃σ' H',Inv X pins σ' H' s'/\D.ct σ' H'
 | .ret u=>∃v σ' H',Inv X pins σ' H' s'/\RelV v u/\D.rt v H'
def PE (X:Cx)(e:Expr)(t:TE):Prop :=
 ∀(pins:List (Addr×Obj)) (s:qy) (σ:St) (H:Hp) (Q:VK),Inv X pins σ H s->t σ H Q->rH (rD X.prog X.w) X.A (eval e X.env) (EP X pins σ Q) X.xe s
def PT (X:Cx)(e:Expr)(t:TT):Prop :=
 ∀(pins:List (Addr×Obj)) (s:qy) (σ:St) (H:Hp) (Q:Bool->Hp->Prop),Inv X pins σ H s->t σ H Q->rH (rD X.prog X.w) X.A (isTrue e X.env (eval e X.env)) (TP X pins σ Q) X.xe s
def PW (X:Cx)(e:Expr)(t:TT):Prop :=
 ∀(whole:Sem qw) (pins:List (Addr×Obj)) (s:qy) (σ:St) (H:Hp) (Q:Bool->Hp->Prop),Inv X pins σ H s->t σ H Q->rH (rD X.prog X.w) X.A (isTrue e X.env whole) (TP X pins σ Q) X.xe s
theorem PW.pt {X:Cx}{e:Expr}{t:TT}(h:PW X e t):PT X e t:=h _
def PA (X:Cx)(es:List Expr)(t:TA):Prop :=
 ∀(pos:Pos) (pins:List (Addr×Obj)) (s:qy) (σ:St) (H:Hp) (Q:List V->Hp->Prop),Inv X pins σ H s->t σ H Q->rH (rD X.prog X.w) X.A (spliced (u0 pos (rL es X.env))) (AP X pins σ Q) X.xe s
def PS (X:Cx)(st:Stmt)(t:TS):Prop :=
 ∀(pins:List (Addr×Obj)) (s:qy) (σ:St) (H:Hp) (D:Ends),Inv X pins σ H s->t D σ H->rH (rD X.prog X.w) X.A (exec st X.env) (SP X pins D) X.xe s
def PSs (X:Cx)(st:List Stmt)(t:TS):Prop :=
 ∀(pins:List (Addr×Obj)) (s:qy) (σ:St) (H:Hp) (D:Ends),Inv X pins σ H s->t D σ H->rH (rD X.prog X.w) X.A (execs st X.env) (SP X pins D) X.xe s
theorem thn {α:Type}{t:Sem α}{Q Q':α -> qy->Prop}{M:Model}{A:r6}{E:qw->qy->Prop}{s:qy}(h:rH M A t Q E s)(hQ:∀a s,Q a s->Q' a s):rH M A t Q' E s:=sT h hQ λ_ _ x=>x
open PySem PySem.Spec PyProof.Rows
section
variable  {X:Cx}
theorem bin {a b:Expr}{ta tb:TE}(ha:PE X a ta)(hb:PE X b tb){pins:List (Addr×Obj)}{s:qy}{σ:St}{H:Hp}{R:V->V->Hp->Prop}(I:Inv X pins σ H s)(h:ta σ H λx H1=>tb σ H1 λy H2=>R x y H2)
  {α:Type} {Q:α -> qy->Prop} {f:qw->qw->Sem α}
  (hf:∀v u s2 x y H2,Inv X pins σ H2 s2->RelV x v->RelV y u->R x y H2->rH (rD X.prog X.w) X.A (f v u) Q X.xe s2) :
  rH (rD X.prog X.w) X.A (eval a X.env) (λv s₁=>rH (rD X.prog X.w) X.A (eval b X.env) (λu s₂=>rH (rD X.prog X.w) X.A (f v u) Q X.xe s₂) X.xe s₁) X.xe s:=by
 refine thn (ha pins s σ H _ I h) λv s1 ⟨x,H1,I1,r1,q1⟩ =>?_
 refine thn (hb pins s1 σ H1 _ I1 q1) λu s2 ⟨y,H2,I2,r2,q2⟩ =>?_
 exact hf v u s2 x y H2 I2 r1 r2 q2
def px (i:Nat):TE:=λσ H Q=>∃v,σ[i]? = some (some v)/\Q v H
def tC (v:V):TE:=λ_ H Q=>Q v H
theorem nV {i:Nat}{x:Str}{pos:Pos}(hN:X.N[i]? = some x)(hv:Vis X.env.scope x)(hd:(x == ("__debug__" : Str))=false:=by decide)(hcd:(x == ("__classdict__" : Str))=false:=by decide):PE X (.Name x pos) (px i):=by
 intro pins s σ H Q I h
 obtain ⟨v,e,h⟩:=h
 obtain ⟨m,hn,hl⟩:=I.loc
 obtain ⟨u,r,l⟩:=hl i x v hN e hv
 have fin:EP X pins σ Q u s:=⟨v,H,I,r,h⟩
 rcases l with ⟨hk,hm⟩ | ⟨hk,c,hc,hcell⟩
 ·exact xX (wpAny_loadName_local I.ok.kind hk hn hm fin) hd
 ·rcases hk with hk | hk
  ·exact xX (wpAny_loadName_cell I.ok.kind hk hc hcell fin) hd
  ·exact xX (wpAny_loadName_free I.ok.kind hk hc hcell fin hcd) hd
theorem ah {i j pos}:PE X (.Constant (.int i) j pos) (tC (.int i)):=λ_ _ _ H _ I h=>wpAny_Constant_int ⟨.int i,H,I.tok _,⟨_,rfl⟩,h⟩
theorem cC {b j pos}:PE X (.Constant (.bool b) j pos) (tC (.bl b)):=λ_ _ _ H _ I h=>Constant_bool ⟨.bl b,H,I,rfl,h⟩
theorem cg {x j pos}:PE X (.Constant (.str x) j pos) (tC (.str x)):=λ_ _ _ H _ I h=>Calls.Constant_str ⟨.str x,H,I.tok _,⟨_,rfl⟩,h⟩
def Gl (X:Cx)(x:Str):Prop:=X.env.kindOf x=some .globalImplicit
theorem dt {E:qw->qy->Prop}{pins:List (Addr×Obj)}{s:qy}{σ:St}{H:Hp}{x:Str}{u:qw}{pos:Pos}{Q:qw->qy->Prop}(I:Inv X pins σ H s)(hg:Gl X x)(hm:X.mg x=some u)(h:Q u s)
  (hd:(x == ("__debug__" : Str))=false:=by decide):rH (rD X.prog X.w) X.A (eval (.Name x pos) X.env) Q E s :=
 vc I.ok.kind hg (Calls.loadGlobal_global (by rw[I.ok.glob];exact I.mod.glob.keeps I.bk) hm h) hd
theorem gk {E:qw->qy->Prop}{pins:List (Addr×Obj)}{s:qy}{σ:St}{H:Hp}{x:Str}{u:qw}{pos:Pos}{Q:qw->qy->Prop}(I:Inv X pins σ H s)(hg:Gl X x)(hm:X.mg x=none)(hv:rS x=some u)(h:Q u s)
  (hn:x ≠ "__name__" := by decide) (hd:(x == ("__debug__" : Str))=false:=by decide):rH (rD X.prog X.w) X.A (eval (.Name x pos) X.env) Q E s:=by
 obtain ⟨mb,h1,h2⟩:=I.mod.blt
 exact vc I.ok.kind hg (Calls.loadGlobal_builtin (by rw[I.ok.glob];exact I.mod.glob.keeps I.bk) hm (by rw[I.ok.blt];exact h1.keeps I.bk) ((h2 x hn).trans hv) h) hd
theorem bq {x:Str}{v:V}{u:qw}{pos:Pos}(hg:Gl X x)(hm:X.mg x=some u)(r:RelV v u)(hd:(x == ("__debug__" : Str))=false:=by decide):PE X (.Name x pos) (tC v) :=
 λ_ _ _ H _ I h=>dt I hg hm ⟨v,H,I,r,h⟩ hd
theorem bt {x:Str}{v:V}{u:qw}{pos:Pos}(hg:Gl X x)(hm:X.mg x=none)(hv:rS x=some u)(r:RelV v u)(hn:x ≠ "__name__" := by decide)(hd:(x == ("__debug__" : Str))=false:=by decide):PE X (.Name x pos) (tC v) :=
 λ_ _ _ H _ I h=>gk I hg hm hv ⟨v,H,I,r,h⟩ hn hd
variable  {a b:Expr}{ta tb:TE}{pos:Pos}
def PC (X:Cx)(op:CmpOp)(a b:Expr)(t:TE):Prop :=
 ∀(pins:List (Addr×Obj)) (s:qy) (σ:St) (H:Hp) (Q:VK),Inv X pins σ H s->t σ H Q →
  rH (rD X.prog X.w) X.A (eval a X.env) (λv s₁=>rH (rD X.prog X.w) X.A (eval b X.env) (λu s₂=>rH (rD X.prog X.w) X.A (tJ op v u) (EP X pins σ Q) X.xe s₂) X.xe s₁) X.xe s
theorem ki (b:Expr){op:CmpOp}(h:op ≠ .In)(h2:op ≠ .NotIn):behindInMarks op b=false:=by
 have e1:(op == CmpOp.In)=false:=by cases op <;> first | rfl | exact absurd rfl h
 have e2:(op == CmpOp.NotIn)=false:=by cases op <;> first | rfl | exact absurd rfl h2
 cases b <;> simp[behindInMarks,e1,e2]
def tIsN (ta:TE):TE:=λσ H Q=>ta σ H λx H1=>Q (.bl (decide (x = .non))) H1
theorem RelV.kj {x:V}{v:qw}(r:RelV x v):(v == vI)=decide (x = .non):=by
 cases x with
 | non=>cases r;rfl
 | bl _=>cases r;rfl
 | int _=>obtain ⟨t,rfl⟩:=r;rfl
 | str _=>obtain ⟨t,rfl⟩:=r;rfl
 | byt _=>obtain ⟨t,rfl⟩:=r;rfl
 | flt _=>obtain ⟨t,rfl⟩:=r;rfl
 | ref _=>cases r;rfl
 | ty _=>cases r;rfl
theorem kn {j pos'}(ha:PE X a ta):PC X .Is a (.Constant .none j pos') (tIsN ta):=by
 intro pins s σ H Q I h
 refine thn (ha pins s σ H _ I h) λv s1 ⟨x,H1,I1,r1,q1⟩ =>?_
 exact Constant_none (is_none_gen ⟨.bl _,H1,I1,by rw[r1.kj];rfl,q1⟩)
def tB (t:TE):TT:=λσ H Q=>t σ H λx H1=>∃c,x = .bl c/\Q c H1
theorem ko {op:CmpOp}{t:TE}(h:PC X op a b t)(h1:behindInMarks op b=false:=by first | exact ki _ (by decide) (by decide) | rfl):PT X (.Compare a [op] [b] pos) (tB t):=by
 intro pins s σ H Q I hw
 refine wt (thn (h pins s σ H _ I hw) λv s1 h1=>thn h1 λu s2 h2=>thn h2 λc s3 ⟨x,H1,I1,r1,q1⟩ =>?_) h1
 obtain ⟨d,rfl,q⟩:=q1
 cases r1
 exact tx ⟨H1,I1,q⟩
theorem bA {e:Expr}{t:TE}(h:PE X e t)(he:∀whole,isTrue e X.env whole=(do let v ← whole;standAt e.pos;holding [v] (truthy v)):=by intro _;rfl):PT X e (tB t):=by
  intro pins s σ H Q I hw
  refine isTrue_plain (thn (h pins s σ H _ I hw) λv s1 ⟨x,H1,I1,r1,q1⟩ =>?_) (he _)
  obtain ⟨d,rfl,q⟩:=q1
  cases r1
  exact tx ⟨H1,I1,q⟩
variable  {tA tB':TT}{rest:List Expr}
def tAnd (t u:TT):TT:=λσ H Q=>t σ H λc H1=>if c=true then u σ H1 Q else Q false H1
def tOr (t u:TT):TT:=λσ H Q=>t σ H λc H1=>if c=true then Q true H1 else u σ H1 Q
def tNot (t:TT):TT:=λσ H Q=>t σ H λc H1=>Q (!c) H1
theorem du (ha:PT X a tA):PW X (.BoolOp .And [a] pos) tA:=by
 intro wh pins s σ H Q I h
 refine isTrue_and (thn (ha pins s σ H Q I h) λc s1 e =>?_)
 cases c with
 | true=>exact isTrue_and_nil e
 | false=>exact e
theorem gm (ha:PT X a tA):PW X (.BoolOp .Or [a] pos) tA:=by
 intro wh pins s σ H Q I h
 refine isTrue_or (thn (ha pins s σ H Q I h) λc s1 e =>?_)
 cases c with
 | false=>exact isTrue_or_nil e
 | true=>exact e
theorem dN (ha:PT X a tA)(hb:PW X (.BoolOp .And (b :: rest) pos) tB'):PW X (.BoolOp .And (a :: b :: rest) pos) (tAnd tA tB'):=by
 intro wh pins s σ H Q I h
 refine isTrue_and (thn (ha pins s σ H _ I h) λc s1 ⟨H1,I1,q1⟩ =>?_)
 cases c with
 | true=>exact hb wh pins s1 σ H1 Q I1 q1
 | false=>exact ⟨H1,I1,q1⟩
theorem iZ (ha:PT X a tA)(hb:PW X (.BoolOp .Or (b :: rest) pos) tB'):PW X (.BoolOp .Or (a :: b :: rest) pos) (tOr tA tB'):=by
 intro wh pins s σ H Q I h
 refine isTrue_or (thn (ha pins s σ H _ I h) λc s1 ⟨H1,I1,q1⟩ =>?_)
 cases c with
 | true=>exact ⟨H1,I1,q1⟩
 | false=>exact hb wh pins s1 σ H1 Q I1 q1
theorem bU (ha:PT X a tA):PT X (.UnaryOp .Not a pos) (tNot tA):=by
 intro pins s σ H Q I h
 exact isTrue_not (ha pins s σ H (λc H1=>Q (!c) H1) I h)
def pz (ta tb:TE):TE:=λσ H Q=>ta σ H λx H1=>∃c,x = .bl c/\if c=true then tb σ H1 Q else Q (.bl false) H1
def pA (ta:TE):TE:=λσ H Q=>ta σ H λx H1=>∃c,x = .bl c/\Q (.bl (!c)) H1
theorem gn {op}{t:TE}(h:PE X a t):PE X (.BoolOp op [a] pos) t:=λpins s σ H Q I hw=>BoolOp_one (h pins s σ H Q I hw)
theorem dO (ha:PE X a ta)(hb:PE X (.BoolOp .And (b :: rest) pos) tb):PE X (.BoolOp .And (a :: b :: rest) pos) (pz ta tb):=by
 intro pins s σ H Q I h
 refine BoolOp_and (thn (ha pins s σ H _ I h) λv s1 ⟨x,H1,I1,r1,q1⟩ =>?_)
 obtain ⟨c,rfl,q1⟩:=q1
 cases r1
 refine tx ?_
 cases c with
 | true=>exact hb pins s1 σ H1 Q I1 q1
 | false=>exact ⟨.bl false,H1,I1,rfl,q1⟩
theorem kq (ha:PE X a ta):PE X (.UnaryOp .Not a pos) (pA ta):=by
 intro pins s σ H Q I h
 refine UnaryOp_ (thn (ha pins s σ H _ I h) λv s1 ⟨x,H1,I1,r1,q1⟩ =>?_)
 obtain ⟨c,rfl,q1⟩:=q1
 cases r1
 exact not_of (tx ⟨.bl (!c),H1,I1,rfl,q1⟩)
end
open PySem PySem.Spec PyProof.Rows
def SqL (K:qv)(H:Hp)(a:Addr)(xs:List V):Prop :=
 Rd H a (.lst xs) ∨
  ∃(o:Obj) (its:Array qw) (n:Nat),K.lookup a=some o/\o.cls = .type "list" /\ o.dict=none/\o.data = .seq its n/\its.size<=qD/\Vals xs its.toList
def SqT (K:qv)(H:Hp)(a:Addr)(xs:List V):Prop :=
 Rd H a (.tup xs) ∨
  ∃(o:Obj) (its:Array qw) (n:Nat),K.lookup a=some o/\o.cls = .type "tuple" /\ o.data = .seq its n/\its.size<=qD/\Vals xs its.toList
def absV:qw->Option V
 | .none=>some .non
 | .bool b=>some (.bl b)
 | .int i _=>some (.int i)
 | .str x _=>some (.str x)
 | .bytes b _=>some (.byt b)
 | .float b _=>some (.flt b)
 | .ref a=>some (.ref a)
 | .type n=>some (.ty n)
 | _=>none
theorem RelV.abs {x:V}{u:qw}(r:RelV x u):absV u=some x:=by
 cases x with
 | non=>cases r;rfl
 | bl _=>cases r;rfl
 | int _=>obtain ⟨t,rfl⟩:=r;rfl
 | str _=>obtain ⟨t,rfl⟩:=r;rfl
 | byt _=>obtain ⟨t,rfl⟩:=r;rfl
 | flt _=>obtain ⟨t,rfl⟩:=r;rfl
 | ref _=>cases r;rfl
 | ty _=>cases r;rfl
theorem RelV.inj {x y:V}{u:qw}(r:RelV x u)(q:RelV y u):x=y:=rE (r.abs.symm.trans q.abs)
theorem Vals.inj:∀{xs ys:List V} {us:List qw},Vals xs us->Vals ys us->xs=ys
 | _,_,_,.nil,.nil=>rfl
 | _,_,_,.cons r t,.cons r' t'=>by rw[r.inj r',Vals.inj t t']
section
variable  {X:Cx}{pins:List (Addr×Obj)}{σ:St}{H:Hp}{s:qy}{a:Addr}{xs ys:List V}
theorem SqL.of {K:qv}(h:H a=some (.lst xs)):SqL K H a xs :=.inl (.inl h)
theorem SqT.of {K:qv}(h:H a=some (.tup xs)):SqT K H a xs :=.inl (.inl h)
theorem Inv.list (I:Inv X pins σ H s)(h:SqL X.K H a xs):∃its:List qw,Vals xs its/\PlainL s.heap a its.toArray/\xs.length<=qD:=by
 rcases h with h | ⟨o,its,n,hk,hc,hd,hs,hz,r⟩
 ·obtain ⟨z,its,n,r,e⟩:=h.ok I.hok
  exact ⟨its,r,⟨_,n,e,rfl,rfl,rfl⟩,z⟩
 ·refine ⟨its.toList,r,⟨o,n,I.kIn a o hk,hc,hd,by simpa using hs⟩,?_⟩
  have e:=r.length
  simp only[qF] at e
  lia
theorem Inv.tuple (I:Inv X pins σ H s)(h:SqT X.K H a xs):∃its:List qw,Vals xs its/\IsTup s.heap a its.toArray/\xs.length<=qD:=by
 rcases h with h | ⟨o,its,n,hk,hc,hs,hz,r⟩
 ·obtain ⟨z,its,r,p⟩:=h.ok I.hok
  exact ⟨its,r,p.tup,z⟩
 ·refine ⟨its.toList,r,⟨o,I.kIn a o hk,hc,n,by simpa using hs⟩,?_⟩
  have e:=r.length
  simp only[qF] at e
  lia
theorem Inv.kr (I:Inv X pins σ H s)(h:SqL X.K H a xs)(h':SqL X.K H a ys):xs=ys:=by
 obtain ⟨its,r,⟨o,n,e,_,_,d⟩,_⟩:=I.list h
 obtain ⟨its',r',⟨o',n',e',_,_,d'⟩,_⟩:=I.list h'
 rw[e] at e';cases e'
 rw[d] at d'
 injection d' with d1 _
 have:its=its':=by simpa using congrArg Array.toList d1
 subst this
 exact r.inj r'
theorem Inv.fE (I:Inv X pins σ H s)(h:SqT X.K H a xs)(h':SqT X.K H a ys):xs=ys:=by
 obtain ⟨its,r,⟨o,e,_,n,d⟩,_⟩:=I.tuple h
 obtain ⟨its',r',⟨o',e',_,n',d'⟩,_⟩:=I.tuple h'
 rw[e] at e';cases e'
 rw[d] at d'
 injection d' with d1 _
 have:its=its':=by simpa using congrArg Array.toList d1
 subst this
 exact r.inj r'
end
abbrev Cx.eE (X:Cx)(E:qw->qy->Prop):Cx:={ X with xe:=E }
abbrev Cx.nox (X:Cx):Cx:=X.eE λ_ _=>False
theorem Cx.Ok.eE {X:Cx}(ok:X.Ok)(E:qw->qy->Prop):(X.eE E).Ok :=
 ⟨ok.mod,ok.kind,ok.glob,ok.blt,ok.above,ok.inj,ok.has,ok.cab,ok.hd,ok.frames,ok.stk,ok.exf,ok.bs,ok.bsz,ok.noex,ok.exfs,ok.funs,ok.frf⟩
theorem Cx.Ok.bK {X:Cx}{E:qw->qy->Prop}(ok:(X.eE E).Ok):X.Ok :=
 ⟨ok.mod,ok.kind,ok.glob,ok.blt,ok.above,ok.inj,ok.has,ok.cab,ok.hd,ok.frames,ok.stk,ok.exf,ok.bs,ok.bsz,ok.noex,ok.exfs,ok.funs,ok.frf⟩
section
variable  {X:Cx}{pins:List (Addr×Obj)}{σ:St}{H:Hp}{s:qy}{E:qw->qy->Prop}
theorem Inv.eE (I:Inv X pins σ H s)(E:qw->qy->Prop):Inv (X.eE E) pins σ H s:=⟨I.ok.eE E,I.os,I.bare,I.base,I.loc,I.cell,I.free,I.freeC,I.pin,I.hok,I.len⟩
theorem Inv.bK (I:Inv (X.eE E) pins σ H s):Inv X pins σ H s:=⟨I.ok.bK,I.os,I.bare,I.base,I.loc,I.cell,I.free,I.freeC,I.pin,I.hok,I.len⟩
theorem SP.bK {D:Ends}{f:Flow}{s':qy}(h:SP (X.eE E) pins D f s'):SP X pins D f s':=by
 cases f with
 | next=>obtain ⟨σ',H',I,q⟩:=h;exact ⟨σ',H',I.bK,q⟩
 | brk=>obtain ⟨σ',H',I,q⟩:=h;exact ⟨σ',H',I.bK,q⟩
 | cont=>obtain ⟨σ',H',I,q⟩:=h;exact ⟨σ',H',I.bK,q⟩
 | ret u=>obtain ⟨v,σ',H',I,r,q⟩:=h;exact ⟨v,σ',H',I.bK,r,q⟩
theorem PSs.nox {st:List Stmt}{t:TS}(h:PSs X.nox st t):PSs X st t:=λpins s σ H D I hw =>
 sT (h pins s σ H D (I.eE _) hw) (λ_ _ q=>q.bK) λ_ _ z=>False.elim z
end
section
variable  {X:Cx}{st:Stmt}{rest:List Stmt}{t u:TS}{e:Expr}{te:TE}{pos:Pos}
def pB:TS:=λD σ H=>D.nx σ H
def tSeq (t u:TS):TS:=λD σ H=>t { D with nx:=u D } σ H
theorem aM:PSs X [] pB:=λ_ _ σ H _ I h=>uE ⟨σ,H,I,h⟩
theorem ai (h1:PS X st t)(h2:PSs X rest u):PSs X (st :: rest) (tSeq t u):=by
 intro pins s σ H D I h
 refine vV (thn (h1 pins s σ H { D with nx:=u D } I h) λf s1 q =>?_)
 cases f with
 | next =>
  obtain ⟨σ',H',I',q⟩:=q
  exact h2 pins s1 σ' H' D I' q
 | ret v=>exact q
 | brk=>exact q
 | cont=>exact q
theorem ak (h1:PS X st t):PSs X [st] t:=by
 intro pins s σ H D I h
 refine vV (thn (h1 pins s σ H D I h) λf s1 q =>?_)
 cases f with
 | next=>exact uE q
 | ret v=>exact q
 | brk=>exact q
 | cont=>exact q
theorem Inv.quiet {pins:List (Addr×Obj)}{σ:St}{H:Hp}{s:qy}(I:Inv X pins σ H s):interactive X.env=false:=by simp[interactive,I.ok.kind]
def pC (te:TE):TS:=λD σ H=>te σ H λ_ H1=>D.nx σ H1
theorem gp (he:PE X e te)(hs:swapsWith e none pos.line X.env=pure false:=by rfl):PS X (.Expr e pos) (pC te):=by
 intro pins s σ H D I h
 exact wpAny_Expr_any (thn (he pins s σ H _ I h) λv s1 ⟨x,H1,I1,r1,q1⟩=>⟨σ,H1,I1,q1⟩) I.quiet hs
def tRet (te:TE):TS:=λD σ H=>te σ H D.rt
theorem aH (he:PE X e te):PS X (.Return (some e) pos) (tRet te):=by
 intro pins s σ H D I h
 exact wpAny_Return_some (thn (he pins s σ H _ I h) λv s1 ⟨x,H1,I1,r1,q1⟩=>⟨x,σ,H1,I1,r1,q1⟩)
def tIfS (c:TT)(t u:TS):TS:=λD σ H=>c σ H λb H1=>if b=true then t D σ H1 else u D σ H1
theorem bo {c:Expr}{a b:List Stmt}{tc:TT}(hc:PT X c tc)(ha:PSs X a t)(hb:PSs X b u):PS X (.If c a b pos) (tIfS tc t u):=by
 intro pins s σ H D I h
 refine wpAny_If (thn (hc pins s σ H _ I h) λd s1 ⟨H1,I1,q1⟩ =>?_)
 cases d with
 | true=>exact ha pins s1 σ H1 D I1 q1
 | false=>exact hb pins s1 σ H1 D I1 q1
def nW:TS:=λ_ _ _=>False
theorem bP {sts:List Stmt}:PSs X sts nW:=λ_ _ _ _ _ _ h=>h.elim
end
abbrev TG:=V->St->Hp->(St->Hp->Prop)->Prop
abbrev TGs:=List V->St->Hp->(St->Hp->Prop)->Prop
def PG (X:Cx)(target:Expr)(t:TG):Prop :=
 ∀(pins:List (Addr×Obj)) (s:qy) (σ:St) (H:Hp) (v:V) (u:qw) (Q:St->Hp->Prop),Inv X pins σ H s->RelV v u->t v σ H Q →
  rH (rD X.prog X.w) X.A (assign target X.env u) (λ_ s'=>∃σ' H',Inv X pins σ' H' s'/\Q σ' H') X.xe s
def PGs (X:Cx)(ts:List Expr)(t:TGs):Prop :=
 ∀(pins:List (Addr×Obj)) (s:qy) (σ:St) (H:Hp) (vs:List V) (us:List qw) (Q:St->Hp->Prop),Inv X pins σ H s->Vals vs us->t vs σ H Q →
  rH (rD X.prog X.w) X.A (assignInOrder ((assignEach ts X.env).map (·.2)) us) (λ_ s'=>∃σ' H',Inv X pins σ' H' s'/\Q σ' H') X.xe s
abbrev nX:=V->V->V->Hp->(Hp->Prop)->Prop
def pE (X:Cx)(t:nX):Prop :=
 ∀(pins:List (Addr×Obj)) (s:qy) (σ:St) (H:Hp) (o i v:V) (ov iv u:qw) (Q:Hp->Prop),Inv X pins σ H s->RelV o ov->RelV i iv->RelV v u->t o i v H Q →
  rH (rD X.prog X.w) X.A (setItem ov iv u) (λ_ s'=>∃H',Inv X pins σ H' s'/\Q H') X.xe s
section
variable  {X:Cx}{pos:Pos}
def ef (i:Nat):TG:=λv σ H Q=>Q (σ.set i (some v)) H
theorem aW {i:Nat}{x:Str}(hN:X.N.Nodup)(hi:X.N[i]? = some x)(hx:Loc X.env.scope x)(hf:X.fn x=true\/X.env.scope.names.lookup x=some .local:=by first | exact .inl rfl | exact .inr rfl | assumption):PG X (.Name x pos) (ef i):=by
 intro pins s σ H v u Q I r h
 exact wpAny_assign_Name (eN I hN hi hx r (λs' I'=>⟨_,H,I',h⟩) hf)
def pG:TGs:=λvs σ H Q=>vs=[]/\Q σ H
def ku (t:TG)(u:TGs):TGs:=λvs σ H Q=>∃v r,vs=v :: r/\t v σ H λσ' H'=>u r σ' H' Q
theorem gq:PGs X [] pG:=by
 intro pins s σ H vs us Q I r h
 obtain ⟨e,h⟩:=h
 subst e
 cases r
 exact assignInOrder_nil ⟨σ,H,I,h⟩
theorem bX {e:Expr}{es:List Expr}{t:TG}{u:TGs}(h1:PG X e t)(h2:PGs X es u)
  (hs:(assignEach (e :: es) X.env).map (·.2)=assign e X.env :: (assignEach es X.env).map (·.2):=by rfl):PGs X (e :: es) (ku t u):=by
 intro pins s σ H vs us Q I r h
 obtain ⟨v,vr,e1,h⟩:=h
 subst e1
 cases r with
 | cons r rr =>
  rw[hs]
  refine assignInOrder_cons (thn (h1 pins s σ H _ _ _ I r h) λ_ s1 ⟨σ1,H1,I1,q1⟩ =>?_)
  exact h2 pins s1 σ1 H1 _ _ Q I1 rr q1
def pH (K:qv)(n:Nat)(t:TGs):TG:=λv σ H Q=>∃a xs,v = .ref a/\SqT K H a xs/\xs.length=n/\t xs σ H Q
theorem iz {es:List Expr}{k:Nat}{t:TGs}{n:Nat}(hc:X.calm=true)(h:PGs X es t)
  (hn:(assignEach es X.env).length=n:=by rfl) (hst:(assignEach es X.env).findIdx? (·.1)=none:=by rfl):PG X (.Tuple es k pos) (pH X.K n t):=by
 intro pins s σ H v u Q I r hw
 obtain ⟨a,xs,e1,hq,hl,hw⟩:=hw
 subst e1
 cases r
 obtain ⟨its,rv,ht,hz⟩:=I.tuple hq
 refine assign_Tuple_tuple (I.ok.hd hc) ht (by simp[hn, <- hl,rv.length]) hst λh' hx =>?_
 have I1:Inv X pins σ H { s with heap:=h' }:=I.kept (t':=s.toks) λb o e=>hx b o (rM (qP e)) e
 exact h pins _ σ H xs _ Q I1 (by simpa using rv) hw
def gSub (to ti:TE)(t:nX):TG:=λv σ H Q=>to σ H λo H1=>ti σ H1 λi H2=>t o i v H2 λH3=>Q σ H3
theorem nY {o i:Expr}{to ti:TE}{t:nX}(ho:PE X o to)(hi:PE X i ti)(hs:pE X t)
    (ha:∀v,assign (.Subscript o i pos) X.env v=(do
      let ov ← holding [v] (eval o X.env)
      let iv ← holding [v,ov] (eval i X.env)
      standAt pos
      holding [v,ov,iv] (setItem ov iv v)
      release [v,ov,iv] []):=by intro _;rfl):PG X (.Subscript o i pos) (gSub to ti t):=by
  intro pins s σ H v u Q I r h
  rw[ha]
  refine qA (uh (thn (ho pins s σ H _ I h) λov s1 ⟨x,H1,I1,r1,q1⟩ =>?_))
  refine qA (uh (thn (hi pins s1 σ H1 _ I1 q1) λiv s2 ⟨y,H2,I2,r2,q2⟩ =>?_))
  refine qA (w5 (qA (uh (thn (hs pins s2 σ H2 x y v ov iv u _ I2 r1 r2 r q2) λ_ s3 ⟨H3,I3,q3⟩ =>?_))))
  exact wpAny_release ⟨σ,H3,I3,q3⟩
def nZ (te:TE)(g:TG):TS:=λD σ H=>te σ H λx H1=>g x σ H1 D.nx
theorem n3 {tg e:Expr}{te:TE}{g:TG}(he:PE X e te)(hg:PG X tg g)(hs:swapsWithSole [tg] e pos.line X.env=pure false:=by rfl)(hw:swappedStores [tg] e X.env=pure none:=by rfl)
  (h1:(assignEach [tg] X.env).map (·.2)=[assign tg X.env]:=by rfl):PS X (.Assign [tg] e pos) (nZ te g):=by
 intro pins s σ H D I h
 refine wpAny_Assign_stores (thn (he pins s σ H _ I h) λv s1 ⟨x,H1,I1,r1,q1⟩ =>?_) hs hw
 rw[h1]
 exact thn (hg pins s1 σ H1 x v _ I1 r1 q1) λ_ s2 q=>q
theorem aI {i:Nat}{x:Str}{e:Expr}{te:TE}{pos':Pos}(hN:X.N.Nodup)(hi:X.N[i]? = some x)(hx:Loc X.env.scope x)(he:PE X e te)(hs:swapsWith e (some (.Name x pos')) pos.line X.env=pure false:=by rfl)(hf:X.fn x=true\/X.env.scope.names.lookup x=some .local:=by first | exact .inl rfl | exact .inr rfl | assumption) :
  PS X (.Assign [.Name x pos'] e pos) (nZ te (ef i)):=by
 intro pins s σ H D I h
 refine wpAny_Assign_Name (thn (he pins s σ H _ I h) λv s1 ⟨y,H1,I1,r1,q1⟩ =>?_) hs
 exact eN I1 hN hi hx r1 (λs2 I2=>⟨_,H1,I2,q1⟩) hf
end
section
variable  {X:Cx}{pos:Pos}
end
structure It where
 go:Nat->Hp->Prop
 yld:Nat->Hp->V->Hp->Prop
 stop:Nat->Hp->Prop
def gr (X:Cx)(pins:List (Addr×Obj))(H:Hp)(b:Addr):Prop :=
 H b=none/\b≠X.env.locals/\b∉X.fs/\(b∈X.ex\/X.s₀.heap.objs.size<=b)/\(∀x c,X.env.cells.lookup x=some c->c≠b)/\∀p∈X.pn++pins,p.1≠b
theorem Inv.n6 {X:Cx}{pins:List (Addr×Obj)}{σ:St}{H H':Hp}{s:qy}{b:Addr}(I:Inv X pins σ H s)(hb:s.heap.objs.size<=b)(hn:H' b=none):gr X pins H' b:=by
 refine ⟨hn,Nat.ne_of_gt (qM I.lt hb),I.nU hb,.inr (rn I.sz hb),λx c e z =>?_,λp hp z =>?_⟩
 ·obtain ⟨v,q⟩:=I.cell x c e
  exact absurd (qM q.lt (by rw[z];exact hb)) (sE _)
 ·exact absurd (qM (qP (I.pin p hp).1) (by rw[z];exact hb)) (sE _)
structure Turn (P:qX)(w:rO)(K:qv)(tg:Expr)(J:It)(fp:List Addr)(it:Addr)(tn:Nat->Heap->Prop):Prop where
 mem:it∈fp
 obj:∀i h,tn i h->∀b∈fp,∃o,h.get? b=some o/\∀v,o.data ≠ .cell v
 keep:∀i h h',tn i h->(∀b∈fp,∀o,h.get? b=some o->h'.get? b=some o)->tn i h'
 item:∀(X:Cx),X.prog=P->X.w=w->X.K=K->X.calm=true->∀(i:Nat) (pins:List (Addr×Obj)) (s:qy) (σ:St) (H:Hp) (E:qw->qy->Prop),Inv X pins σ H s->(∀b∈fp,gr X pins H b)->tn i s.heap->J.go i H →
  rH (rD P w) X.A (pyNext (.ref it)) (λr s1=>∃u,r=some u ∧
   rH (rD P w) X.A (letOwnedTupleGo tg (.ref it) u) (λ_ s2=>∃x H',Inv X pins σ H' s2/\RelV x u/\J.yld i H x H'/\tn (i+1) s2.heap/\∀b∈fp,H' b=none) E s1) E s
 done:∀(X:Cx),X.prog=P->X.w=w->X.K=K->X.calm=true->∀(i:Nat) (pins:List (Addr×Obj)) (s:qy) (σ:St) (H:Hp) (E:qw->qy->Prop),Inv X pins σ H s->(∀b∈fp,gr X pins H b)->tn i s.heap->J.stop i H →
  rH (rD P w) X.A (pyNext (.ref it)) (λr s1=>r=none/\Inv X pins σ H s1) E s
 self:∀(A:r6) (i:Nat) (s:qy) (Q:qw->qy->Prop) (E:qw->qy->Prop),tn i s.heap->Q (.ref it) s->rH (rD P w) A (pyIter (.ref it)) Q E s
abbrev TI:=St->Hp->(It->Hp->Prop)->Prop
def PIE (X:Cx)(pins:List (Addr×Obj))(σ:St)(tg:Expr)(R:It->Hp->Prop)(itv:qw)(s2:qy):Prop :=
 ∃(it:Addr) (fp:List Addr) (tn:Nat->Heap->Prop) (J:It) (H':Hp),itv = .ref it/\Inv X pins σ H' s2/\Turn X.prog X.w X.K tg J fp it tn/\tn 0 s2.heap/\(∀b∈fp,gr X pins H' b)/\R J H'
def PI (X:Cx)(tg iter:Expr)(wi:TI):Prop :=
 ∀(pins:List (Addr×Obj)) (s:qy) (σ:St) (H:Hp) (R:It->Hp->Prop),Inv X pins σ H s->wi σ H R →
  rH (rD X.prog X.w) X.A (eval iter X.env) (λv s1=>rH (rD X.prog X.w) X.A (pyIter v) (PIE X pins σ tg R) X.xe s1) X.xe s
theorem kv {M:Model}{A:r6}{E:qw->qy->Prop}{s:qy}{tg:Expr}{it:Addr}{u:qw}{o:Obj}{n:String}{vs:Array qw}{Q:Unit->qy->Prop}(ho:s.heap.get? it=some o)(hc:o.cls = .type n)(hd:o.data = .fields vs)
    (hn:["enumerate", "zip", "dict_itemiterator", "dict_reverseitemiterator", "odict_iterator", "itertools.zip_longest", "itertools.pairwise"].contains n=false) (hQ:Q () s):rH M A (letOwnedTupleGo tg (.ref it) u) Q E s:=by
  unfold letOwnedTupleGo
  cases tg <;> first
    | exact qR hQ
    | (cases u <;> first
        | exact qR hQ
        | (refine qA (xY ho ?_)
           rw[hc,hd]
           show rH M A (if (["enumerate", "zip", "dict_itemiterator", "dict_reverseitemiterator", "odict_iterator", "itertools.zip_longest", "itertools.pairwise"].contains n && vs[0]? == some (rawInt _))=true then _ else _) Q E s
           rw[if_neg (by intro h;rw[hn,Bool.false_and] at h;cases h)]
           exact qR hQ))
def Itl (K:qv)(a:Addr):It :=
 ⟨λi H=>∃xs x,SqL K H a xs/\xs[i]? = some x,λi H x H'=>H'=H/\∀xs,SqL K H a xs->xs[i]? = some x,λi H=>∃xs,SqL K H a xs/\xs.length<=i⟩
def Itt (K:qv)(a:Addr):It :=
 ⟨λi H=>∃xs x,SqT K H a xs/\xs[i]? = some x,λi H x H'=>H'=H/\∀xs,SqT K H a xs->xs[i]? = some x,λi H=>∃xs,SqT K H a xs/\xs.length<=i⟩
def Itr (lo:Int)(n:Nat):It:=⟨λi _=>i<n,λi H x H'=>H'=H/\x = .int (lo+i),λi _=>n<=i⟩
theorem jK {P:qX}{w:rO}{K:qv}{tg:Expr}(a it:Addr):Turn P w K tg (Itl K a) [it] it (λi h=>h.IsListIter it a i) where
 mem:=by simp
 obj:=λi h st b hb=>by
  have e:b=it:=by simpa using hb
  subst e
  obtain ⟨o,e,c,d⟩:=st
  exact ⟨o,e,λv z=>by rw[d] at z;cases z⟩
 keep:=λi h h' st k=>st.at λo e=>k it (by simp) o e
 item:=by
  intro X hP hw hK hc i pins s σ H E I hf st hg
  subst hP hw hK
  obtain ⟨xs,x,hq,hx⟩:=hg
  obtain ⟨its,rv,p,hz⟩:=I.list hq
  obtain ⟨u,hu,ru⟩:=rv.get hx
  obtain ⟨f0,f1,f2,f3,f4,f5⟩:=hf it (by simp)
  refine wpAny_pyNext_list_item st p.isList (x:=u) (by simpa using hu) λh' st' sb =>?_
  have I1:Inv X pins σ H { s with heap:=h' }:=I.turned (t':=s.toks) (λb o hb e=>(sb.2 b hb).trans e) f0 f1 f3 f4 f5
  obtain ⟨o,e,c,d⟩:=id st'
  exact ⟨u,rfl,kv (s:={ s with heap:=h' }) e c d (by decide) ⟨x,H,I1,ru,⟨rfl,λys hy=>by rw[I.kr hy hq];exact hx⟩,st',λb hb=>(hf b hb).1⟩⟩
 done:=by
  intro X hP hw hK hc i pins s σ H E I hf st hg
  subst hP hw hK
  obtain ⟨xs,hq,hx⟩:=hg
  obtain ⟨its,rv,p,hz⟩:=I.list hq
  obtain ⟨f0,f1,f2,f3,f4,f5⟩:=hf it (by simp)
  have hl:=rv.length
  exact wpAny_pyNext_list_end (I.ok.hd hc) st p.isList (by simp;lia) λh' eb=>⟨rfl,I.turned (t':=s.toks) (λb o hb e=>eb b o hb e) f0 f1 f3 f4 f5⟩
 self:=λ_ _ _ _ _ st h=>wpAny_pyIter_listiter st h
theorem iA {P:qX}{w:rO}{K:qv}{tg:Expr}(a it:Addr):Turn P w K tg (Itt K a) [it] it (λi h=>h.IsTupleIter it a i) where
 mem:=by simp
 obj:=λi h st b hb=>by
  have e:b=it:=by simpa using hb
  subst e
  obtain ⟨o,e,c,d⟩:=st
  exact ⟨o,e,λv z=>by rw[d] at z;cases z⟩
 keep:=λi h h' st k=>st.at λo e=>k it (by simp) o e
 item:=by
  intro X hP hw hK hc i pins s σ H E I hf st hg
  subst hP hw hK
  obtain ⟨xs,x,hq,hx⟩:=hg
  obtain ⟨its,rv,p,hz⟩:=I.tuple hq
  obtain ⟨u,hu,ru⟩:=rv.get hx
  obtain ⟨f0,f1,f2,f3,f4,f5⟩:=hf it (by simp)
  refine wpAny_pyNext_tuple_item st (show s.heap.IsTuple a its.toArray from p) (x:=u) (by simpa using hu) λh' st' sb =>?_
  have I1:Inv X pins σ H { s with heap:=h' }:=I.turned (t':=s.toks) (λb o hb e=>(sb.2 b hb).trans e) f0 f1 f3 f4 f5
  obtain ⟨o,e,c,d⟩:=id st'
  exact ⟨u,rfl,kv (s:={ s with heap:=h' }) e c d (by decide) ⟨x,H,I1,ru,⟨rfl,λys hy=>by rw[I.fE hy hq];exact hx⟩,st',λb hb=>(hf b hb).1⟩⟩
 done:=by
  intro X hP hw hK hc i pins s σ H E I hf st hg
  subst hP hw hK
  obtain ⟨xs,hq,hx⟩:=hg
  obtain ⟨its,rv,p,hz⟩:=I.tuple hq
  obtain ⟨f0,f1,f2,f3,f4,f5⟩:=hf it (by simp)
  have hl:=rv.length
  exact wpAny_pyNext_tuple_end (I.ok.hd hc) st (show s.heap.IsTuple a its.toArray from p) (by simp;lia) λh' eb=>⟨rfl,I.turned (t':=s.toks) (λb o hb e=>eb b o hb e) f0 f1 f3 f4 f5⟩
 self:=λ_ _ _ _ _ st h=>wpAny_pyIter_tupleiter st h
theorem iB {P:qX}{w:rO}{K:qv}{tg:Expr}(it:Addr)(lo:Int)(n:Nat):Turn P w K tg (Itr lo n) [it] it (λi h=>IsRangeIter h it (lo+(i:Nat)*1) ((n:Int)-(i:Nat)) 1) where
 mem:=by simp
 obj:=λi h st b hb=>by
  have e:b=it:=by simpa using hb
  subst e
  exact ⟨_,st,λv z=>by
   have z':Data.fields _=Data.cell v:=z
   cases z'⟩
 keep:=λi h h' st k=>k it (by simp) _ st
 item:=by
  intro X hP hw hK hc i pins s σ H E I hf st hg
  subst hP hw hK
  obtain ⟨f0,f1,f2,f3,f4,f5⟩:=hf it (by simp)
  have W:=Walks.range (prog:=X.prog) (w:=X.w) (I.ok.hd hc) it lo 1 n
  refine W.item i s _ _ hg st λv h' tk hv st' kk =>?_
  obtain ⟨t,rfl⟩:=hv
  have I1:Inv X pins σ H { s with heap:=h',toks:=tk }:=I.turned (λb o hb e=>kk b o (by simpa using hb) e) f0 f1 f3 f4 f5
  refine ⟨_,rfl,kv (s:={ s with heap:=h',toks:=tk }) (n := "range_iterator") st' rfl rfl (by decide) ⟨.int (lo+i),H,I1,⟨t,?_⟩,⟨rfl,rfl⟩,st',λb hb=>(hf b hb).1⟩⟩
  rw[Int.mul_one]
 done:=by
  intro X hP hw hK hc i pins s σ H E I hf st hg
  subst hP hw hK
  obtain ⟨f0,f1,f2,f3,f4,f5⟩:=hf it (by simp)
  exact wpAny_pyNext_range_end (I.ok.hd hc) st (by have:n<=i:=hg;lia) λh' eb=>⟨rfl,I.turned (t':=s.toks) (λb o hb e=>eb b o hb e) f0 f1 f3 f4 f5⟩
 self:=λ_ _ _ _ _ st h=>wpAny_pyIter_rangeiter st h
open PySem PySem.Spec PyProof.Rows
section
variable  {X:Cx}{tg:Expr}
def pI (K:qv)(tl:TE):TI:=λσ H R=>tl σ H λx H1=>∃a,x = .ref a/\(∃xs,SqL K H1 a xs)/\R (Itl K a) H1
def iTup (K:qv)(tl:TE):TI:=λσ H R=>tl σ H λx H1=>∃a,x = .ref a/\(∃xs,SqT K H1 a xs)/\R (Itt K a) H1
theorem gs {l:Expr}{tl:TE}(hl:PE X l tl):PI X tg l (pI X.K tl):=by
 intro pins s σ H R I h
 refine thn (hl pins s σ H _ I h) λv s1 ⟨x,H1,I1,r1,q1⟩ =>?_
 obtain ⟨a,e,⟨xs,hq⟩,q⟩:=q1
 subst e
 cases r1
 obtain ⟨its,rv,p,hz⟩:=I1.list hq
 refine xo p.isList ?_
 refine ⟨s1.heap.objs.size,[s1.heap.objs.size],_,_,H1,rfl,I1.kept (t':=s1.toks) λb o e=>qB _ e,jK a _,⟨_,q8 _ rfl,rfl,rfl⟩,λb hb =>?_,q⟩
 have e:b=s1.heap.objs.size:=by simpa using hb
 subst e
 exact I1.n6 (qz _) (I1.hok.fresh (qz _))
theorem dP {l:Expr}{tl:TE}(hl:PE X l tl):PI X tg l (iTup X.K tl):=by
 intro pins s σ H R I h
 refine thn (hl pins s σ H _ I h) λv s1 ⟨x,H1,I1,r1,q1⟩ =>?_
 obtain ⟨a,e,⟨xs,hq⟩,q⟩:=q1
 subst e
 cases r1
 obtain ⟨its,rv,p,hz⟩:=I1.tuple hq
 refine wpAny_pyIter_tuple (show s1.heap.IsTuple a its.toArray from p) ?_
 refine ⟨s1.heap.objs.size,[s1.heap.objs.size],_,_,H1,rfl,I1.kept (t':=s1.toks) λb o e=>qB _ e,iA a _,⟨_,q8 _ rfl,rfl,rfl⟩,λb hb =>?_,q⟩
 have e:b=s1.heap.objs.size:=by simpa using hb
 subst e
 exact I1.n6 (qz _) (I1.hok.fresh (qz _))
theorem kz {pins:List (Addr×Obj)}{σ:St}{H:Hp}{s:qy}{R:It->Hp->Prop}{E:qw->qy->Prop}{lo hi:Int}{t u v:Tok}{tk:Nat}(I:Inv X pins σ H s)(h1 : -(2 ^ 62)<=lo)(h2:lo<2 ^ 62)(h3 : -(2 ^ 62)<=hi)(h4:hi<2 ^ 62)
  (q:R (Itr lo (hi-lo).toNat) H):rH (rD X.prog X.w) X.A (pyIter (.ref s.heap.objs.size)) (PIE X pins σ tg R) E { s with heap:=s.heap.push { cls :=.type "range",data :=.fields #[.int lo t,.int hi u,.int 1 v] },toks:=tk }:=by
 refine wpAny_pyIter_range (IsRange.new ..) (small_one h1 h2 h3 h4) ?_
 have I1:Inv X pins σ H { s with heap:=s.heap.push { cls :=.type "range",data :=.fields #[.int lo t,.int hi u,.int 1 v] },toks:=tk }:=I.kept λb o e=>qB _ e
 refine ⟨(s.heap.push { cls :=.type "range",data :=.fields #[.int lo t,.int hi u,.int 1 v] }).objs.size,[(s.heap.push { cls :=.type "range",data :=.fields #[.int lo t,.int hi u,.int 1 v] }).objs.size],_,_,H,rfl,
  I1.kept (t':=tk) λb o e=>qB _ e,iB _ lo (hi-lo).toNat,?_,λb hb =>?_,q⟩
 ·have e1:lo+((0:Nat):Int)*1=lo:=by simp
  have e2:(((hi-lo).toNat:Nat):Int)-((0:Nat):Int)=Builtin.Range.rangeSize lo hi 1:=by rw[rangeSize_one];split <;> lia
  show IsRangeIter _ _ (lo+((0:Nat):Int)*1) ((((hi-lo).toNat:Nat):Int)-((0:Nat):Int)) 1
  rw[e1,e2]
  exact q8 _ rfl
 ·have e:b=(s.heap.push { cls :=.type "range",data :=.fields #[.int lo t,.int hi u,.int 1 v] }).objs.size:=by simpa using hb
  subst e
  exact I1.n6 (qz _) (I1.hok.fresh (qz _))
def pJ (ta:TA):TI:=λσ H R=>ta σ H λvs H1=>∃j:Int,vs=[.int j] /\ -(2 ^ 62)<=j/\j<2 ^ 62/\R (Itr 0 j.toNat) H1
theorem bY {a:Expr}{ta:TA}{p pos:Pos}(hg:Gl X "range")(hm:X.mg "range" = none)(ha:PA X [a] ta)(hs:rL [a] X.env=[(false,eval a X.env)]:=by rfl):PI X tg (.Call (.Name "range" p) [a] [] pos) (pJ ta):=by
 intro pins s σ H R I h
 refine Call_ (gk I hg hm boot_range (u6 (thn (ha pos pins s σ H _ I h) λus s1 ⟨vs,H1,I1,r1,q1⟩ =>?_) hs rfl))
 obtain ⟨j,e,q1,q2,q⟩:=q1
 subst e
 cases r1 with
 | cons r rr =>
  cases rr
  obtain ⟨t,rfl⟩:=r
  exact call_range_1 (kz I1 (by lia) (by lia) q1 q2 (by simpa using q))
def tFor (wi:TI)(g:TG)(tb:TS):TS:=λD σ H=>wi σ H λJ H1=>∃W:Nat->Nat->St->Hp->Prop,(∃m,W 0 m σ H1)/\∀i m σ H,W i m σ H →
 (J.stop i H/\D.nx σ H)\/(J.go i H/\∃N:St->Hp->Prop,(∀σ' H',N σ' H'->∃m',m'<m/\W (i+1) m' σ' H')/\∀x H',J.yld i H x H'->g x σ H' λσ2 H2=>tb { D with nx:=N,ct:=N,bk:=D.nx } σ2 H2)
def df (fp:List Addr)(h:Heap):List (Addr×Obj):=fp.filterMap λb=>(h.get? b).map λo=>(b,o)
theorem bR {fp:List Addr}{h:Heap}{b:Addr}{o:Obj}(hb:b∈fp)(e:h.get? b=some o):(b,o)∈df fp h:=vj.mpr ⟨b,hb,by rw[e];rfl⟩
theorem fF {fp:List Addr}{h:Heap}{p:Addr×Obj}(hp:p∈df fp h):p.1∈fp/\h.get? p.1=some p.2:=by
 obtain ⟨b,hb,e⟩:=vj.mp hp
 cases q:h.get? b with
 | none=>rw[q] at e;cases e
 | some o =>
  rw[q] at e
  have e':(b,o)=p:=rE e
  subst e'
  exact ⟨hb,q⟩
theorem Inv.pinned {pins:List (Addr×Obj)}{σ:St}{H:Hp}{s:qy}{fp:List Addr}(I:Inv X pins σ H s)(hf:∀b∈fp,gr X pins H b)(ho:∀b∈fp,∃o,s.heap.get? b=some o/\∀v,o.data ≠ .cell v):Inv X (pins++df fp s.heap) σ H s :=
 I.dr λp hp=>(qH.mp hp).elim (λz=>I.pin p (rq _ z)) λz=>by
  obtain ⟨hb,e⟩:=fF z
  obtain ⟨f0,f1,f2,_⟩:=hf p.1 hb
  obtain ⟨o,e',d⟩:=ho p.1 hb
  rw[e] at e';cases e'
  exact ⟨e,f0,f1,f2,d⟩
theorem Inv.bZ {pins pl:List (Addr×Obj)}{σ:St}{H:Hp}{s:qy}(I:Inv X (pins++pl) σ H s):Inv X pins σ H s:=I.dr λp hp=>I.pin p (rq _ (wz _ hp))
theorem eO {iter:Expr}{body:List Stmt}{wi:TI}{g:TG}{tb:TS}{pos:Pos}(hp:PassesOwn (rD X.prog X.w) X.A X.env X.xe)(hc:X.calm=true)(hi:PI X tg iter wi)(hg:PG X tg g)(hb:PSs X body tb)
  (hs:∀x,foldedSetIterable iter X.env x=pure x:=by intro _;rfl):PS X (.For tg iter body [] pos) (tFor wi g tb):=by
 intro pins s σ H D I h
 refine wpAny_For (thn (hi pins s σ H _ I h) λv s1 h1=>thn h1 λitv s2 h2 =>?_) hs
 obtain ⟨it,fp,tn,J,H2,e,I2,T,st2,f2,W,⟨m0,w0⟩,turn⟩:=h2
 subst e
 have stat:∀{H':Hp},(∀b∈fp,H' b=none)->∀b∈fp,gr X pins H' b:=λhn b hb=>⟨hn b hb,(f2 b hb).2⟩
 refine codeAny_forLoop_any (λn s'=>∃i σ' H',Inv X pins σ' H' s'/\tn i s'.heap/\(∀b∈fp,H' b=none)/\W i n σ' H') ?_ m0 ⟨0,σ,H2,I2,st2,λb hb=>(f2 b hb).1,w0⟩
 rintro n s3 ⟨i,σ3,H3,I3,st3,fr3,w3⟩
 rcases turn i n σ3 H3 w3 with ⟨stop,qn⟩ | ⟨go,N,hN,step⟩
 ·refine uF hp (thn (T.done X rfl rfl rfl hc i pins s3 σ3 H3 X.xe I3 (stat fr3) st3 stop) λr s4 ⟨hr,I4⟩ =>?_)
  subst hr
  exact uE ⟨σ3,H3,I4,qn⟩
 ·refine uF hp (thn (T.item X rfl rfl rfl hc i pins s3 σ3 H3 X.xe I3 (stat fr3) st3 go) λr s4 ⟨u,hr,h4⟩ =>?_)
  subst hr
  refine uF hp (thn h4 λ_ s5 ⟨x,H5,I5,r5,y5,st5,fr5⟩ =>?_)
  have I5':=I5.pinned (stat fr5) (T.obj _ _ st5)
  refine uF hp (thn (hg _ s5 σ3 H5 x u _ I5' r5 (step x H5 y5)) λ_ s6 ⟨σ6,H6,I6,q6⟩ =>?_)
  refine uF hp (thn (hb _ s6 σ6 H6 _ I6 q6) λf s7 q7 =>?_)
  have again:∀{σ7:St} {H7:Hp},Inv X (pins++df fp s5.heap) σ7 H7 s7->N σ7 H7->∃m,m<n/\∃i σ' H',Inv X pins σ' H' s7/\tn i s7.heap/\(∀b∈fp,H' b=none)/\W i m σ' H':=λ{σ7 H7} I7 n7=>by
   obtain ⟨m',hm,w7⟩:=hN σ7 H7 n7
   refine ⟨m',hm,i+1,σ7,H7,I7.bZ,T.keep _ _ _ st5 λb hb o e=>(I7.pin (b,o) (rq _ (rq _ (bR hb e)))).1,λb hb =>?_,w7⟩
   obtain ⟨o,e,d⟩:=T.obj _ _ st5 b hb
   exact (I7.pin (b,o) (rq _ (rq _ (bR hb e)))).2.1
  cases f with
  | next=>obtain ⟨σ7,H7,I7,n7⟩:=q7;exact again I7 n7
  | cont=>obtain ⟨σ7,H7,I7,n7⟩:=q7;exact again I7 n7
  | brk=>obtain ⟨σ7,H7,I7,q7⟩:=q7;exact ⟨σ7,H7,I7.bZ,q7⟩
  | ret v=>obtain ⟨x7,σ7,H7,I7,r7,q7⟩:=q7;exact ⟨x7,σ7,H7,I7.bZ,r7,q7⟩
end
theorem gW {K:qv}{a:Addr}{xs:List V}{g:TG}{tb:TS}{D:Ends}{σ:St}{H:Hp}(Pv:Nat->St->Hp->Prop)(h0:Pv 0 σ H)(hl:∀i σ H,i<=xs.length->Pv i σ H->SqL K H a xs)
  (hs:∀i x σ H,xs[i]? = some x->Pv i σ H->g x σ H λσ2 H2=>tb { D with nx:=Pv (i+1),ct:=Pv (i+1),bk:=D.nx } σ2 H2) (hd:∀σ H,Pv xs.length σ H->D.nx σ H) :
  ∃W:Nat->Nat->St->Hp->Prop,(∃m,W 0 m σ H)/\∀i m σ H,W i m σ H →
   ((Itl K a).stop i H/\D.nx σ H)\/((Itl K a).go i H/\∃N:St->Hp->Prop,(∀σ' H',N σ' H'->∃m',m'<m/\W (i+1) m' σ' H')/\∀x H',(Itl K a).yld i H x H'->g x σ H' λσ2 H2=>tb { D with nx:=N,ct:=N,bk:=D.nx } σ2 H2):=by
 refine ⟨λi m σ H=>m=xs.length-i/\i<=xs.length/\Pv i σ H,⟨xs.length,by simp,sC _,h0⟩,?_⟩
 rintro i m σ H ⟨rfl,hi,p⟩
 have q:=hl i σ H hi p
 by_cases hlt:i<xs.length
 ·refine .inr ⟨⟨xs,xs[i],q,by simp[hlt]⟩,Pv (i+1),λσ' H' p'=>⟨xs.length-(i+1),by lia,rfl,hlt,p'⟩,λx H' y =>?_⟩
  obtain ⟨e,y⟩:=y
  subst e
  exact hs i x σ _ (y xs q) p
 ·have e:i=xs.length:=by lia
  subst e
  exact .inl ⟨⟨xs,q,qz _⟩,hd σ H p⟩
theorem dQ {lo:Int}{n:Nat}{g:TG}{tb:TS}{D:Ends}{σ:St}{H:Hp}(Pv:Nat->St->Hp->Prop)(h0:Pv 0 σ H)
  (hs:∀i σ H,i<n->Pv i σ H->g (.int (lo+i)) σ H λσ2 H2=>tb { D with nx:=Pv (i+1),ct:=Pv (i+1),bk:=D.nx } σ2 H2) (hd:∀σ H,Pv n σ H->D.nx σ H) :
  ∃W:Nat->Nat->St->Hp->Prop,(∃m,W 0 m σ H)/\∀i m σ H,W i m σ H →
   ((Itr lo n).stop i H/\D.nx σ H)\/((Itr lo n).go i H/\∃N:St->Hp->Prop,(∀σ' H',N σ' H'->∃m',m'<m/\W (i+1) m' σ' H')/\∀x H',(Itr lo n).yld i H x H'->g x σ H' λσ2 H2=>tb { D with nx:=N,ct:=N,bk:=D.nx } σ2 H2):=by
 refine ⟨λi m σ H=>m=n-i/\i<=n/\Pv i σ H,⟨n,by simp,sC _,h0⟩,?_⟩
 rintro i m σ H ⟨rfl,hi,p⟩
 by_cases hlt:i<n
 ·refine .inr ⟨hlt,Pv (i+1),λσ' H' p'=>⟨n-(i+1),by lia,rfl,hlt,p'⟩,λx H' y =>?_⟩
  obtain ⟨e,y⟩:=y
  subst e y
  exact hs i σ _ hlt p
 ·have e:i=n:=by lia
  subst e
  exact .inl ⟨qz _,hd σ H p⟩
open PySem PySem.Spec PyProof.Rows
abbrev R2:=V->V->Hp->VK->Prop
def OpR (X:Cx)(f:qw->qw->Sem qw)(r:R2):Prop :=
 ∀(pins:List (Addr×Obj)) (s:qy) (σ:St) (H:Hp) (x y:V) (v u:qw) (Q:VK),Inv X pins σ H s->RelV x v->RelV y u->r x y H Q →
  rH (rD X.prog X.w) X.A (f v u) (EP X pins σ Q) X.xe s
def bM (X:Cx)(f:qw)(r:List V->Hp->VK->Prop):Prop :=
 ∀(pins:List (Addr×Obj)) (s:qy) (σ:St) (H:Hp) (xs:List V) (us:List qw) (Q:VK),Inv X pins σ H s->Vals xs us->r xs H Q →
  rH (rD X.prog X.w) X.A (call f us) (EP X pins σ Q) X.xe s
def tOp (r:R2)(ta tb:TE):TE:=λσ H Q=>ta σ H λx H1=>tb σ H1 λy H2=>r x y H2 Q
def rI (C:Int->Int->Prop)(g:Int->Int->V):R2:=λx y H Q=>∃i j,x = .int i/\y = .int j/\C i j/\Q (g i j) H
def rI0 (g:Int->Int->V):R2:=λx y H Q=>∃i j,x = .int i/\y = .int j/\Q (g i j) H
section
variable  {X:Cx}{a b c:Expr}{ta tb tc:TE}{pos:Pos}
theorem n8 (ha:PE X a ta)(hb:PE X b tb){pins:List (Addr×Obj)}{s:qy}{σ:St}{H:Hp}{R:V->V->Hp->Prop}(I:Inv X pins σ H s)
  (h:ta σ H λx H1=>tb σ H1 λy H2=>R x y H2) {Q:qw->qy->Prop} {f:qw->qw->Sem qw}
  (hf:∀v u s2 x y H2,Inv X pins σ H2 s2->RelV x v->RelV y u->R x y H2->rH (rD X.prog X.w) X.A (f v u) Q X.xe s2) :
  rH (rD X.prog X.w) X.A (eval a X.env) (λv s₁=>rH (rD X.prog X.w) X.A (eval b X.env) (λu s₂=>rH (rD X.prog X.w) X.A (f v u) Q X.xe s₂) X.xe s₁) X.xe s:=by
 refine thn (ha pins s σ H _ I h) λv s1 ⟨x,H1,I1,r1,q1⟩ =>?_
 refine thn (hb pins s1 σ H1 _ I1 q1) λu s2 ⟨y,H2,I2,r2,q2⟩ =>?_
 exact hf v u s2 x y H2 I2 r1 r2 q2
theorem aN {op:Operator}{r:R2}(ho:OpR X (binaryOp op) r)(ha:PE X a ta)(hb:PE X b tb):PE X (.BinOp a op b pos) (tOp r ta tb):=by
 intro pins s σ H Q I h
 exact wpAny_BinOp (n8 ha hb I h λv u s2 x y H2 I2 rx ry q=>ho pins s2 σ H2 x y v u Q I2 rx ry q)
theorem opI {f:qw->qw->Sem qw}{C:Int->Int->Prop}{g:Int->Int->Int}
  (rule:∀(i j:Int) (t u:Tok) (s:qy) (Q:qw->qy->Prop) (E:qw->qy->Prop),C i j->Q (.int (g i j) s.toks) { s with toks:=s.toks+1 }->rH (rD X.prog X.w) X.A (f (.int i t) (.int j u)) Q E s) :
  OpR X f (rI C λi j =>.int (g i j)):=by
 intro pins s σ H x y v u Q I rx ry h
 obtain ⟨i,j,rfl,rfl,hc,q⟩:=h
 obtain ⟨t,rfl⟩:=rx
 obtain ⟨t',rfl⟩:=ry
 exact rule i j t t' s _ _ hc ⟨.int (g i j),H,I.tok _,⟨_,rfl⟩,q⟩
theorem pK {f:qw->qw->Sem qw}{g:Int->Int->Int}
  (rule:∀(i j:Int) (t u:Tok) (s:qy) (Q:qw->qy->Prop) (E:qw->qy->Prop),Q (.int (g i j) s.toks) { s with toks:=s.toks+1 }->rH (rD X.prog X.w) X.A (f (.int i t) (.int j u)) Q E s) :
  OpR X f (rI0 λi j =>.int (g i j)):=by
 intro pins s σ H x y v u Q I rx ry h
 obtain ⟨i,j,rfl,rfl,q⟩:=h
 obtain ⟨t,rfl⟩:=rx
 obtain ⟨t',rfl⟩:=ry
 exact rule i j t t' s _ _ ⟨.int (g i j),H,I.tok _,⟨_,rfl⟩,q⟩
theorem pL {f:qw->qw->Sem qw}{g:Int->Int->Bool}
  (rule:∀(i j:Int) (t u:Tok) (s:qy) (Q:qw->qy->Prop) (E:qw->qy->Prop),Q (.bool (g i j)) s->rH (rD X.prog X.w) X.A (f (.int i t) (.int j u)) Q E s) :
  OpR X f (rI0 λi j =>.bl (g i j)):=by
 intro pins s σ H x y v u Q I rx ry h
 obtain ⟨i,j,rfl,rfl,q⟩:=h
 obtain ⟨t,rfl⟩:=rx
 obtain ⟨t',rfl⟩:=ry
 exact rule i j t t' s _ _ ⟨.bl (g i j),H,I,rfl,q⟩
def CDiv (i j:Int):Prop:=0<j/\j<1073741824
def CPow (i j:Int):Prop:=0<=j/\j<=1000000/\i.natAbs<2 ^ 64
def oa (i j:Int):Prop:=(-(2 ^ 64)<i/\i<2 ^ 64)\/(-(2 ^ 64)<j/\j<2 ^ 64)
theorem oa.ok {i j:Int}(h:oa i j):IntMulOk i j:=by
 rcases h with ⟨h1,h2⟩ | ⟨h1,h2⟩
 ·exact .of_left (intBits_le_64 h1 h2)
 ·exact .of_right (intBits_le_64 h1 h2)
theorem bB:OpR X (binaryOp .Add) (rI0 λi j =>.int (i+j)):=pK λ_ _ _ _ _ _ _ q=>add_int q
theorem kA:OpR X (binaryOp .Sub) (rI0 λi j =>.int (i-j)):=pK λ_ _ _ _ _ _ _ q=>sub_int q
theorem eP:OpR X (binaryOp .Mult) (rI oa λi j =>.int (i*j)):=opI λ_ _ _ _ _ _ _ hc q=>mul_int q hc.ok
theorem lZ:OpR X (binaryOp .FloorDiv) (rI CDiv λi j =>.int (i/j)):=opI λi j _ _ _ _ _ hc q=>by
 have h1:(0:Int)<j:=hc.1
 have h2:j<1073741824:=hc.2
 exact floordiv_int (by lia) (by rw[vd i (by lia)];exact q) (.inl (PyProof.noPylong_small (by lia)))
theorem eQ:OpR X (binaryOp .Mod) (rI (λ_ j=>0<j) λi j =>.int (i%j)):=opI λi j _ _ _ _ _ hc q=>by
 have h1:(0:Int)<j:=hc
 exact mod_int' (by lia) (by rw[ve i (by lia)];exact q)
theorem kB:OpR X (binaryOp .Pow) (rI CPow λi j =>.int (i ^ j.toNat)):=opI λ_ _ _ _ _ _ _ hc q=>pow_int_small hc.1 hc.2.1 hc.2.2 q
end
def pN:V->V->Bool
 | .non,.non=>true | .non,.int _=>true | .int _,.non=>true | .non,.bl _=>true | .bl _,.non=>true | .non,.str _=>true | .str _,.non=>true
 | .int _,.int _=>true | .bl _,.bl _=>true | .str _,.str _=>true | .byt _,.byt _=>true
 | .int _,.str _=>true | .str _,.int _=>true | .bl _,.str _=>true | .str _,.bl _=>true
 | _,_=>false
def rEq:R2:=λx y H Q=>pN x y=true/\Q (.bl (decide (x=y))) H
def rNe:R2:=λx y H Q=>pN x y=true/\Q (.bl (!decide (x=y))) H
theorem i3 {i j:Int}:decide (V.int i=V.int j)=(i == j):=by
 rw[t7]
 simp
theorem kC {i j:Bool}:decide (V.bl i=V.bl j)=(i == j):=by
 rw[t7]
 simp
theorem i4 {i j:Str}:decide (V.str i=V.str j)=(i == j):=by
 rw[t7]
 simp
theorem i5 {i j:Array UInt8}:decide (V.byt i=V.byt j)=(i.toList == j.toList):=by
 rw[t7]
 cases i
 cases j
 simp
section
variable  {X:Cx}{a b c:Expr}{ta tb tc:TE}{pos:Pos}
theorem aL {pins:List (Addr×Obj)}{σ:St}{H:Hp}{s:qy}{Q:VK}{k k':Bool}(I:Inv X pins σ H s)(q:Q (.bl k) H)(e:k=k'):EP X pins σ Q (.bool k') s:=by
 subst e
 exact ⟨.bl k,H,I,rfl,q⟩
theorem eR:OpR X (tJ .Eq) rEq:=by
 intro pins s σ H x y v u Q I rx ry h
 obtain ⟨hs,q⟩:=h
 cases x with
 | non =>
  cases rx
  cases y with
  | non=>cases ry;exact PySem.EqNone.eq_none_none (aL I q (by simp))
  | bl j=>cases ry;exact PySem.EqNone.eq_none_bool (aL I q (by simp))
  | int j=>obtain ⟨t',rfl⟩:=ry;exact PySem.EqNone.eq_none_int (aL I q (by simp))
  | str j=>obtain ⟨t',rfl⟩:=ry;exact PySem.EqNone.eq_none_str (aL I q (by simp))
  | _=>exact absurd (show false=true from hs) qO
 | bl i =>
  cases rx
  cases y with
  | non=>cases ry;exact PySem.EqNone.eq_bool_none (aL I q (by simp))
  | bl j=>cases ry;exact eq_bool (aL I q kC)
  | str j=>obtain ⟨t',rfl⟩:=ry;exact xO (aL I q (by simp))
  | _=>exact absurd (show false=true from hs) qO
 | int i =>
  obtain ⟨t,rfl⟩:=rx
  cases y with
  | non=>cases ry;exact PySem.EqNone.eq_int_none (aL I q (by simp))
  | int j=>obtain ⟨t',rfl⟩:=ry;exact eq_int (aL I q i3)
  | str j=>obtain ⟨t',rfl⟩:=ry;exact xT (aL I q (by simp))
  | _=>exact absurd (show false=true from hs) qO
 | str i =>
  obtain ⟨t,rfl⟩:=rx
  cases y with
  | non=>cases ry;exact PySem.EqNone.eq_str_none (aL I q (by simp))
  | bl j=>cases ry;exact xP (aL I q (by simp))
  | int j=>obtain ⟨t',rfl⟩:=ry;exact xU (aL I q (by simp))
  | str j=>obtain ⟨t',rfl⟩:=ry;exact eq_str (aL I q i4)
  | _=>exact absurd (show false=true from hs) qO
 | byt i =>
  obtain ⟨t,rfl⟩:=rx
  cases y with
  | byt j=>obtain ⟨t',rfl⟩:=ry;exact PySem.W.eq_bytes (aL I q i5)
  | _=>exact absurd (show false=true from hs) qO
 | _=>cases y <;> exact absurd (show false=true from hs) qO
theorem gX:OpR X (tJ .NotEq) rNe:=by
 intro pins s σ H x y v u Q I rx ry h
 obtain ⟨hs,q⟩:=h
 cases x with
 | non =>
  cases rx
  cases y with
  | non=>cases ry;exact PySem.EqNone.ne_none_none (aL I q (by simp))
  | bl j=>cases ry;exact PySem.EqNone.ne_none_bool (aL I q (by simp))
  | int j=>obtain ⟨t',rfl⟩:=ry;exact PySem.EqNone.ne_none_int (aL I q (by simp))
  | str j=>obtain ⟨t',rfl⟩:=ry;exact PySem.EqNone.ne_none_str (aL I q (by simp))
  | _=>exact absurd (show false=true from hs) qO
 | bl i =>
  cases rx
  cases y with
  | non=>cases ry;exact PySem.EqNone.ne_bool_none (aL I q (by simp))
  | bl j=>cases ry;exact ne_bool (aL I q (congrArg not kC))
  | str j=>obtain ⟨t',rfl⟩:=ry;exact xQ (aL I q (by simp))
  | _=>exact absurd (show false=true from hs) qO
 | int i =>
  obtain ⟨t,rfl⟩:=rx
  cases y with
  | non=>cases ry;exact PySem.EqNone.ne_int_none (aL I q (by simp))
  | int j=>obtain ⟨t',rfl⟩:=ry;exact ne_int (aL I q (congrArg not i3))
  | str j=>obtain ⟨t',rfl⟩:=ry;exact xV (aL I q (by simp))
  | _=>exact absurd (show false=true from hs) qO
 | str i =>
  obtain ⟨t,rfl⟩:=rx
  cases y with
  | non=>cases ry;exact PySem.EqNone.ne_str_none (aL I q (by simp))
  | bl j=>cases ry;exact xR (aL I q (by simp))
  | int j=>obtain ⟨t',rfl⟩:=ry;exact xW (aL I q (by simp))
  | str j=>obtain ⟨t',rfl⟩:=ry;exact ne_str (aL I q (congrArg not i4))
  | _=>exact absurd (show false=true from hs) qO
 | byt i =>
  obtain ⟨t,rfl⟩:=rx
  cases y with
  | byt j=>obtain ⟨t',rfl⟩:=ry;exact PySem.W.ne_bytes (aL I q (congrArg not i5))
  | _=>exact absurd (show false=true from hs) qO
 | _=>cases y <;> exact absurd (show false=true from hs) qO
theorem nz:OpR X (tJ .Gt) (rI0 λi j =>.bl (decide (j<i))):=pL λ_ _ _ _ _ _ _ q=>gt_int q
theorem nA:OpR X (tJ .GtE) (rI0 λi j =>.bl (decide (j<=i))):=pL λ_ _ _ _ _ _ _ q=>ge_int q
theorem aY (b:Expr){op:CmpOp}(h:op ≠ .In:=by decide)(h2:op ≠ .NotIn:=by decide):behindInMarks op b=false:=by
 have e1:(op == CmpOp.In)=false:=by cases op <;> first | rfl | exact absurd rfl h
 have e2:(op == CmpOp.NotIn)=false:=by cases op <;> first | rfl | exact absurd rfl h2
 cases b <;> simp[behindInMarks,e1,e2]
theorem dv {op:CmpOp}{r:R2}(ho:OpR X (tJ op) r)(ha:PE X a ta)(hb:PE X b tb)(hm:behindInMarks op b=false):PE X (.Compare a [op] [b] pos) (tOp r ta tb):=by
 intro pins s σ H Q I h
 exact wpAny_Compare1 (n8 ha hb I h λv u s2 x y H2 I2 rx ry q=>ho pins s2 σ H2 x y v u Q I2 rx ry q) hm
def pO (t:TE):TT:=λσ H Q=>t σ H λx H'=>∃k,x = .bl k/\Q k H'
theorem aU {op:CmpOp}{r:R2}(ho:OpR X (tJ op) r)(ha:PE X a ta)(hb:PE X b tb)(hm:behindInMarks op b=false):PT X (.Compare a [op] [b] pos) (pO (tOp r ta tb)):=by
 intro pins s σ H Q I h
 refine wt (thn (ha pins s σ H _ I h) λv s1 ⟨x,H1,I1,r1,q1⟩=>thn (hb pins s1 σ H1 _ I1 q1) λu s2 ⟨y,H2,I2,r2,q2⟩ =>
  thn (ho pins s2 σ H2 x y v u _ I2 r1 r2 q2) λc s3 ⟨z,H3,I3,r3,k,e,q3⟩ =>?_) hm
 subst e
 cases r3
 exact tx ⟨H3,I3,q3⟩
theorem dR:(qD:Nat)<2 ^ 63:=by rw[xK];decide
theorem vals1 {x:V}{us:List qw}(r:Vals [x] us):∃u,us=[u]/\RelV x u:=by
 cases r with
 | cons r1 r2=>cases r2;exact ⟨_,rfl,r1⟩
theorem vals2 {x y:V}{us:List qw}(r:Vals [x,y] us):∃u w',us=[u,w']/\RelV x u/\RelV y w':=by
 cases r with
 | cons r1 r2 =>
  cases r2 with
  | cons r3 r4=>cases r4;exact ⟨_,_,rfl,r1,r3⟩
theorem dS (hc:X.calm=true):bM X (.builtin "max") (λxs H Q=>∃i j,xs=[.int i,.int j]/\Q (.int (if j>i then j else i)) H):=by
 intro pins s σ H xs us Q I r h
 obtain ⟨i,j,rfl,q⟩:=h
 obtain ⟨u,w',rfl,⟨t,rfl⟩,⟨t',rfl⟩⟩:=vals2 r
 refine max_two_ints (I.ok.hd hc) λh' tk k=>⟨_,H,I.kept k,?_,q⟩
 by_cases hj:j>i
 ·rw[if_pos hj,if_pos hj];exact ⟨_,rfl⟩
 ·rw[if_neg hj,if_neg hj];exact ⟨_,rfl⟩
theorem b7 (hc:X.calm=true):bM X (.builtin "min") (λxs H Q=>∃i j,xs=[.int i,.int j]/\Q (.int (if j<i then j else i)) H):=by
 intro pins s σ H xs us Q I r h
 obtain ⟨i,j,rfl,q⟩:=h
 obtain ⟨u,w',rfl,⟨t,rfl⟩,⟨t',rfl⟩⟩:=vals2 r
 refine min_two_ints (I.ok.hd hc) λh' tk k=>⟨_,H,I.kept k,?_,q⟩
 by_cases hj:j<i
 ·rw[if_pos hj,if_pos hj];exact ⟨_,rfl⟩
 ·rw[if_neg hj,if_neg hj];exact ⟨_,rfl⟩
theorem jL:bM X (.type "int") (λxs H Q=>(∃i,xs=[.int i]/\Q (.int i) H)\/∃k,xs=[.bl k]/\Q (.int (if k then 1 else 0)) H):=by
 intro pins s σ H xs us Q I r h
 rcases h with ⟨i,rfl,q⟩ | ⟨k,rfl,q⟩
 ·obtain ⟨u,rfl,t,rfl⟩:=vals1 r
  exact call_int_int ⟨.int i,H,I,⟨_,rfl⟩,q⟩
 ·obtain ⟨u,rfl,r1⟩:=vals1 r
  cases r1
  exact call_int_bool ⟨.int (if k then 1 else 0),H,I.tok _,⟨_,rfl⟩,q⟩
end
open PySem PySem.Spec PyProof.Rows
structure og (h:Heap)(x dx C:Addr)(mA:Str->Option qw):Prop where
 obj:h.get? x=some (PySem.W.instObj C dx)
 ns:h.Ns1 dx mA
 ne:dx≠x
theorem jM {h:Heap}{dx:Addr}{mA:Str->Option qw}(n:h.Ns1 dx mA):∃od,h.get? dx=some od/\∀name,PySem.W.lookIn name od=some (mA name):=by
 obtain ⟨o,es,ep,ho,hd,hk,_,hm⟩:=n
 refine ⟨o,ho,λname =>?_⟩
 have e:=hm name
 unfold nsFind findBy at e
 rw[<- Array.find?_toList] at e
 unfold PySem.W.lookIn
 rw[hd]
 dsimp only
 split
 ·rename_i y q
  rw[q] at e
  exact congrArg some e
 ·rename_i q
  rw[q] at e
  have a:es.toList.any (·.refKey)=false:=by
   rw[List.any_eq_false]
   intro y hy
   obtain ⟨z,t,hkey⟩:=hk y (Array.mem_toList_iff.mp hy)
   simp[DictEntry.refKey,hkey]
  have a':¬ es.toList.any (·.refKey)=true:=by rw[a];exact qO
  rw[if_neg a']
  exact congrArg some e
theorem og.look {h:Heap}{x dx C:Addr}{mA:Str->Option qw}(I:og h x dx C mA):∃od,PySem.W.InstAt h x (PySem.W.instObj C dx) C (some od)/\∀name,PySem.W.lookIn name od=some (mA name) :=
 let ⟨od,ho,hl⟩:=jM I.ns
 ⟨od,⟨I.obj,rfl,rfl,ho⟩,hl⟩
section
variable  {prog:qX}{w:rO}{A:r6}{E:qw->qy->Prop}{s:qy}{K:qv}{x dx C f:Addr}{mA:Str->Option qw}{name:Str}{v:qw}
end
section
variable  {P:qX}{w:rO}{H H':Hp}{h h':Heap}{a C dx:Addr}{fs fs':List (Str×V)}
theorem ma (hok:HOk P w H h)(e:H a=some (.ins C dx fs)):∃mA,og h a dx C mA/\(∀f,nR (fs.lookup f) (mA f))/\PySem.Within mA (fs.map (·.1))/\fs.length<=1000/\H dx=some (.own a):=by
 obtain ⟨d,z,ne,ob,mA,n,r,q⟩:=(show aX P w H h a (.ins C dx fs) from hok a _ e)
 exact ⟨mA,⟨ob,n,ne⟩,r,q,z,d⟩
end
structure Cls (K:qv)(C:Addr):Prop where
 pg:PySem.W.plainGet K C Str.empty=true
 hd:PySem.W.hasDictIn K C=true
 po:PySem.W.plainOver K C=true
 sa:PySem.W.findIn K (.ref C) "__setattr__" = some (some (.builtin "object.__setattr__"))
theorem Cls.get {K:qv}{C:Addr}(c:Cls K C)(f:Str):PySem.W.plainGet K C f=true:=c.pg
section
variable  {X:Cx}{pins:List (Addr×Obj)}{σ:St}{H:Hp}{s:qy}{a C dx:Addr}{fs:List (Str×V)}{f:Str}{v:V}{A:r6}{E:qw->qy->Prop}
end
section
variable  {X:Cx}{o e value:Expr}{f:Str}{pos pos' tpos:Pos}{ta tv:TE}
end
section
variable  {X:Cx}{pins:List (Addr×Obj)}{σ:St}{H:Hp}{s:qy}{A:r6}{E:qw->qy->Prop}{Q:qw->qy->Prop}{c:qw}{b:Bool}
inductive dU (K:qv)(H:Hp):V->qw->Prop where
 | non:dU K H .non (.type "NoneType")
 | bl (x:Bool):dU K H (.bl x) (.type "bool")
 | int (i:Int):dU K H (.int i) (.type "int")
 | str (x:Str):dU K H (.str x) (.type "str")
 | flt (x:UInt64):dU K H (.flt x) (.type "float")
 | lst {a:Addr} {xs:List V} (e:H a=some (.lst xs)):dU K H (.ref a) (.type "list")
 | frz {a:Addr} {o:Obj} {xs:List V} (e:H a=some (.frz o (.lst xs))):dU K H (.ref a) (.type "list")
 | tup {a:Addr} {xs:List V} (e:H a=some (.tup xs)):dU K H (.ref a) (.type "tuple")
 | dK {a:Addr} {kvs:List (Key×V)} (e:H a=some (.dK kvs)):dU K H (.ref a) (.type "dict")
 | dT {a:Addr} {kvs:List (List Key×V)} (e:H a=some (.dT kvs)):dU K H (.ref a) (.type "dict")
 | ins {a C dx:Addr} {fs:List (Str×V)} (e:H a=some (.ins C dx fs)) (cl:Cls K C) (ha:PySem.W.findIn K (.ref C) "__class__" = some (some (.builtin "object.__class__")))
   (hn:PySem.W.specialIn K (.builtin "object.__class__") "__get__" = some (some (.builtin "getset_descriptor.__get__"))) (htk:PySem.W.takesIn K (.builtin "object.__class__")=some true)
   (hm:PySem.W.mroIn K C (.type "object")=some true):dU K H (.ref a) (.ref C)
theorem jN {x:V}{u t:qw}(I:Inv X pins σ H s)(rx:RelV x u)(ty:dU X.K H x t)(e:PySem.W.kitOne X.K t c=some b)(h:∀tk,Q (.bool b) { s with toks:=tk }) :
  rH (rD X.prog X.w) A (call (.builtin "isinstance") [u,c]) Q E s:=by
 cases ty with
 | non=>cases (show u=vI from rx);exact sL PySem.W.kitx_none I.kIn True.intro e (λz=>nomatch z) h
 | bl y=>cases (show u=Value.bool y from rx);exact sL PySem.W.kitx_bool I.kIn True.intro e (λz=>nomatch z) h
 | int i=>obtain ⟨t,q⟩:=(show ∃t,u=vH i t from rx);cases q;exact sL PySem.W.kitx_int I.kIn True.intro e (λz=>nomatch z) h
 | str y=>obtain ⟨t,q⟩:=(show ∃t,u=Value.str y t from rx);cases q;exact sL PySem.W.kitx_str I.kIn True.intro e (λz=>nomatch z) h
 | flt y=>obtain ⟨t,q⟩:=(show ∃t,u=Value.float y t from rx);cases q;exact sL PySem.W.kitx_float I.kIn True.intro e (λz=>nomatch z) h
 | @lst a xs ea =>
  cases (show u=qW a from rx)
  obtain ⟨_,_,n,_,h1⟩:=(show aX X.prog X.w H s.heap a (.lst xs) from I.hok a _ ea)
  exact sL xf I.kIn ⟨_,h1,rfl⟩ e (λz=>nomatch z) h
 | @frz a ob xs ea =>
  cases (show u=qW a from rx)
  obtain ⟨_,_,_,n,_,h1⟩:=(show aX X.prog X.w H s.heap a (.frz ob (.lst xs)) from I.hok a _ ea)
  exact sL xf I.kIn ⟨_,h1,rfl⟩ e (λz=>nomatch z) h
 | @tup a xs ea =>
  cases (show u=qW a from rx)
  obtain ⟨_,_,_,p⟩:=(show aX X.prog X.w H s.heap a (.tup xs) from I.hok a _ ea)
  obtain ⟨o,h1,h2,_⟩:=p
  exact sL PySem.W.kitx_tuple I.kIn ⟨o,h1,h2.1⟩ e (λz=>nomatch z) h
 | @dK a kvs ea =>
  cases (show u=qW a from rx)
  obtain ⟨_,_,vs,_,p⟩:=(show aX X.prog X.w H s.heap a (.dK kvs) from I.hok a _ ea)
  obtain ⟨o,es,ep,h1,h2,_⟩:=p
  exact sL xg I.kIn ⟨o,h1,h2.1⟩ e (λz=>nomatch z) h
 | @dT a kvs ea =>
  cases (show u=qW a from rx)
  obtain ⟨_,_,xs,_,o,es,ep,h1,h2,_⟩:=(show aX X.prog X.w H s.heap a (.dT kvs) from I.hok a _ ea)
  exact sL xg I.kIn ⟨o,h1,h2.1⟩ e (λz=>nomatch z) h
 | @ins a C dx fs ea cl ha hn htk hm =>
  cases (show u=qW a from rx)
  obtain ⟨mA,O,_⟩:=ma I.hok ea
  obtain ⟨od,J,_⟩:=O.look
  exact sL (PySem.W.kitx_own (cl.get _) cl.hd ha hn htk hm) I.kIn J e (λz=>nomatch z) h
end
open PySem PySem.Spec PyProof.Rows
structure bI (k:Nat)(A:r6):Prop where
 hd:A.handled=none
 dp:A.depth+3*k+5<recursionLimit
 un:A.units+16*k+200<cLine
theorem bI.mono {j k:Nat}{A:r6}(r:bI k A)(h:j<=k):bI j A:=⟨r.hd,by have:=r.dp;lia,by have:=r.un;lia⟩
theorem bI.deeper {k:Nat}{A:r6}(r:bI (k+1) A)(env:Env):bI k (A.deeper env) :=
 ⟨r.hd,by have:=r.dp;show A.depth+1+3*k+5<_;lia,by have:=r.un;show A.units+3+16*k+200<_;lia⟩
theorem bI.depth {k:Nat}{A:r6}(r:bI k A):A.depth<recursionLimit:=by have:=r.dp;lia
theorem bI.units {k:Nat}{A:r6}(r:bI k A):A.units+64<cLine:=by have:=r.un;lia
def tNil:TA:=λ_ H Q=>Q [] H
def pP (ta:TE)(tr:TA):TA:=λσ H Q=>ta σ H λx H1=>tr σ H1 λxs H2=>Q (x :: xs) H2
section
variable  {X:Cx}{e:Expr}{es:List Expr}{te:TE}{t:TA}{pos:Pos}
theorem ae:PA X [] tNil:=λ_ _ _ _ H Q I h=>Calls.spliced_nil ⟨[],H,I,.nil,h⟩
theorem aa (ha:PE X e te)(hr:PA X es t)(hs:rL (e :: es) X.env=(false,eval e X.env) :: rL es X.env:=by rfl):PA X (e :: es) (pP te t):=by
 intro pos pins s σ H Q I h
 rw[hs]
 show rH _ _ (spliced ((false,eval e X.env) :: u0 pos (rL es X.env))) _ _ s
 refine Calls.spliced_cons (thn (ha pins s σ H _ I h) λu s1 ⟨x,H1,I1,r1,q1⟩ =>?_)
 exact thn (hr pos pins s1 σ H1 _ I1 q1) λus s2 ⟨xs,H2,I2,r2,q2⟩=>⟨x :: xs,H2,I2,.cons r1 r2,q2⟩
def tTup (t:TA):TE:=λσ H Q=>t σ H λxs H1=>xs.length<=qD/\∀p,H1 p=none->Q (.ref p) (upd H1 p (.tup xs))
def tLst (t:TA):TE:=λσ H Q=>t σ H λxs H1=>xs.length<=qD/\∀p,H1 p=none->Q (.ref p) (upd H1 p (.lst xs))
theorem aO {x1}(h:PA X es t):PE X (.Tuple es x1 pos) (tTup t):=by
 intro pins s σ H Q I hq
 refine wpAny_Tuple_spliced (thn (h pos pins s σ H _ I hq) λus s1 ⟨xs,H1,I1,r,z,q⟩=>⟨by rw[<- r.length];exact z,?_⟩)
 have hf:H1 s1.heap.objs.size=none:=I1.hok.fresh (qz _)
 refine ⟨.ref s1.heap.objs.size,upd H1 s1.heap.objs.size (.tup xs),I1.laid (t':=s1.toks) (λb u e=>qB _ e) (qz _) ?_,rfl,q _ hf⟩
 exact ⟨z,us,r,⟨_,q8 _ rfl,⟨rfl,rfl⟩,_,rfl⟩⟩
theorem bV (h:PA X es t):PE X (.List es pos) (tLst t):=by
 intro pins s σ H Q I hq
 refine wpAny_List_spliced (thn (h pos pins s σ H _ I hq) λus s1 ⟨xs,H1,I1,r,z,q⟩=>⟨by rw[<- r.length];exact z,?_⟩)
 have hf:H1 s1.heap.objs.size=none:=I1.hok.fresh (qz _)
 refine ⟨.ref s1.heap.objs.size,upd H1 s1.heap.objs.size (.lst xs),I1.laid (t':=s1.toks) (λb u e=>qB _ e) (qz _) ?_,rfl,q _ hf⟩
 exact ⟨z,us,0,r,q8 _ rfl⟩
end
abbrev Sp:=List V->Hp->VK->XK->Prop
abbrev CXT:=List Env->Hp->qy->XK->qw->qy->Prop
structure me (P:qX)(w:rO)(K:qv)(mg:Str->Option qw)(base:Heap)(A:r6)(outer:List Env)(s:qy)(H:Hp):Prop where
 frames:A.frames=some outer
 mod:Mod K mg base
 bs:∀b o,base.get? b=some o->s.heap.get? b=some o/\H b=none
 bsz:base.objs.size<=s.heap.objs.size
 funs:s.heap.FunFrames base outer
 frf:∀b∈frs outer,H b=none
 hok:HOk P w H s.heap
 bare:AllBare s.gens
def CE (outer:List Env)(P:qX)(w:rO)(H:Hp)(s:qy)(Q:VK)(u:qw)(s':qy):Prop :=
 ∃v H',s'.os=s.os/\AllBare s'.gens/\Un (frs outer) [] H H' s.heap s'.heap/\HOk P w H' s'.heap/\RelV v u/\Q v H'
def CR (CX:CXT)(outer:List Env)(P:qX)(w:rO)(H:Hp)(s:qy)(Q:VK)(E:XK)(r:Result)(s':qy):Prop :=
 match r with
 | .ok (.ret u)=>CE outer P w H s Q u s'
 | .ok _=>False
 | .error e=>CX outer H s E e s'
structure bu (P:qX)(w:rO)(K:qv)(mg:Str->Option qw)(base:Heap)(CX:CXT)(k:Nat)(f:Addr)(fd:sA)(ps:List Str)(sp:Sp):Prop where
 len:∀vs H Q E,sp vs H Q E->vs.length=ps.length
 run:∀(A:r6) (outer:List Env) (s:qy) (H:Hp) (args:Args) (us:List qw) (vs:List V) (Q:VK) (E:XK),bI k A->me P w K mg base A outer s H->BindsTo s fd args (ps.zip us)->Vals vs us->sp vs H Q E →
  xq (rD P w) A (.call (.ref f) args) (CR CX outer P w H s Q E) s
section
variable  {X:Cx}{pins:List (Addr×Obj)}{σ:St}{H:Hp}{s s':qy}
theorem Inv.pQ (I:Inv X pins σ H s):me X.prog X.w X.K X.mg X.base X.A X.stack s H :=
 ⟨I.ok.frames,I.ok.mod,I.bs,rn I.ok.bsz I.sz,I.stack,I.gj,I.hok,I.bare⟩
theorem Inv.after {Q:VK}{u:qw}(I:Inv X pins σ H s)(h:CE X.stack X.prog X.w H s Q u s'):EP X pins σ Q u s':=by
 obtain ⟨v,H',os,bare,un,hok,r,q⟩:=h
 obtain ⟨hh,g,d,t,os'⟩:=s'
 obtain rfl:os'=s.os:=os
 exact ⟨v,H',I.call (h':=hh) (g':=g) (d':=d) (t':=t) (ch:=[]) un hok bare (λb z=>absurd z (by simp)),r,q⟩
end
def nB (sp:Sp)(dvs:List V)(E:XK)(t:TA):TE:=λσ H Q=>t σ H λvs H1=>sp (vs++dvs) H1 Q E
def Binds (K:qv)(fd:sA)(ps:List Str)(ds:List qw):Prop :=
 ∀(s:qy) (us:List qw),K.In s.heap->(us++ds).length=ps.length->BindsTo s fd ⟨us,[]⟩ (ps.zip (us++ds))
theorem Binds.all {K:qv}{fd:sA}{ps:List Str}(h:∀us:List qw,us.length=ps.length->bindArgs fd ⟨us,[]⟩=pure (ps.zip us)):Binds K fd ps []:=λs us _ hl=>by
 rw[rW] at hl ⊢
 exact .of_eq (h us hl)
def Passes (CX:CXT)(X:Cx)(E:XK):Prop:=∀(pins:List (Addr×Obj)) (σ:St) (H:Hp) (s:qy) (e:qw) (s':qy),Inv X pins σ H s->CX X.stack H s E e s'->X.xe e s'
section
variable  {X:Cx}{CX:CXT}{k:Nat}{f C:Addr}{fd:sA}{ps:List Str}{sp:Sp}{dvs:List V}{ds:List qw}{E:XK}{x m:Str}{p pos apos:Pos}{e o:Expr}{es:List Expr}{ta:TE}{t:TA}
theorem oh {pins:List (Addr×Obj)}{σ:St}{H:Hp}{s:qy}{Q:VK}{us:List qw}{vs:List V}(F:bu X.prog X.w X.K X.mg X.base CX k f fd ps sp)(hr:bI k X.A)(hb:Binds X.K fd ps ds)(hd:Vals dvs ds)(hx:Passes CX X E)
  (I:Inv X pins σ H s) (r:Vals vs us) (h:sp (vs++dvs) H Q E):rH (rD X.prog X.w) X.A (call (.ref f) us) (EP X pins σ Q) X.xe s:=by
 have r2:Vals (vs++dvs) (us++ds):=r.append hd
 have hl:(us++ds).length=ps.length:=by rw[<- r2.length];exact F.len _ _ _ _ h
 refine wpAny_call (vn (F.run X.A X.stack s H ⟨us,[]⟩ (us++ds) (vs++dvs) Q E hr I.pQ (hb s us I.kIn hl) r2 h) λr s' hq =>?_)
 cases r with
 | error e=>exact hx pins σ H s e s' I hq
 | ok fl =>
  cases fl with
  | ret u=>exact I.after hq
  | next=>exact False.elim hq
  | brk=>exact False.elim hq
  | cont=>exact False.elim hq
theorem mf (F:bu X.prog X.w X.K X.mg X.base CX k f fd ps sp)(hr:bI k X.A)(hg:Gl X x)(hm:X.mg x=some (.ref f))(hk:PySem.W.keepIn X.K (.ref f)=true)(hb:Binds X.K fd ps ds)(hd:Vals dvs ds)(hx:Passes CX X E)
  (ha:PA X (e :: es) t) (hdb:(x == ("__debug__" : Str))=false:=by decide) (he:rL (e :: es) X.env=(false,eval e X.env) :: rL es X.env:=by rfl) (hpl:(u0 pos (rL es X.env)).any (·.1)=false:=by rfl) :
  PE X (.Call (.Name x p) (e :: es) [] pos) (nB sp dvs E t):=by
 intro pins s σ H Q I h
 refine uG (dt I hg hm ?_ hdb)
 refine wN (h₀:=X.base) I.ok.mod.kin hk (thn (ha pos pins s σ H _ I h) λus s1 ⟨vs,H1,I1,r,q⟩=>⟨I1.kIn,?_⟩) he hpl
 exact oh F hr hb hd hx I1 r q
end
section
variable  {X:Cx}{CX:CXT}{k:Nat}{f C:Addr}{fd:sA}{ps ks:List Str}{sp:Sp}{E:XK}{x m:Str}{p pos apos kpos:Pos}{e o:Expr}{es:List Expr}{kws:List Keyword}{te ta:TE}{t tk:TA}{nm:Option Str}
variable  {g:List qw->List qw->List qw}{gV:List V->List V->List V}
end
structure aT (N P:List Str)(sc:Scope):Prop where
 kind:sc.kind = .function
 co:sc.isCoroutine=false
 gen:sc.isGenerator=false
 nd:N.Nodup
 pre:N.take P.length=P
 par:∀x∈P,sc.names.lookup x=some .local\/sc.names.lookup x=some .cell
 nofree:∀y∈sc.names,y.2 ≠ .free
theorem fG {kindOf:Str->Option NameKind}{x:Str}:∀{binds:List (Str×qw)} {m:Str->Option qw},(∀v,(x,v)∉binds)->bindL kindOf binds m x=m x
 | [],_,_=>rfl
 | (n,v) :: r,m,h=>by
  unfold bindL
  rw[fG λw hw=>h w (qZ _ hw)]
  split
  ·have:x≠n:=by rintro rfl;exact h v rk
   simp[this]
  ·rfl
theorem fH {kindOf:Str->Option NameKind}{x:Str}:∀{binds:List (Str×qw)} {m:Str->Option qw},(∀v,(x,v)∉binds)->bindC kindOf binds m x=m x
 | [],_,_=>rfl
 | (n,v) :: r,m,h=>by
  unfold bindC
  rw[fH λw hw=>h w (qZ _ hw)]
  split
  ·rfl
  ·have:x≠n:=by rintro rfl;exact h v rk
   simp[this]
theorem fI {kindOf:Str->Option NameKind}{x:Str}{v:qw}:∀{P:List Str} {vs:List qw} {i:Nat} {m:Str->Option qw},P.Nodup->P[i]? = some x->vs[i]? = some v->kindOf x=some .local →
  bindL kindOf (P.zip vs) m x=some v
 | [],_,_,_,_,h,_,_=>by simp at h
 | _ :: _,[],_,_,_,_,h,_=>by simp at h
 | p :: P,w :: vs,0,m,nd,h1,h2,hk=>by
  simp at h1 h2;subst h1;subst h2
  show bindL kindOf ((p,w) :: P.zip vs) m p=_
  unfold bindL
  rw[fG λv hv=>(u7.mp nd).1 (v9 hv).1,if_pos hk]
  simp
 | p :: P,w :: vs,i+1,m,nd,h1,h2,hk=>by
  show bindL kindOf ((p,w) :: P.zip vs) m x=_
  unfold bindL
  exact fI (i:=i) (u7.mp nd).2 (by simpa using h1) (by simpa using h2) hk
theorem fJ {kindOf:Str->Option NameKind}{x:Str}{v:qw}:∀{P:List Str} {vs:List qw} {i:Nat} {m:Str->Option qw},P.Nodup->P[i]? = some x->vs[i]? = some v->kindOf x≠some .local →
  bindC kindOf (P.zip vs) m x=some v
 | [],_,_,_,_,h,_,_=>by simp at h
 | _ :: _,[],_,_,_,_,h,_=>by simp at h
 | p :: P,w :: vs,0,m,nd,h1,h2,hk=>by
  simp at h1 h2;subst h1;subst h2
  show bindC kindOf ((p,w) :: P.zip vs) m p=_
  unfold bindC
  rw[fH λv hv=>(u7.mp nd).1 (v9 hv).1,if_neg hk]
  simp
 | p :: P,w :: vs,i+1,m,nd,h1,h2,hk=>by
  show bindC kindOf ((p,w) :: P.zip vs) m x=_
  unfold bindC
  exact fJ (i:=i) (u7.mp nd).2 (by simpa using h1) (by simpa using h2) hk
def start (N:List Str)(vs:List V):St:=vs.map some++rB (N.length-vs.length) none
def gY (CX:CXT)(P:qX)(w:rO)(K:qv)(mg:Str->Option qw)(base:Heap)(N:List Str)(qual:Str)(scope:Scope)(f:Addr)(cd:qw)(A:r6)(outer:List Env)(s:qy)(H:Hp)(E:XK):Cx where
 prog:=P
 w:=w
 K:=K
 mg:=mg
 base:=base
 A:=A.deeper (envOfC qual scope s.heap.objs.size f cd)
 N:=N
 s₀:=s
 H₀:=H
 env:=envOfC qual scope s.heap.objs.size f cd
 outer:=outer
 stack:=envOfC qual scope s.heap.objs.size f cd :: outer
 ex:=[]
 calm:=true
 fn:=λ_=>true
 pn:=[]
 xe:=λe s'=>rH (rD P w) (A.deeper (envOfC qual scope s.heap.objs.size f cd)) (leaving (envOfC qual scope s.heap.objs.size f cd) e) (λ_ s''=>CX outer H s E e s'') (λe' s''=>CX outer H s E e' s'') s'
theorem gZ {sc:Scope}{n:Nat}{x:Str}(h:sc.names.lookup x=some .cell):∃c,(cellsFrom n sc.names []).lookup x=some c:=by
 have q:=vX sc.names n [] (.inl h)
 exact Option.isSome_iff_exists.mp q
theorem jO {CX:CXT}{P:qX}{w:rO}{K:qv}{mg:Str->Option qw}{base:Heap}{N ps:List Str}{qual:Str}{scope:Scope}{f:Addr}{cd:qw}{A:r6}{outer:List Env}{s s1:qy}{H:Hp}{E:XK}{us:List qw}{vs:List V}
  (S:aT N ps scope) (hd:A.handled=none) (e0:me P w K mg base A outer s H) (hl:vs.length=ps.length) (r:Vals vs us)
  (x:InCallC s s.heap.objs.size (bindL (envOfC qual scope s.heap.objs.size f cd).kindOf (ps.zip us) λ_=>none) (cellsFrom (s.heap.objs.size+1) scope.names []) (bindC (envOfC qual scope s.heap.objs.size f cd).kindOf (ps.zip us) λ_=>none) s1) :
  Inv (gY CX P w K mg base N qual scope f cd A outer s H E) [] (start N vs) H s1:=by
 have hpl:ps.length<=N.length:=by have:=congrArg List.length S.pre;rw[rX] at this;lia
 obtain ⟨h1,tk,rfl,hk⟩:=x.done
 have noA:∀b:Addr,b∉(gY CX P w K mg base N qual scope f cd A outer s H E).ex:=λb z=>absurd (show b∈([]:List Addr) from z) (by simp)
 refine ⟨⟨e0.mod,S.kind,rfl,rfl,qz _,λy z c h1 h2 =>?_,λy hy =>?_,λy c _ h =>?_,λ_=>hd,Around.frames_deeper e0.frames,.inr ⟨rfl,rfl⟩,λb z=>absurd z (noA b),e0.bs,e0.bsz,λb _ _=>noA b,λb z=>absurd z (noA b),e0.funs,e0.frf⟩,
  rfl,e0.bare,Un.kept hk,⟨_,x.toInCall.ns,λi y v h1 h2 h3 =>?_⟩,λy c h=>⟨_,x.cell y c h⟩,e0.hok.fresh (qz _),λy c h =>?_,λp hp=>absurd (show p∈([]:List (Addr×Obj)) from hp) (by simp),e0.hok.kept hk,?_⟩
 ·exact name_of_addr x.apart (tE h1) (tE h2)
 ·have hy:scope.names.lookup y=some .cell\/scope.names.lookup y=some .free:=hy
  rcases hy with hy | hy
  ·exact gZ hy
  ·exact absurd rfl (S.nofree _ (tE hy))
 ·exact vi (x.above y c (tE h))
 ·have hi:i<vs.length:=by
   unfold start at h2
   by_cases hi:i<vs.length
   ·exact hi
   ·rw[vf (by simpa using hi)] at h2
    rw[List.getElem?_replicate] at h2
    split at h2 <;> cases h2
  have ha:vs[i]? = some v:=by
   unfold start at h2
   rw[vp (by simpa using hi),rK] at h2
   cases e:vs[i]? with
   | none=>rw[e] at h2;cases h2
   | some a=>rw[e] at h2;cases h2;rfl
  obtain ⟨u,hu,rv⟩:=r.get ha
  have hp:ps[i]? = some y:=by
   rw[<- S.pre,List.getElem?_take_of_lt (by lia)];exact h1
  have ndP:ps.Nodup:=by rw[<- S.pre];exact S.nd.sublist (r9 _ _)
  refine ⟨u,rv,?_⟩
  rcases S.par y (qV hp) with k | k
  ·exact .inl ⟨k,fI ndP hp hu k⟩
  ·obtain ⟨c,e⟩:=gZ (n:=s.heap.objs.size+1) k
   refine .inr ⟨.inl k,c,e,?_⟩
   have q:=x.cell y c e
   rw[fJ ndP hp hu (by show scope.names.lookup y≠_;rw[k];decide)] at q
   exact q
 ·exact e0.hok.fresh (vi (x.above y c (tE h)))
 ·unfold start
  show _=N.length
  rw[qC,qu,List.length_replicate]
  lia
theorem nC {CX:CXT}{P:qX}{w:rO}{K:qv}{mg:Str->Option qw}{base:Heap}{k:Nat}{f:Addr}{name qual:Str}{params:Arguments}{body:List Stmt}{scope:Scope}{dV kV doc pm cdv ct oc:qw}{an od:Option Addr}
  {osl:Array (Option qw)} {N ps:List Str} {sp:Sp} (lk:K.lookup f=some ⟨oc,od,.func (PySem.W.fnOf name qual params body scope dV kV doc pm an cdv ct),osl⟩) (hcd:PySem.W.codeIn K cdv qual=true) (S:aT N ps scope)
  (len:∀vs H Q E,sp vs H Q E->vs.length=ps.length)
  (hbody:∀(A:r6) (outer:List Env) (s:qy) (H:Hp) (vs:List V) (Q:VK) (E:XK),bI k (A.deeper (envOfC qual scope s.heap.objs.size f cdv))->sp vs H Q E →
   ∃t,PSs (gY CX P w K mg base N qual scope f cdv A outer s H E) body t/\t { nx:=λ_ H'=>Q .non H',rt:=Q } (start N vs) H) :
  bu P w K mg base CX (k+1) f (PySem.W.fnOf name qual params body scope dV kV doc pm an cdv ct) ps sp:=by
 refine ⟨len,λA outer s H args us vs Q E hr e0 hb r hsp =>?_⟩
 have hl:=len _ _ _ _ hsp
 have KX:K.In s.heap:=e0.mod.kin.keeps λb o e=>(e0.bs b o e).1
 have lim:s.heap.NoLimit:=e0.mod.nolimit.keeps λb o e=>(e0.bs b o e).1
 have hkind:∀y∈ps.zip us,scope.names.lookup y.1=some .local\/(scope.names.lookup y.1=some .cell/\((cellsFrom (s.heap.objs.size+1) scope.names []).lookup y.1).isSome=true):=λ⟨n,v⟩ hy=>by
  rcases S.par n (v9 hy).1 with q | q
  ·exact .inl q
  ·exact .inr ⟨q,vX _ _ _ (.inl q)⟩
 refine codeAny_call_function hr.depth (KX _ _ lk) rfl S.co S.gen rfl (PySem.W.codeRec_of KX hcd) (hb _ _ _ _ ?_)
 refine wpAny_newFunctionEnv_cells S.kind hkind λenv he s1 x =>?_
 subst he
 refine ⟨lim.keeps x.toInCall.keep,codeAny_func ?_⟩
 obtain ⟨t,ht,hq⟩:=hbody A outer s H vs Q E (hr.deeper _) hsp
 have I:Inv (gY CX P w K mg base N qual scope f cdv A outer s H E) [] (start N vs) H s1:=jO S hr.hd e0 hl r x
 refine sT (ht [] s1 (start N vs) H _ I hq) (λfl s' hs =>?_) λe s' hs=>hs
 have fin:∀{σ':St} {H':Hp} {v:V} {u:qw},Inv (gY CX P w K mg base N qual scope f cdv A outer s H E) [] σ' H' s'->RelV v u->Q v H'->CE outer P w H s Q u s' :=
  λ{σ' H' v u} J rv q=>⟨v,H',J.os,J.bare,J.base,J.hok,rv,q⟩
 cases fl with
 | ret u =>
  obtain ⟨v,σ',H',J,rv,q⟩:=hs
  exact fin J rv q
 | next =>
  obtain ⟨σ',H',J,q⟩:=hs
  exact fin (v:=V.non) (u:=vI) J rfl q
 | brk =>
  obtain ⟨_,_,_,q⟩:=hs
  exact False.elim q
 | cont =>
  obtain ⟨_,_,_,q⟩:=hs
  exact False.elim q
open PySem PySem.Spec PyProof.Rows
section
variable  {X:Cx}{x:Str}{p pos:Pos}{e:Expr}{es:List Expr}{t:TA}{id T:String}{r:List V->Hp->VK->Prop}
def tCB (r:List V->Hp->VK->Prop)(t:TA):TE:=λσ H Q=>t σ H λvs H1=>r vs H1 Q
theorem aj (hc:bM X (.builtin id) r)(hg:Gl X x)(hm:X.mg x=none)(hv:rS x=some (.builtin id))(ha:PA X (e :: es) t)(hn:x ≠ "__name__" := by decide)(hdb:(x == ("__debug__" : Str))=false:=by decide)
  (he:rL (e :: es) X.env=(false,eval e X.env) :: rL es X.env:=by rfl) (hpl:(u0 pos (rL es X.env)).any (·.1)=false:=by rfl):PE X (.Call (.Name x p) (e :: es) [] pos) (tCB r t):=by
 intro pins s σ H Q I h
 refine uG (gk I hg hm hv ?_ hn hdb)
 exact PyProof.Rows.callWith_builtin1 (thn (ha pos pins s σ H _ I h) λus s1 ⟨vs,H1,I1,r1,q1⟩=>hc pins s1 σ H1 vs us Q I1 r1 q1) he hpl
theorem aE (hc:bM X (.type T) r)(hg:Gl X x)(hm:X.mg x=none)(hv:rS x=some (.type T))(ha:PA X (e :: es) t)(hn:x ≠ "__name__" := by decide)(hdb:(x == ("__debug__" : Str))=false:=by decide)
  (he:rL (e :: es) X.env=(false,eval e X.env) :: rL es X.env:=by rfl) (hpl:(u0 pos (rL es X.env)).any (·.1)=false:=by rfl):PE X (.Call (.Name x p) (e :: es) [] pos) (tCB r t):=by
 intro pins s σ H Q I h
 refine uG (gk I hg hm hv ?_ hn hdb)
 exact u6 (thn (ha pos pins s σ H _ I h) λus s1 ⟨vs,H1,I1,r1,q1⟩=>hc pins s1 σ H1 vs us Q I1 r1 q1) he hpl
end
end L2
namespace HT
open PySem PyProof.Rows
def lexLt:List Int->List Int->Bool
 | [],[]=>false
 | [],_ :: _=>true
 | _ :: _,[]=>false
 | x :: xs,y :: ys=>if x=y then lexLt xs ys else decide (x<y)
theorem cj (x y:Int)(xs ys:List Int):lexLt (x :: xs) (y :: ys)=if x=y then lexLt xs ys else decide (x<y):=rfl
theorem kD (A:r6)(s:qy)(a:Int)(t:Tok)(c:Int)(u:Tok)(prog:qX)(w:rO)(E:qw->qy->Prop)(Q:qw->qy->Prop)(h:Q (.bool (decide (a<c))) s) :
  rH (rD prog w) A (richCompare .Lt (.int a t) (.int c u)) Q E s :=
 (PyProof.Rows.lt_int h:rH (rD prog w) A (tJ .Lt (.int a t) (.int c u)) Q E s)
section
open PySem.SeqAt
open PySem.AutoSeq1 (wpAny_loadPart')
open PySem.MeetsSeq PySem.MeetsSeq2 PySem.MeetsSeq3
end
section
variable  {prog:qX}{w:rO}{A:r6}{E:qw->qy->Prop}{s:qy}
theorem mh {t b:Addr}{vs ws:List qw}{Q:qw->qy->Prop}(ht:IsTup s.heap t vs.toArray)(hb:IsTup s.heap b ws.toArray)(hv:vs≠[])
  (h1:ws=[]->Q (.ref t) s) (h2:ws≠[]->Q (.ref s.heap.objs.size) { s with heap:=s.heap.push { cls :=.type "tuple",data :=.seq (vs++ws).toArray } })
  (hsz:vs.length+ws.length<=qD):rH (rD prog w) A (binaryOp .Add (.ref t) (.ref b)) Q E s:=by
 obtain ⟨⟨cls,dd,data,sl⟩,ho,hc,n,hd⟩:=id ht
 obtain ⟨⟨cls2,dd2,data2,sl2⟩,ho2,hc2,n2,hd2⟩:=id hb
 simp only at hc hd hc2 hd2
 subst hc hd hc2 hd2
 have e:vs.toArray++ws.toArray=(vs++ws).toArray:=by simp
 by_cases hw:ws=[]
 ·exact vo ⟨_,ho,rfl⟩ ⟨_,ho2,rfl⟩ uS vO tX tP (tL _ _)
   (tuple_addW1 t b vs.toArray ws.toArray n n2 dd dd2 sl sl2 (by simpa using hv) (by simp[hw])) ⟨ho,ho2,h1 hw⟩
 ·refine vo ⟨_,ho,rfl⟩ ⟨_,ho2,rfl⟩ uS vO tX tP (tL _ _)
   (tuple_addW2 t b vs.toArray ws.toArray n n2 dd dd2 sl sl2 (by simpa using hv) (by simpa using hw) (by rw[qx,qx];exact hsz)) ⟨ho,ho2,?_⟩
  rw[e]
  exact h2 hw
def sIx (n d:Nat):Option Int->Nat
 | none=>d
 | some v=>if v<0 then (v+(n:Int)).toNat else min v.toNat n
theorem oi (n d:Nat)(hd:d<=n)(o:Option Int):sIx n d o<=n:=by
 cases o with
 | none=>exact hd
 | some v =>
  show (if v<0 then (v+(n:Int)).toNat else min v.toNat n)<=n
  by_cases hv:v<0
  ·rw[if_pos hv];lia
  ·rw[if_neg hv];exact Nat.min_le_right _ _
theorem i6 (v:Int)(n d:Nat):(if v<0 then max (v+(n:Int)) 0 else min v (n:Int))=((sIx n d (some v):Nat):Int):=by
 show (if v<0 then max (v+(n:Int)) 0 else min v (n:Int))=(((if v<0 then (v+(n:Int)).toNat else min v.toNat n):Nat):Int)
 by_cases hv:v<0
 ·simp only[if_pos hv];lia
 ·simp only[if_neg hv];lia
theorem iC (lo hi:Option Int)(n:Nat):Builtin.Slice.sliceAdjust lo hi 1 (n:Int)=(((sIx n 0 lo:Nat):Int),((sIx n n hi:Nat):Int)):=by
 have h1:¬ ((1:Int)<0):=by lia
 unfold Builtin.Slice.sliceAdjust
 simp only[h1,if_false]
 refine Prod.ext ?_ ?_
 ·cases lo with
  | none=>rfl
  | some v=>exact i6 v n 0
 ·cases hi with
  | none=>rfl
  | some v=>exact i6 v n n
theorem iD (i j:Nat):Builtin.Slice.slicePlaces (i:Int) (j:Int) 1=j-i:=by
 unfold Builtin.Slice.slicePlaces
 have h1:(1:Int)>0:=by lia
 simp only[h1,if_true,Int.ediv_one]
 split <;> lia
theorem eS {v:qw}{o:Option Int}{Q:Option Int->qy->Prop}(p:IsPart v o)(h:Q o s):rH (rD prog w) A (Builtin.Slice.slicePartIndex v) Q E s:=by
 cases p with
 | none=>exact slicePart_none h
 | int i t=>exact slicePart_int h
theorem b8 {sl:Addr}{vl vu:qw}{lo hi:Option Int}{n:Nat}{Q:Int×Int×Nat->qy->Prop}(hs:s.heap.IsSliceOf sl vl vu .none)(pl:IsPart vl lo)(pu:IsPart vu hi)
  (h:Q (((sIx n 0 lo:Nat):Int),1,sIx n n hi-sIx n 0 lo) s):rH (rD prog w) A (Builtin.Slice.sliceApplied (.ref sl) (pure (n:Int))) Q E s:=by
 obtain ⟨os,hos,hcs,hds⟩:=id hs
 unfold Builtin.Slice.sliceApplied Builtin.Slice.sliceFields
 refine qA (qA (xM hos hds (x:=vl) rfl (qA (xM hos hds (x:=vu) rfl (qA (xM hos hds (x :=.none) rfl (qR ?_)))))))
 refine qA (slicePart_none ?_)
 show rH _ _ (if ((1:Int) == 0)=true then _ else _) _ _ s
 rw[if_neg (by decide)]
 refine qA (eS pl (qA (eS pu (qA (qR ?_)))))
 show rH _ _ (match Builtin.Slice.sliceAdjust lo hi 1 (n:Int) with | (lo,hi)=>pure (lo,(1:Int),Builtin.Slice.slicePlaces lo hi 1)) _ _ s
 rw[iC lo hi n]
 show rH _ _ (pure (((sIx n 0 lo:Nat):Int),(1:Int),Builtin.Slice.slicePlaces ((sIx n 0 lo:Nat):Int) ((sIx n n hi:Nat):Int) 1)) _ _ s
 rw[iD]
 exact qR h
theorem kE (xs:Array qw)(i k:Nat):((sN k).filterMap λ(m:Nat)=>xs[((i:Int)+(m:Int)*1).toNat]?).toArray=((xs.toList.drop i).take k).toArray:=by
 have e:(λ(m:Nat)=>xs[((i:Int)+(m:Int)*1).toNat]?)=λm=>xs[i+m]? := by
  funext m
  have:((i:Int)+(m:Int)*1).toNat=i+m:=by lia
  rw[this]
 rw[e]
 have:=pick_run xs i k
 rw[List.filterMap_map] at this
 have e2:((λx=>xs[x]?) ∘ λx=>i+x)=λm=>xs[i+m]? := rfl
 rw[e2] at this
 rw[this]
theorem dw {t sl:Addr}{items:Array qw}{vl vu:qw}{lo hi:Option Int}{Q:qw->qy->Prop}(ht:IsTup s.heap t items)(hs:s.heap.IsSliceOf sl vl vu .none)(pl:IsPart vl lo)(pu:IsPart vu hi)
  (hw:¬ (sIx items.size 0 lo=0/\sIx items.size items.size hi=items.size))
  (h:Q (.ref s.heap.objs.size) { s with heap:=s.heap.push { cls :=.type "tuple",data :=.seq ((items.toList.drop (sIx items.size 0 lo)).take (sIx items.size items.size hi-sIx items.size 0 lo)).toArray } })
  (hsz:items.size<=qD):rH (rD prog w) A (getItem (.ref t) (.ref sl)) Q E s:=by
 have htake:sizeOk (.seq ((items.toList.drop (sIx items.size 0 lo)).take (sIx items.size items.size hi-sIx items.size 0 lo)).toArray):=by
  show ((items.toList.drop (sIx items.size 0 lo)).take (sIx items.size items.size hi-sIx items.size 0 lo)).toArray.size<=qD
  rw[qx,rX,rY,qF]
  omega
 have hj:sIx items.size items.size hi<=items.size:=oi _ _ (qz _) hi
 obtain ⟨os,hos,hcs,hds⟩:=id hs
 have hTs:s.TypeIs (.ref sl) "slice" :=⟨os,hos,hcs⟩
 unfold getItem
 try with_reducible refine uh ?_
 first | refine qA (qR ?_) | skip
 refine qA (xp ht.typeIs (by decide) ?_)
 refine qA (vP (name:=Str.ofString "__getitem__") ht.typeIs rP
  (vW rP ht.typeIs entry_tuple_getitem ?_ (w6 _ _)))
 show rH _ _ (Builtin.Tuple.tupleItemsOf (.ref t) >>= _) _ _ s
 refine qA (tupleItemsOf_ ht ?_)
 refine qA (ud hTs ?_)
 rw[if_pos (by decide)]
 refine qA (b8 hs pl pu ?_)
 have hno:¬ ((((sIx items.size 0 lo:Nat):Int) == 0 && (1:Int) == 1 && (sIx items.size items.size hi-sIx items.size 0 lo) == items.size)=true):=by
  intro q
  rw[rZ,rZ] at q
  have q1:((sIx items.size 0 lo:Nat):Int)=0:=eq_of_beq q.1.1
  have q2:sIx items.size items.size hi-sIx items.size 0 lo=items.size:=eq_of_beq q.2
  exact hw ⟨by omega,by omega⟩
 show rH _ _ (if (((sIx items.size 0 lo:Nat):Int) == 0 && (1:Int) == 1 && (sIx items.size items.size hi-sIx items.size 0 lo) == items.size)=true then _ else _) _ _ s
 rw[if_neg hno,kE]
 first
  | exact qA (m:=Builtin.Tuple.tupleExact _) (sU (qR ⟨_,rfl,qR h⟩) htake)
  | exact qA (m:=Builtin.Tuple.tupleExact _) (sU (qA (qR (qR ⟨_,rfl,qR h⟩))) htake)
  | exact qA (qA (m:=Builtin.Tuple.tupleExact _) (sU (qR (qR ⟨_,rfl,qR h⟩)) htake))
  | exact qA (qA (m:=Builtin.Tuple.tupleExact _) (sU (qR ⟨_,rfl,qR h⟩) htake))
end
end HT
namespace L2
open PySem PySem.Spec PyProof.Rows
abbrev TO:=St->Hp->(Option Int->Hp->Prop)->Prop
def PO (X:Cx)(e:Option Expr)(t:TO):Prop :=
 ∀(pins:List (Addr×Obj)) (s:qy) (σ:St) (H:Hp) (Q:Option Int->Hp->Prop),Inv X pins σ H s->t σ H Q →
  rH (rD X.prog X.w) X.A (evalPart e X.env) (λu s'=>∃o H',Inv X pins σ H' s'/\IsPart u o/\Q o H') X.xe s
def mi:TO:=λ_ H Q=>Q none H
def pR (t:TE):TO:=λσ H Q=>t σ H λx H1=>∃i,x = .int i/\Q (some i) H1
theorem intsAre_of {ns:List Int}:∀{us:List qw},Vals (ns.map V.int) us->vb us ns:=by
 induction ns with
 | nil=>intro us r;rw[x9] at r;cases r;exact .nil
 | cons n ns ih =>
  intro us r
  rw[rz] at r
  cases r with
  | cons r1 r2 =>
   obtain ⟨t,e⟩:=r1
   subst e
   exact .cons n t (ih r2)
section
variable  {X:Cx}{e:Expr}{te:TE}{lo hi:Option Expr}{tl th:TO}{pos p2:Pos}
theorem gu:PO X none mi:=by
 intro pins s σ H Q I h
 rw[evalPart_none]
 exact qR ⟨none,H,I,.none,h⟩
theorem gv (h:PE X e te):PO X (some e) (pR te):=by
 intro pins s σ H Q I hw
 rw[evalPart_some]
 refine thn (h pins s σ H _ I hw) λu s1 ⟨x,H1,I1,r1,q1⟩ =>?_
 obtain ⟨i,rfl,q⟩:=q1
 obtain ⟨t,rfl⟩:=r1
 exact ⟨some i,H1,I1,.int i t,q⟩
def SlR (X:Cx)(r:V->Option Int->Option Int->Hp->VK->Prop):Prop :=
 ∀(pins:List (Addr×Obj)) (s:qy) (σ:St) (H:Hp) (x:V) (v vl vu:qw) (lo hi:Option Int) (sl:Addr) (Q:VK),Inv X pins σ H s->RelV x v->s.heap.IsSliceOf sl vl vu .none->IsPart vl lo->IsPart vu hi->r x lo hi H Q →
  ∃T id,typeLookup (.type T) "__getitem__" = pure (some (.builtin id))/\s.TypeIs v T/\rH (rD X.prog X.w) X.A (getItem v (.ref sl)) (EP X pins σ Q) X.xe s
def tSl (r:V->Option Int->Option Int->Hp->VK->Prop)(te:TE)(tl th:TO):TE:=λσ H Q=>te σ H λx H1=>tl σ H1 λl H2=>th σ H2 λu H3=>r x l u H3 Q
theorem eU {r:V->Option Int->Option Int->Hp->VK->Prop}(hr:SlR X r)(he:PE X e te)(hl:PO X lo tl)(hu:PO X hi th):PE X (.Subscript e (.Slice lo hi none p2) pos) (tSl r te tl th):=by
 intro pins s σ H Q I h
 refine Subscript_ (thn (he pins s σ H _ I h) λv s1 ⟨x,H1,I1,r1,q1⟩ =>?_)
 refine wpAny_Slice (thn (hl pins s1 σ H1 _ I1 q1) λvl s2 ⟨l,H2,I2,pl,q2⟩=>thn (hu pins s2 σ H2 _ I2 q2) λvu s3 ⟨u,H3,I3,pu,q3⟩ =>?_)
 rw[evalPart_none]
 refine qR ?_
 have I4:Inv X pins σ H3 { s3 with heap:=s3.heap.push { cls :=.type "slice",data :=.fields #[vl,vu,.none] } }:=I3.kept (t':=s3.toks) λb ob q=>qB _ q
 obtain ⟨T,id,hT,ht,hg⟩:=hr pins { s3 with heap:=s3.heap.push { cls :=.type "slice",data :=.fields #[vl,vu,.none] } } σ H3 x v vl vu l u s3.heap.objs.size Q I4 r1 (yd ..) pl pu q3
 show rH (rD X.prog X.w) X.A (subscriptTail e (.Slice lo hi none p2) v (.ref s3.heap.objs.size)) (EP X pins σ Q) X.xe { s3 with heap:=s3.heap.push { cls :=.type "slice",data :=.fields #[vl,vu,.none] } }
 exact tail_any (ops:=[.ref s3.heap.objs.size,v]) ht hT hg (by with_unfolding_all rfl)
def dg (xs:List V)(lo hi:Option Int):List V:=(xs.drop (HT.sIx xs.length 0 lo)).take (HT.sIx xs.length xs.length hi-HT.sIx xs.length 0 lo)
theorem eg (xs:List V)(lo hi:Option Int):(dg xs lo hi).length<=xs.length:=by
 unfold dg
 rw[rX,rY]
 lia
def rSlT (K:qv):V->Option Int->Option Int->Hp->VK->Prop:=λx lo hi H Q=>∃a xs,x = .ref a/\SqT K H a xs ∧
 ¬ (HT.sIx xs.length 0 lo=0/\HT.sIx xs.length xs.length hi=xs.length)/\∀p,H p=none->Q (.ref p) (upd H p (.tup (dg xs lo hi)))
theorem oj:SlR X (rSlT X.K):=by
 intro pins s σ H x v vl vu lo hi sl Q I rx hs pl pu h
 obtain ⟨a,xs,rfl,hx,hw,q⟩:=h
 cases rx
 obtain ⟨its,r,ht,hz⟩:=I.tuple hx
 have hlen:its.toArray.size=xs.length:=by rw[qx];exact r.length.symm
 refine ⟨"tuple",_,rP.lookup,ht.typeIs,?_⟩
 refine HT.dw ht hs pl pu (by rw[hlen];exact hw) ?_ (by rw[hlen];exact hz)
 rw[hlen]
 refine ⟨.ref s.heap.objs.size,_,I.laid (t':=s.toks) (o :=.tup (dg xs lo hi)) (λb ob q=>qB _ q) (qz _) ?_,rfl,q _ (I.hok.fresh (qz _))⟩
 exact ⟨rn (eg xs lo hi) hz,_,(r.drop (HT.sIx xs.length 0 lo)).take (HT.sIx xs.length xs.length hi-HT.sIx xs.length 0 lo),bQ.new _ _⟩
def pU (K:qv):R2:=λx y H Q=>∃a b xs ys,x = .ref a/\y = .ref b/\SqT K H a xs/\SqT K H b ys/\xs≠[]/\xs.length+ys.length<=qD ∧
 (ys=[]->Q (.ref a) H)/\(ys≠[]->∀p,H p=none->Q (.ref p) (upd H p (.tup (xs++ys))))
theorem Vals.dy {xs:List V}{us:List qw}(r:Vals xs us):us=[]↔xs=[]:=by
 cases r with
 | nil=>simp
 | cons _ _=>simp
theorem i7:OpR X (binaryOp .Add) (pU X.K):=by
 intro pins s σ H x y v u Q I rx ry h
 obtain ⟨a,b,xs,ys,rfl,rfl,ha,hb,hx,hz,q1,q2⟩:=h
 cases rx
 cases ry
 obtain ⟨its,r1,p1,_⟩:=I.tuple ha
 obtain ⟨its2,r2,p2,_⟩:=I.tuple hb
 refine HT.mh p1 p2 (λz=>hx (r1.dy.mp z)) (λz=>⟨.ref a,H,I,rfl,q1 (r2.dy.mp z)⟩) (λz =>?_) (by rw[<- r1.length, <- r2.length];exact hz)
 refine ⟨.ref s.heap.objs.size,_,I.laid (t':=s.toks) (o :=.tup (xs++ys)) (λb ob q=>qB _ q) (qz _) ?_,rfl,q2 (λw=>z (r2.dy.mpr w)) _ (I.hok.fresh (qz _))⟩
 exact ⟨by rw[qC];exact hz,_,r1.append r2,bQ.new _ _⟩
end
open PySem PySem.Spec PyProof.Rows
def ixN (n:Nat)(i:Int):Option Nat:=if 0<=i then (if i<n then some i.toNat else none) else if -(n:Int)<=i then some (i+n).toNat else none
def atI {α:Type}(xs:List α)(i:Int):Option α:=(ixN xs.length i).bind λj=>xs[j]?
theorem i8 {n:Nat}{i:Int}{j:Nat}(h:ixN n i=some j):seqIndex? i n=some j/\j<n /\ -(n:Int)<=i/\i<n:=by
 unfold ixN at h
 by_cases h0:0<=i
 ·rw[if_pos h0] at h
  by_cases h1:i<n
  ·rw[if_pos h1] at h
   have e:i.toNat=j:=rE h
   exact ⟨by rw[xN h0 h1,e],by lia,by lia,h1⟩
  ·rw[if_neg h1] at h;cases h
 ·rw[if_neg h0] at h
  by_cases h1 : -(n:Int)<=i
  ·rw[if_pos h1] at h
   have e:(i+n).toNat=j:=rE h
   exact ⟨by rw[xt (by lia) h1,e],by lia,h1,by lia⟩
  ·rw[if_neg h1] at h;cases h
theorem gw {α:Type}{xs:List α}{i:Int}{v:α}(h:atI xs i=some v):∃j,seqIndex? i xs.length=some j/\xs[j]? = some v/\j<xs.length /\ -(xs.length:Int)<=i/\i<xs.length:=by
 unfold atI at h
 cases e:ixN xs.length i with
 | none=>rw[e] at h;cases h
 | some j =>
  rw[e] at h
  obtain ⟨h1,h2,h3,h4⟩:=i8 e
  exact ⟨j,h1,h,h2,h3,h4⟩
theorem cM {α:Type}{xs:List α}{j:Nat}{v:α}(h:xs[j]? = some v):atI xs (j:Int)=some v:=by
 have hj:j<xs.length:=(qI.mp h).1
 have e:ixN xs.length (j:Int)=some j:=by
  unfold ixN
  rw[if_pos (by lia),if_pos (by lia)];simp
 unfold atI;rw[e];exact h
def mj (b:Expr):Prop:=∀o i,subscripted b false o i=operate [o,i] (getItem o i)
def IxR (X:Cx)(r:R2):Prop :=
 ∀(value slice:Expr) (pins:List (Addr×Obj)) (s:qy) (σ:St) (H:Hp) (x y:V) (v u:qw) (Q:VK),Inv X pins σ H s->RelV x v->RelV y u->r x y H Q →
  subscripted slice false v u=operate [v,u] (getItem v u)->rH (rD X.prog X.w) X.A (subscriptTail value slice v u) (EP X pins σ Q) X.xe s
def MtR (X:Cx)(id:String)(r:V->List V->Hp->VK->Prop):Prop :=
 ∀(pins:List (Addr×Obj)) (s:qy) (σ:St) (H:Hp) (x:V) (xs:List V) (v:qw) (us:List qw) (Q:VK),Inv X pins σ H s->RelV x v->Vals xs us->r x xs H Q →
  rH (rD X.prog X.w) X.A (call (.builtin id) (v :: us)) (EP X pins σ Q) X.xe s
section
variable  {X:Cx}{a b:Expr}{ta tb:TE}{pos:Pos}
theorem IxR.or {r r':R2}(h:IxR X r)(h':IxR X r'):IxR X (λx y H Q=>r x y H Q\/r' x y H Q):=by
 intro value slice pins s σ H x y v u Q I rx ry q hs
 rcases q with q | q
 ·exact h value slice pins s σ H x y v u Q I rx ry q hs
 ·exact h' value slice pins s σ H x y v u Q I rx ry q hs
theorem aB {r:R2}(hr:IxR X r)(ha:PE X a ta)(hb:PE X b tb)(hs:mj b):PE X (.Subscript a b pos) (tOp r ta tb):=by
 intro pins s σ H Q I h
 exact Subscript_ (n8 ha hb I h λv u s2 x y H2 I2 rx ry q=>hr a b pins s2 σ H2 x y v u Q I2 rx ry q (hs _ _))
def om (K:qv):R2:=λx y H Q=>∃p xs i v,x = .ref p/\y = .int i/\SqL K H p xs/\atI xs i=some v/\Q v H
def oo (K:qv):R2:=λx y H Q=>∃p xs i v,x = .ref p/\y = .int i/\SqT K H p xs/\atI xs i=some v/\Q v H
def pV:R2:=λx y H Q=>∃z i c,x = .str z/\y = .int i/\z.length<=qD/\atI z.cps.toList i=some c/\Q (.str ⟨#[c]⟩) H
theorem dz:IxR X (om X.K):=by
 intro value slice pins s σ H x y v u Q I rx ry h hs
 obtain ⟨p,xs,i,z,rfl,rfl,hq,he,q⟩:=h
 cases rx
 obtain ⟨t,rfl⟩:=ry
 obtain ⟨its,r,pl,hz⟩:=I.list hq
 obtain ⟨j,h1,h2,h3,h4,h5⟩:=gw he
 obtain ⟨w,ew,rw'⟩:=r.get h2
 have hl:=r.length
 have hn:=dR
 have fin:EP X pins σ Q w s:=⟨z,H,I,rw',q⟩
 by_cases h0:0<=i
 ·have hj:i.toNat=j:=by
   rw[xN h0 h5] at h1
   exact rE h1
  exact item_listR pl.isList h0 (by lia) (by rw[hj];simpa using ew) fin hs
 ·have hj:(i+(its.toArray.size:Int)).toNat=j:=by
   rw[xt (by lia) h4] at h1
   rw[qx, <- hl]
   exact rE h1
  exact v5 (x:=w) pl.isList.typeIs slot_list_getitem.lookup
   (wpAny_getItem_list_neg (Q:=λr s'=>r=w/\EP X pins σ Q r s') pl.isList (by lia) (by rw[qx] <;> lia) (by lia) (by rw[hj];simpa using ew) ⟨rfl,fin⟩) hs
theorem aD:IxR X (oo X.K):=by
 intro value slice pins s σ H x y v u Q I rx ry h hs
 obtain ⟨p,xs,i,z,rfl,rfl,hq,he,q⟩:=h
 cases rx
 obtain ⟨t,rfl⟩:=ry
 obtain ⟨its,r,pl,hz⟩:=I.tuple hq
 obtain ⟨j,h1,h2,h3,h4,h5⟩:=gw he
 obtain ⟨w,ew,rw'⟩:=r.get h2
 have hl:=r.length
 have hn:=dR
 have fin:EP X pins σ Q w s:=⟨z,H,I,rw',q⟩
 exact v5 (x:=w) pl.typeIs slot_tuple_getitem.lookup
  (getItem_tuple (j:=j) (Q:=λr s'=>r=w/\EP X pins σ Q r s') pl (by lia) (by lia) (by rw[qx, <- hl];exact h1) (by simpa using ew) ⟨rfl,fin⟩) hs
theorem oq:IxR X pV:=by
 intro value slice pins s σ H x y v u Q I rx ry h hs
 obtain ⟨z,i,c,rfl,rfl,hz,he,q⟩:=h
 obtain ⟨t,rfl⟩:=rx
 obtain ⟨t',rfl⟩:=ry
 obtain ⟨j,h1,h2,h3,h4,h5⟩:=gw he
 have hl:z.cps.toList.length=z.length:=by simp[Str.length]
 rw[hl] at h1 h4 h5
 have hn:=dR
 exact tail_any (typeIs_str s z t) slot_str_getitem.lookup (getItem_str (c:=c) (by
  have e1:decide (i < -(2 ^ 63:Int))=false:=decide_eq_false (by lia)
  have e2:decide (i≥2 ^ 63)=false:=decide_eq_false (by lia)
  rw[e1,e2,x3]) (by rw[h1];simpa using h2) ⟨.str ⟨#[c]⟩,H,I.tok _,⟨_,rfl⟩,q⟩) hs
def rIx (K:qv):R2:=λx y H Q=>om K x y H Q\/oo K x y H Q\/pV x y H Q
theorem ot:IxR X (rIx X.K):=dz.or (aD.or oq)
theorem iE (its:List qw)(n j:Nat)(u:qw):tV (·.setIfInBounds j u) { cls :=.type "list",data :=.seq its.toArray n }={ cls :=.type "list",data :=.seq (its.set j u).toArray n }:=by
 simp[tV]
theorem Inv.lst {pins:List (Addr×Obj)}{σ:St}{H:Hp}{s:qy}{p:Addr}{xs:List V}(I:Inv X pins σ H s)(h:H p=some (.lst xs)) :
  ∃(its:List qw) (n:Nat),Vals xs its/\s.heap.get? p=some { cls :=.type "list",data :=.seq its.toArray n }/\xs.length<=qD:=by
 obtain ⟨z,its,n,r,e⟩:=I.hok p _ h
 exact ⟨its,n,r,e,z⟩
theorem Inv.ou {pins:List (Addr×Obj)}{σ:St}{H:Hp}{s:qy}{p:Addr}{xs ys:List V}{its its':List qw}{n n':Nat}{f:Obj->Obj}(I:Inv X pins σ H s)(h:H p=some (.lst xs))
  (ho:s.heap.get? p=some { cls :=.type "list",data :=.seq its.toArray n }) (hf:f { cls :=.type "list",data :=.seq its.toArray n }={ cls :=.type "list",data :=.seq its'.toArray n' }) (r:Vals ys its') (hz:ys.length<=qD) (t:Nat) :
  Inv X pins σ (upd H p (.lst ys)) { s with heap:=s.heap.update p f,toks:=t }:=by
 have e:(s.heap.update p f).get? p=some { cls :=.type "list",data :=.seq its'.toArray n' }:=by
  rw[Heap.get?_update_self f ho (by rw[hf] <;> rfl),hf]
 refine I.write (x:=p) (e:=p) (by rw[h];trivial) (.inl rfl) (λb u hb q=>(vY _ _ (uv hb)).trans q) ⟨_,e⟩ ?_
 exact ⟨hz,its',n',r,e⟩
def pW:V->V->V->Hp->(Hp->Prop)->Prop:=λo i v H Q=>∃p xs k j,o = .ref p/\i = .int k/\H p=some (.lst xs)/\ixN xs.length k=some j/\Q (upd H p (.lst (xs.set j v)))
theorem set_list:pE X pW:=by
 intro pins s σ H o i v ov iv u Q I ro ri rv h
 obtain ⟨p,xs,k,j,rfl,rfl,hp,hj,q⟩:=h
 cases ro
 obtain ⟨t,rfl⟩:=ri
 obtain ⟨its,n,r,ho,hz⟩:=I.lst hp
 obtain ⟨h1,h2,h3,h4⟩:=i8 hj
 have hl:=r.length
 have hn:=dR
 have I':Inv X pins σ (upd H p (.lst (xs.set j v))) { s with heap:=s.heap.update p (tV (·.setIfInBounds j u)) } :=
  I.ou hp ho (iE its n j u) (r.set rv j) (by rw[List.length_set];exact hz) s.toks
 by_cases h0:0<=k
 ·have hk:k.toNat=j:=by
   rw[xN h0 h4] at h1
   exact rE h1
  exact PySem.W.ki_setAt ho h0 (by lia) (by rw[qx, <- hl];exact h4) (by rw[hk];exact ⟨_,I',q⟩)
 ·have hk:(k+(its.toArray.size:Int)).toNat=j:=by
   rw[xt (by lia) h3] at h1
   rw[qx, <- hl]
   exact rE h1
  exact PySem.W.ki_setBack ho (by lia) (by rw[qx, <- hl];exact h3) (by lia) (by rw[hk];exact ⟨_,I',q⟩)
theorem gz (lo hi:Option Int)(n:Nat):(sliceBounds lo hi none n).1=((HT.sIx n 0 lo:Nat):Int)/\(sliceBounds lo hi none n).2.1=((HT.sIx n n hi:Nat):Int)/\(sliceBounds lo hi none n).2.2=1:=by
 refine ⟨?_,?_,rfl⟩
 ·cases lo with
  | none=>simp[sliceBounds,HT.sIx]
  | some i =>
   simp only[sliceBounds,HT.sIx,xw,show (1:Int)>0 by decide,if_true]
   by_cases h:i<0
   ·simp only[h,if_true] <;> lia
   ·simp only[h,if_false] <;> lia
 ·cases hi with
  | none=>simp[sliceBounds,HT.sIx]
  | some i =>
   simp only[sliceBounds,HT.sIx,xw,show (1:Int)>0 by decide,if_true]
   by_cases h:i<0
   ·simp only[h,if_true] <;> lia
   ·simp only[h,if_false] <;> lia
theorem fz (its:List qw)(lo hi:Option Int):slicePick its.toArray lo hi none=((its.drop (HT.sIx its.length 0 lo)).take (HT.sIx its.length its.length hi-HT.sIx its.length 0 lo)).toArray:=by
 obtain ⟨h1,h2,h3⟩:=gz lo hi its.toArray.size
 unfold slicePick
 rw[h1,h2,h3]
 simp only[sliceRange_one,pick_run,qx] <;> rfl
def rSlL (K:qv):V->Option Int->Option Int->Hp->VK->Prop:=λx lo hi H Q=>∃a xs,x = .ref a/\SqL K H a xs/\∀p,H p=none->Q (.ref p) (upd H p (.lst (dg xs lo hi)))
theorem mq:SlR X (rSlL X.K):=by
 intro pins s σ H x v vl vu lo hi sl Q I rx hs pl pu h
 obtain ⟨a,xs,rfl,hx,q⟩:=h
 cases rx
 obtain ⟨its,r,ht,hz⟩:=I.list hx
 have hlen:=r.length
 refine ⟨"list",_,slot_list_getitem.lookup,ht.isList.typeIs,?_⟩
 refine wpAny_getItem_list_slice ht.isList hs pl pu .none (by simp) ?_ (by rw[qx] <;> lia)
 rw[fz, <- hlen]
 refine ⟨.ref s.heap.objs.size,_,I.laid (t':=s.toks) (o :=.lst (dg xs lo hi)) (λb ob q=>qB _ q) (qz _) ?_,rfl,q _ (I.hok.fresh (qz _))⟩
 exact ⟨rn (eg xs lo hi) hz,_,0,(r.drop (HT.sIx xs.length 0 lo)).take (HT.sIx xs.length xs.length hi-HT.sIx xs.length 0 lo),q8 _ rfl⟩
def dA:V->Bool
 | .non=>true
 | .bl _=>true
 | .int _=>true
 | .str _=>true
 | _=>false
def eqV:V->V->Bool
 | .non,.non=>true
 | .bl a,.bl b=>a == b
 | .bl a,.int b=>(if a then 1 else 0) == b
 | .int a,.bl b=>a == (if b then 1 else 0)
 | .int a,.int b=>a == b
 | .str a,.str b=>a == b
 | _,_=>false
theorem ow {A:r6}{s:qy}{y x:V}{u v:qw}(ry:RelV y u)(rx:RelV x v)(fy:dA y=true)(fx:dA x=true):uK A s u v (eqV y x):=by
 cases y with
 | non =>
  cases ry
  cases x with
  | non=>cases rx;exact wa _
  | bl b=>cases rx;exact SeqAt.EqAt.none_bool b
  | int b=>obtain ⟨t,rfl⟩:=rx;exact SeqAt.EqAt.none_int b t
  | str b=>obtain ⟨t,rfl⟩:=rx;exact SeqAt.EqAt.none_str b t
  | _=>exact absurd (show false=true from fx) qO
 | bl a =>
  cases ry
  cases x with
  | non=>cases rx;exact SeqAt.EqAt.bool_none a
  | bl b=>cases rx;exact SeqAt.EqAt.bool_bool a b
  | int b=>obtain ⟨t,rfl⟩:=rx;exact SeqAt.EqAt.bool_int a b t
  | str b=>obtain ⟨t,rfl⟩:=rx;exact SeqAt.EqAt.bool_str a b t
  | _=>exact absurd (show false=true from fx) qO
 | int a =>
  obtain ⟨t',rfl⟩:=ry
  cases x with
  | non=>cases rx;exact SeqAt.EqAt.int_none a t'
  | bl b=>cases rx;exact SeqAt.EqAt.int_bool a t' b
  | int b=>obtain ⟨t,rfl⟩:=rx;exact vk a t' b t
  | str b=>obtain ⟨t,rfl⟩:=rx;exact wL a t' b t
  | _=>exact absurd (show false=true from fx) qO
 | str a =>
  obtain ⟨t',rfl⟩:=ry
  cases x with
  | non=>cases rx;exact SeqAt.EqAt.str_none a t'
  | bl b=>cases rx;exact SeqAt.EqAt.str_bool a t' b
  | int b=>obtain ⟨t,rfl⟩:=rx;exact wM a t' b t
  | str b=>obtain ⟨t,rfl⟩:=rx;exact wO a t' b t
  | _=>exact absurd (show false=true from fx) qO
 | _=>exact absurd (show false=true from fy) qO
def eqU (x:V)(u:qw):Bool:=match u with
 | .none=>eqV .non x
 | .bool b=>eqV (.bl b) x
 | .int i _=>eqV (.int i) x
 | .str z _=>eqV (.str z) x
 | _=>false
theorem kF {x y:V}{u:qw}(r:RelV y u)(f:dA y=true):eqU x u=eqV y x:=by
 cases y with
 | non=>cases r;rfl
 | bl b=>cases r;rfl
 | int i=>obtain ⟨t,rfl⟩:=r;rfl
 | str z=>obtain ⟨t,rfl⟩:=r;rfl
 | _=>exact absurd (show false=true from f) qO
theorem gA {x:V}:∀{xs:List V} {us:List qw},Vals xs us->xs.all dA=true->us.any (eqU x)=xs.any λy=>eqV y x
 | _,_,.nil,_=>rfl
 | y :: xs,u :: us,.cons r t,f=>by
  rw[x4,rZ] at f
  rw[vJ,vJ,kF r f.1,gA t f.2]
theorem eV {A:r6}{s:qy}{x:V}{v:qw}(rx:RelV x v)(fx:dA x=true):∀{xs:List V} {us:List qw},Vals xs us->xs.all dA=true->∀u∈us,uK A s u v (eqU x u)
 | _,_,.nil,_=>λu hu=>by cases hu
 | y :: xs,u :: us,.cons r t,f=>λu' hu=>by
  rw[x4,rZ] at f
  rcases rU.mp hu with rfl | hu
  ·rw[kF r f.1];exact ow r rx f.1 fx
  ·exact eV rx fx t f.2 u' hu
def inV (x:V)(xs:List V):Bool:=xs.any λy=>eqV y x
def rIn (K:qv)(neg:Bool):R2:=λx y H Q=>∃p xs,y = .ref p/\(SqL K H p xs\/SqT K H p xs)/\dA x=true/\xs.all dA=true/\Q (.bl (if neg then !inV x xs else inV x xs)) H
theorem gB:OpR X (tJ .NotIn) (rIn X.K true):=by
 intro pins s σ H x y v u Q I rx ry h
 obtain ⟨p,xs,rfl,hq,fx,fs,q⟩:=h
 cases ry
 rcases hq with hq | hq
 ·obtain ⟨its,r,pl,hz⟩:=I.list hq
  refine SeqAt.notIn_listAt (eqU x) pl.isList (λw hw=>eV rx fx r fs w (by simpa using hw)) ⟨.bl _,H,I,rfl,?_⟩
  rw[show its.toArray.any (eqU x)=its.any (eqU x) by simp,gA r fs]
  exact q
 ·obtain ⟨its,r,pl,hz⟩:=I.tuple hq
  refine wH (eqU x) pl (λw hw=>eV rx fx r fs w (by simpa using hw)) ⟨.bl _,H,I,rfl,?_⟩
  rw[show its.toArray.any (eqU x)=its.any (eqU x) by simp,gA r fs]
  exact q
theorem bD:bM X (.builtin "len") (λxs H Q=>∃p ys,xs=[.ref p]/\(SqL X.K H p ys\/SqT X.K H p ys)/\Q (.int ys.length) H):=by
 intro pins s σ H xs us Q I r h
 obtain ⟨p,ys,rfl,hq,q⟩:=h
 obtain ⟨u,rfl,rx⟩:=vals1 r
 cases rx
 have hn:=dR
 rcases hq with hq | hq
 ·obtain ⟨its,r',pl,hz⟩:=I.list hq
  have hlen:=r'.length
  exact Calls.call_len_list pl.isList (by simp only[qx] <;> lia) ⟨.int ys.length,H,I.tok _,⟨s.toks+1,by rw[qx,hlen]⟩,q⟩
 ·obtain ⟨its,r',pl,hz⟩:=I.tuple hq
  have hlen:=r'.length
  exact len_tuple pl (by simp only[qx] <;> lia) ⟨.int ys.length,H,I.tok _,⟨s.toks+1,by rw[qx,hlen]⟩,q⟩
theorem dB:bM X (.type "list") (λxs H Q=>∃p ys,xs=[.ref p]/\(SqL X.K H p ys\/SqT X.K H p ys)/\∀l,H l=none->Q (.ref l) (upd H l (.lst ys))):=by
 intro pins s σ H xs us Q I r h
 obtain ⟨p,ys,rfl,hq,q⟩:=h
 obtain ⟨u,rfl,rx⟩:=vals1 r
 cases rx
 have fin:∀(its:List qw),Vals ys its->ys.length<=qD->∀(h':Heap) (c':Nat),(∀b o',s.heap.get? b=some o'->h'.get? b=some o') →
   h'.get? s.heap.objs.size=some { cls :=.type "list",dict:=none,data :=.seq its.toArray c',slots := #[] }->EP X pins σ Q (.ref s.heap.objs.size) { s with heap:=h' }:=λits r' hz h' c' kp e =>
  ⟨.ref s.heap.objs.size,_,I.laid (t':=s.toks) kp (qz _) (show aX X.prog X.w _ h' _ (.lst ys) from ⟨hz,its,c',r',e⟩),rfl,q _ (I.hok.fresh (qz _))⟩
 rcases hq with hq | hq
 ·obtain ⟨its,r',pl,hz⟩:=I.list hq
  have hlen:=r'.length
  obtain ⟨o,ho,hc,n,hd⟩:=pl.isList
  exact call_list_seq p (.inl rfl) ho hc hd (λh' c' kp e=>fin its r' hz h' c' kp e) (by simp only[qx] <;> lia)
 ·obtain ⟨its,r',pl,hz⟩:=I.tuple hq
  have hlen:=r'.length
  obtain ⟨o,ho,hc,n,hd⟩:=pl
  exact call_list_seq p (.inr rfl) ho hc hd (λh' c' kp e=>fin its r' hz h' c' kp e) (by simp only[qx] <;> lia)
theorem aA:bM X (.type "tuple") (λxs H Q=>∃p ys,xs=[.ref p]/\((SqL X.K H p ys/\∀l,H l=none->Q (.ref l) (upd H l (.tup ys)))\/(SqT X.K H p ys/\Q (.ref p) H))):=by
 intro pins s σ H xs us Q I r h
 obtain ⟨p,ys,rfl,h⟩:=h
 obtain ⟨u,rfl,rx⟩:=vals1 r
 cases rx
 rcases h with ⟨hq,q⟩ | ⟨hq,q⟩
 ·obtain ⟨its,r',pl,hz⟩:=I.list hq
  have hlen:=r'.length
  refine call_tuple_list pl.isList (λh' kp =>?_) (by simp only[qx] <;> lia)
  have I1:Inv X pins σ H { s with heap:=h' }:=I.kept (t':=s.toks) kp
  have I2:Inv X pins σ (upd H h'.objs.size (.tup ys)) { s with heap:=h'.push { cls :=.type "tuple",data :=.seq its.toArray } } :=
   I1.laid (t':=s.toks) (λb o e=>qB _ e) (qz _) (show aX X.prog X.w _ _ _ (.tup ys) from ⟨hz,its,r',bQ.new _ _⟩)
  exact ⟨.ref h'.objs.size,_,I2,rfl,q _ (I1.hok.fresh (qz _))⟩
 ·obtain ⟨its,r',pl,hz⟩:=I.tuple hq
  exact call_tuple_same pl ⟨.ref p,H,I,rfl,q⟩
def tyV (K:qv)(T:String)(x:V)(H:Hp):Prop:=match x with
 | .str _=>T = "str"
 | .int _=>T = "int"
 | .ref p=>(T = "list" /\ ∃xs,SqL K H p xs)\/(T = "tuple" /\ ∃o,K.lookup p=some o/\o.cls = .type "tuple" /\ o.dict=none) ∨
   (T = "dict" /\ ((∃kvs,H p=some (.dK kvs))\/∃kvs,H p=some (.dT kvs)))\/(T = "set" /\ ∃S n,H p=some (.set S n))
 | _=>False
theorem ox {pins:List (Addr×Obj)}{σ:St}{H:Hp}{s:qy}{T:String}{x:V}{v:qw}(I:Inv X pins σ H s)(r:RelV x v)(ty:tyV X.K T x H) :
  s.TypeIs v T/\∀a,v = .ref a->∃ob,s.heap.get? a=some ob/\ob.dict=none:=by
 cases x with
 | str z =>
  obtain ⟨t,rfl⟩:=r
  cases (show T = "str" from ty)
  exact ⟨typeIs_str s z t,λ_ e=>nomatch e⟩
 | int i =>
  obtain ⟨t,rfl⟩:=r
  cases (show T = "int" from ty)
  exact ⟨xZ s i t,λ_ e=>nomatch e⟩
 | ref p =>
  cases r
  rcases ty with ⟨rfl,xs,hq⟩ | ⟨rfl,o,hk,hc,hd⟩ | ⟨rfl,hk⟩ | ⟨rfl,S,n,hk⟩
  ·obtain ⟨its,_,pl,_⟩:=I.list hq
   refine ⟨pl.isList.typeIs,λa e =>?_⟩
   cases e
   obtain ⟨o,n,e,c,hd,_⟩:=pl
   exact ⟨o,e,hd⟩
  ·refine ⟨⟨o,I.kIn p o hk,hc⟩,λa e =>?_⟩
   cases e
   exact ⟨o,I.kIn _ o hk,hd⟩
  ·have z:∃o,s.heap.get? p=some o/\o.ExactDict:=by
    rcases hk with ⟨kvs,hk⟩ | ⟨kvs,hk⟩
    ·obtain ⟨_,_,_,_,o,_,_,e,ex,_⟩:=I.hok p _ hk
     exact ⟨o,e,ex⟩
    ·obtain ⟨_,_,_,_,o,_,_,e,ex,_⟩:=I.hok p _ hk
     exact ⟨o,e,ex⟩
   obtain ⟨o,e,ex⟩:=z
   refine ⟨⟨o,e,ex.1⟩,λa e2 =>?_⟩
   cases e2
   exact ⟨o,e,ex.2.1⟩
  ·obtain ⟨o,_,_,_,e,ex,_⟩:=I.hok p _ hk
   refine ⟨⟨o,e,ex.1⟩,λa e2 =>?_⟩
   cases e2
   exact ⟨o,e,ex.2.1⟩
 | _=>exact False.elim ty
def tBM (K:qv)(T:String)(r:V->List V->Hp->VK->Prop)(to:TE)(t:TA):TE:=λσ H Q=>to σ H λx H1=>tyV K T x H1/\t σ H1 λxs H2=>r x xs H2 Q
variable  {o e:Expr}{es:List Expr}{to:TE}{t:TA}{name:Str}{apos cpos:Pos}{T id:String}{r:V->List V->Hp->VK->Prop}
theorem kG (pa:PlainAttrs T)(slot:Slot T name id)(hty:typeOf (.builtin id)=pure (.type "method_descriptor"))(hm:MtR X id r)(ho:PE X o to)(ha:PA X (e :: es) t)
  (hbase:attributeBase o name X.env (eval o X.env)=eval o X.env:=by rfl)
  (hfew:((u0 cpos (rL (e :: es) X.env)).all (λx => !x.1) && (backToKw cpos (keywordEach [] X.env)).all (λx=>x.1.isSome)
   && decide ((e :: es).length+([]:List Keyword).length+(if ([]:List Keyword).isEmpty then 0 else 1)<30))=true:=by rfl)
  (hline:(apos.endLine == cpos.line)=true:=by rfl) (hs:rL (e :: es) X.env=(false,eval e X.env) :: rL es X.env:=by rfl) (hplain:(u0 cpos (rL es X.env)).any (·.1)=false:=by rfl) :
  PE X (.Call (.Attribute o name apos) (e :: es) [] cpos) (tBM X.K T r to t):=by
 intro pins s σ H Q I h
 refine v7 hbase hfew hline rfl (thn (ho pins s σ H _ I h) λv s1 ⟨x,H1,I1,r1,ty,q1⟩ =>?_)
 obtain ⟨h1,h2⟩:=ox I1 r1 ty
 refine ⟨T,id,pa,slot,hty,h1,h2,?_⟩
 have hA:=ha cpos pins s1 σ H1 _ I1 q1
 rw[hs] at hA ⊢
 refine vZ (by show (false || (u0 cpos (rL es X.env)).any (·.1))=false;rw[hplain] <;> rfl) (uV ?_)
 exact thn hA λus s2 ⟨vs,H2,I2,r2,q2⟩=>hm pins s2 σ H2 x vs v us Q I2 r1 r2 q2
end
open PySem PySem.Spec PyProof.Rows
def MtM (X:Cx)(id:String)(r:V->List V->Hp->VK->Prop):Prop :=
 ∀(pins:List (Addr×Obj)) (s:qy) (σ:St) (H:Hp) (x:V) (xs:List V) (v:qw) (us:List qw) (Q:VK),Inv X pins σ H s->RelV x v->Vals xs us->r x xs H Q →
  rH (rD X.prog X.w) X.A (call (.builtin id) (v :: us)) (EP X pins σ Q) X.xe s
theorem Vals.one:∀{x:V} {us:List qw},Vals [x] us->∃u,us=[u]/\RelV x u
 | _,_,.cons r .nil=>⟨_,rfl,r⟩
section
variable  {X:Cx}{pins:List (Addr×Obj)}{σ:St}{H:Hp}{s:qy}{l b:Addr}{xs ys zs:List V}
theorem Inv.oy {its its':List qw}{n:Nat}{f:Array qw->Array qw}{t':Nat}(I:Inv X pins σ H s)(hH:H l=some (.lst xs))
  (e:s.heap.get? l=some { cls :=.type "list",data :=.seq its.toArray n }) (hf:f its.toArray=its'.toArray) (hv:Vals ys its') (hz:ys.length<=qD) :
  Inv X pins σ (upd H l (.lst ys)) { s with heap:=s.heap.update l (tV f),toks:=t' }:=by
 have q:=PySem.IsL.update e f
 rw[hf] at q
 refine I.write (x:=l) (e:=l) (by rw[hH];exact trivial) (.inl rfl) (λb' u hb hu=>(vY s.heap (tV f) (uv hb)).trans hu) ⟨_,q⟩ ?_
 exact ⟨hz,its',_,hv,q⟩
theorem Inv.lnew {its:List qw}{t':Nat}(I:Inv X pins σ H s)(hv:Vals ys its)(hz:ys.length<=qD) :
  Inv X pins σ (upd H s.heap.objs.size (.lst ys)) { s with heap:=s.heap.push { cls :=.type "list",data :=.seq its.toArray },toks:=t' } :=
 I.laid (λ_ _ q=>qB _ q) (qz _) ⟨hz,its,0,hv,q8 _ rfl⟩
theorem Inv.fresh (I:Inv X pins σ H s):H s.heap.objs.size=none:=I.hok.fresh (qz _)
theorem Inv.oz (I:Inv X pins σ H s)(hH:H l=some (.lst xs)):xs.length<=qD/\∃(its:List qw) (n:Nat),Vals xs its/\xs.length=its.length/\s.heap.get? l=some { cls :=.type "list",data :=.seq its.toArray n }:=by
 obtain ⟨z,its,n,r,e⟩:=I.hok l _ hH
 exact ⟨z,its,n,r,r.length,e⟩
end
section
variable  {X:Cx}
def mw:V->List V->Hp->VK->Prop:=λx vs H Q=>∃l xs y,x = .ref l/\vs=[y]/\H l=some (.lst xs)/\xs.length<qD/\Q .non (upd H l (.lst (xs++[y])))
theorem jP:MtM X "list.append" mw:=by
 intro pins s σ H x vs v us Q I rx rv h
 obtain ⟨l,xs,y,rfl,rfl,hH,hz,q⟩:=h
 cases rx
 obtain ⟨u,rfl,ru⟩:=rv.one
 obtain ⟨z,its,n,r,hl,e⟩:=I.oz hH
 refine u5 F.slot_list_append ⟨_,e,rfl⟩ F.entry_list_append (F.args_list_append_2 _ _) (PySem.list_append l its.toArray n u (by rw[qx];lia)) ⟨e,?_⟩
 refine ⟨.non,_,I.oy (its':=its++[u]) hH e (by simp) (r.append (.cons ru .nil)) ?_,rfl,q⟩
 rw[qC,sW]
 lia
theorem len_rep {α:Type}(xs:List α)(k:Nat):(rB k xs).flatten.length=k*xs.length:=by
 induction k with
 | zero=>simp
 | succ k ih=>rw[tQ,tq,qC,ih,Nat.succ_mul,Nat.add_comm]
end
section
variable  {prog:qX}{w:rO}{A:r6}{E:qw->qy->Prop}{s:qy}
end
section
variable  {X:Cx}
end
end L2
namespace Att
open PySem PySem.W PySem.Calls PyProof.Rows
theorem eF {P:Params}{h:Heap}:∀(ns:List Int) (vs:List qw),WellAll P h vs (ns.map WData.int)->vb vs ns:=by
 intro ns
 induction ns with
 | nil =>
  intro vs w
  rw[x9] at w
  cases w
  exact .nil
 | cons n ns ih =>
  intro vs w
  rw[rz] at w
  cases w with
  | cons a b =>
   cases a
   exact .cons _ _ (ih _ b)
theorem jQ {l:OpenLaw}{n:Nat}(hn:l.most=some n){P:Params}{h:Heap}{args:List WData}{vals:List qw}
  (hpre:l.row.toRowW.claim.pre args=true) (hwl:WellAll P h vals args) :
  ∃a vs ns,vals=[qW a]/\args=[WData.list (ns.map WData.int)]/\h.get? a=some { cls :=.type "list",data :=.seq vs.toArray }/\vb vs ns/\ns.length<=n:=by
 have hsh:WShape.hasAll [] args [.list .int]=true:=(pre_splitW hpre).1
 have hc:l.pre.holds [] { args:=args }=true:=(pre_splitW hpre).2
 obtain ⟨d,r,rfl,h1,h2⟩:=hasAllW_cons hsh
 obtain rfl:=hasAllW_nil h2
 obtain ⟨xs,rfl,h3⟩:=hasW_list h1
 obtain ⟨ns,rfl⟩:=items_int h3
 have hlen:ns.length<=n:=by
  unfold OpenLaw.pre at hc
  have h4:(WTm.not (.lt (.lit (.int (n:Int))) (.len (.arg 0)))).holds [] { args:=[.list (ns.map .int)] }=true:=by
   have h4:=(holds_andW hc).1
   rw[hn] at h4
   exact h4
  have h5:=condW_of h4 (w_not (w_lt w_lit (w_len_list (w_arg rfl))))
  rw[qu] at h5
  refine Nat.le_of_not_lt λq =>?_
  have q':(n:Int)<((ns.length:Nat):Int):=by omega
  first
   | (rw[decide_eq_true q'] at h5;exact absurd h5 (by decide))
   | (simp at h5;omega)
 cases hwl with
 | cons w1 w2 =>
  cases w2
  cases w1 with
  | list ho hall=>exact ⟨_,_,ns,rfl,rfl,ho,eF ns _ hall,hlen⟩
theorem jR (l:OpenLaw)(args:List WData):l.row.toRowW.claim.post args (.bool true) args=true :=
 postW_of (r:=l.row.toRowW) (X:=(true == true))
  (show WShape.has [] (.bool true) .bool=true by first | rfl | decide | simp[WShape.has,WShape.arms,WShape.armsAll])
  (show (WTm.eq .res (.lit (.bool true))).value [] { args:=args,res:=some (.bool true),after:=args }=some (.bool (true == true)) from w_eq_bool (w_res rfl) w_lit) rfl
theorem g7 {l:OpenLaw}{n:Nat}{q:qX}{loose:List Str}{XP:(Str->Option qw)->Heap->Prop}{YP:rO->Heap->Prop}{d:DefRec}
  (hn:l.most=some n) (hdf:d.params.defaults=[])
  (call:∀(w:rO) (s₀ s₁:qy) (mg mb:Str->Option qw) (fa:Addr) (o:Obj) (pm cd doc:qw) (a:Addr) (vs:List qw) (ns:List Int),
   Ground q loose [] XP w s₀ mg mb s₁.heap->YP w s₁.heap →
   s₁.heap.get? fa=some o->o.data = .func (docDef d.name d.params d.body d.scope pm cd doc)->s₁.heap.CodeRec cd d.name->mg d.name=some (.ref fa) →
   s₁.heap.get? a=some { cls :=.type "list",data :=.seq vs.toArray }->vb vs ns->ns.length<=n->s₁.gens = #[] →
   xq (rD l.prog w) callerA (.call (.ref fa) ⟨[.ref a],[]⟩) (λr s'=>r = .ok (.ret (.bool true))/\OldK s₁.heap s'.heap/\s'.os=s₁.os/\AllBare s'.gens) s₁) :
  WalkO q loose XP YP l.row.toRowW d [] (λf vs=>PySem.call f vs):=by
 intro w s₀ s₁ mg mb G Y fa o pm cd doc dV kV ho hd hcd hD hmg hg args vals as hpre hlay hrd hwl hlo
 obtain rfl:dV = .none:=Dflts.none hD hdf
 obtain rfl:kV = .none:=Dflts.noKw hD
 obtain ⟨a,vs,ns,rfl,rfl,hobj,hints,hlen⟩:=jQ hn hpre hwl
 refine enter_call (vn (call w s₀ s₁ mg mb fa o pm cd doc a vs ns G Y ho (fd_plain hd) hcd hmg hobj hints hlen hg) λr s' hq =>?_)
 obtain ⟨rfl,h2,h3,h4⟩:=hq
 exact ⟨.inl ⟨.bool true,.bool true,[],rfl,λ_=>rfl,.bool true,jR l _,λ_=>⟨List.Pairwise.nil,λ_ hm=>(nomatch hm)⟩⟩,h2,h3,h4⟩
section
variable  {prog:qX}{w:rO}{A:r6}{E:qw->qy->Prop}{s:qy}{K:Frag}
def ledger (h:Heap)(L d:Addr):List (Addr×Obj):=(sN h.objs.size).filterMap λa=>if a=L\/a=d then none else (h.get? a).map λo=>(a,o)
end
end Att
namespace L2
open PySem PySem.Spec PyProof.Rows
theorem fK:∀{vs:List qw} {ns:List Int},vb vs ns->Vals (ns.map V.int) vs
 | _,_,.nil =>.nil
 | _,_,.cons n t h =>.cons ⟨t,rfl⟩ (fK h)
def oA (H:Hp):Prop:=∀b,H b=none\/∃o xs,H b=some (.frz o (.lst xs))
theorem kH {P:qX}{w:rO}{K:qv}{mg mb:Str->Option qw}{CX:CXT}{k:Nat}{fa a:Addr}{fd:sA}{x:Str}{sp:Sp}{s₁:qy}{vs:List qw}{ns:List Int}
  (KX:K.In s₁.heap) (hns:s₁.heap.Ns qT mg) (hb:s₁.heap.Ns builtinsNs mb) (hbb:∀x:Str,x ≠ "__name__" -> mb x=rS x) (hlim:s₁.heap.NoLimit) (hg:s₁.gens = #[])
  (ha:s₁.heap.get? a=some { cls :=.type "list",data :=.seq vs.toArray }) (hi:vb vs ns) (hl:ns.length<=qD) (hr:bI k callerA)
  (F:∀base:Heap,K.In base->base.Ns qT mg->bu P w K mg base CX k fa fd [x] sp) (hbind:∀(s:qy) (u:qw),BindsTo s fd ⟨[u],[]⟩ [(x,u)])
  (hsp:∀H:Hp,oA H->SqL K H a (ns.map V.int)->sp [.ref a] H (λv _=>v = .bl true) λ_ _ _=>False)
  (hCX:∀H e s',CX [] H s₁ (λ_ _ _=>False) e s'->False) :
  xq (rD P w) callerA (.call (.ref fa) ⟨[.ref a],[]⟩) (λr s'=>r = .ok (.ret (.bool true))/\OldK s₁.heap s'.heap/\s'.os=s₁.os/\AllBare s'.gens) s₁:=by
 have rv:=fK hi
 have lenV:=hi.length
 have core:∀H:Hp,oA H->SqL K H a (ns.map V.int)->HOk P w H s₁.heap->(∀b,H b≠none->b=a)->(H a≠none->K.lookup a=none) →
   xq (rD P w) callerA (.call (.ref fa) ⟨[.ref a],[]⟩) (λr s'=>r = .ok (.ret (.bool true))/\OldK s₁.heap s'.heap/\s'.os=s₁.os/\AllBare s'.gens) s₁:=by
  intro H hO hS hok hA hK
  have base_of:∀{b:Addr} {o:Obj},s₁.heap.get? b=some o->H b=none->(gh s₁.heap H).get? b=some o:=λe n=>kh e n
  have noA:∀{b:Addr} {o:Obj} {es:Array DictEntry} {ep:Nat},s₁.heap.get? b=some o->o.data = .dict es ep->H b=none:=λ{b o es ep} e d=>by
   cases q:H b with
   | none=>rfl
   | some u =>
    have e':b=a:=hA b (by rw[q];simp)
    subst e'
    rw[ha] at e;cases e
    have d':Data.seq vs.toArray _=Data.dict es ep:=d
    cases d'
  have nsK:∀{b:Addr} {m:Str->Option qw},s₁.heap.Ns b m->(gh s₁.heap H).Ns b m:=λ{b m} ⟨o,es,ep,e,d,r⟩=>⟨o,es,ep,base_of e (noA e d),d,r⟩
  have hKb:K.In (gh s₁.heap H):=λb o e=>base_of (KX b o e) (by
   cases q:H b with
   | none=>rfl
   | some u =>
    have e':b=a:=hA b (by rw[q];simp)
    subst e'
    rw[hK (by rw[q];simp)] at e;cases e)
  have hM:Mod K mg (gh s₁.heap H):=⟨hKb,nsK hns,⟨mb,nsK hb,hbb⟩,let ⟨mc,h1,h2⟩:=hlim;⟨mc,nsK h1,h2⟩⟩
  have e0:me P w K mg (gh s₁.heap H) callerA [] s₁ H:=⟨rfl,hM,λb o e=>lX e,Nat.le_of_eq (jI _ _),trivial,λb hb=>absurd (show b∈([]:List Addr) from hb) (by simp),hok,.of_eq hg⟩
  refine vn ((F _ hKb (nsK hns)).run callerA [] s₁ H ⟨[.ref a],[]⟩ [.ref a] [.ref a] _ _ hr e0 (hbind s₁ (.ref a)) (.cons rfl .nil) (hsp H hO hS)) λr s' h =>?_
  cases r with
  | error e=>exact (hCX H e s' h).elim
  | ok fl =>
   cases fl with
   | next=>exact False.elim h
   | brk=>exact False.elim h
   | cont=>exact False.elim h
   | ret u =>
    obtain ⟨v,H',os,bare,un,hok',r',q⟩:=h
    have q':v = .bl true:=q
    subst q'
    obtain rfl:u=Value.bool true:=r'
    refine ⟨rfl,OldK.of_keep λb o e =>?_,os,bare⟩
    cases q:H b with
    | none=>exact un.keep b o e q (by intro z;exact absurd (show b∈([]:List Addr) from z) (by simp)) (by simp)
    | some u =>
     rcases hO b with z | ⟨ob,xs,z⟩
     ·rw[q] at z;cases z
     ·have z2:=un.frzs b ob _ z
      obtain ⟨e1,_⟩:=hok b _ z
      obtain ⟨e2,_⟩:=hok' b _ z2
      rw[e] at e1;cases e1
      exact e2
 cases hk:K.lookup a with
 | some o =>
  have e:=KX a o hk
  rw[ha] at e
  cases e
  refine core (λ_=>none) (λ_ =>.inl rfl) (.inr ⟨_,vs.toArray,_,hk,rfl,rfl,rfl,by rw[qx,lenV];exact hl,by simpa using rv⟩) (λb u z=>by have z':(none:Option HO)=some u:=z;cases z') (λb z=>absurd rfl z) λz=>absurd rfl z
 | none =>
  refine core (λb=>if b=a then some (.frz { cls :=.type "list",data :=.seq vs.toArray } (.lst (ns.map V.int))) else none) (λb =>?_) (.inl (.inr ⟨{ cls :=.type "list",data :=.seq vs.toArray },if_pos rfl⟩)) (λb u z =>?_) (λb z =>?_) λ_=>hk
  ·by_cases hb:b=a
   ·exact .inr ⟨_,_,if_pos hb⟩
   ·exact .inl (if_neg hb)
  ·by_cases hb:b=a
   ·have z':=(if_pos hb).symm.trans z
    cases z'
    subst hb
    exact ⟨ha,by rw[qu];exact hl,vs,_,rv,ha⟩
   ·have z':=(if_neg hb).symm.trans z
    cases z'
  ·by_cases hb:b=a
   ·exact hb
   ·exact absurd (if_neg hb) z
open PySem PySem.Spec PyProof.Rows
theorem my {l:PySem.W.OpenLaw}{n k:Nat}{q:qX}{loose:List Str}{XP:(Str->Option qw)->Heap->Prop}{YP:rO->Heap->Prop}{d:DefRec}{K:Params->qv}{CX:rO->CXT}{sp:rO->Sp}{x:Str}
  (hn:l.most=some n) (hn2:n<=qD) (hdf:d.params.defaults=[]) (hr:bI k callerA)
  (hY:∀(w:rO) (h:Heap),YP w h->(K w.params).In h)
  (F:∀(w:rO) (mg:Str->Option qw) (fa:Addr) (h:Heap),(K w.params).In h->h.Ns qT mg->mg d.name=some (.ref fa) →
   ∃fd:sA,(∀(s:qy) (u:qw),BindsTo s fd ⟨[u],[]⟩ [(x,u)]) ∧
    ∀base:Heap,(K w.params).In base->base.Ns qT mg->bu l.prog w (K w.params) mg base (CX w) k fa fd [x] (sp w))
  (hsp:∀(w:rO) (H:Hp) (a:Addr) (ns:List Int),ns.length<=n->oA H->SqL (K w.params) H a (ns.map V.int)->sp w [.ref a] H (λv _=>v = .bl true) λ_ _ _=>False)
  (hCX:∀(w:rO) (H:Hp) (s:qy) (e:qw) (s':qy),CX w [] H s (λ_ _ _=>False) e s'->False) :
  PySem.W.WalkO q loose XP YP l.row.toRowW d [] (λf vs=>PySem.call f vs):=by
 refine Att.g7 hn hdf λw s₀ s₁ mg mb fa o pm cd doc a vs ns G Y ho hd hcd hmg hobj hints hlen hg =>?_
 have KX:=hY w _ Y
 obtain ⟨fd,hb,hF⟩:=F w mg fa _ KX G.T.g hmg
 exact kH KX G.T.g G.T.b G.T.builtins G.T.nolimit hg hobj hints (rn hlen hn2) hr hF hb (λH hO hS=>hsp w H a ns hlen hO hS) λH e s'=>hCX w H s₁ e s'
open PySem PySem.Spec PyProof.Rows
def bN (s:Stmt):Arguments:=match s with
 | .FunctionDef _ a _ _ _ _ _ _ _ _=>a
 | _=>{ posonlyargs:=[],args:=[],vararg:=none,kwonlyargs:=[],kw_defaults:=[],kwarg:=none,defaults:=[] }
def bz (s:Stmt):List Stmt:=match s with
 | .FunctionDef _ _ b _ _ _ _ _ _ _=>b
 | _=>[]
def ao (s:Stmt):Scope:=match s with
 | .FunctionDef _ _ _ _ _ _ sc _ _ _=>sc
 | _=>{ kind :=.function,names:=[],isGenerator:=false,isCoroutine:=false }
abbrev CX0:CXT:=λ_ _ _ _ _ _=>False
abbrev E0:XK:=λ_ _ _=>False
theorem pX {X:Cx}:Passes CX0 X E0:=λ_ _ _ _ _ _ _ h=>h.elim
structure Fun (K:qv)(x qual:Str)(st:Stmt)(f:Addr)(fd:sA):Prop where
 ex:∃(oc:qw) (od:Option Addr) (kV doc pm:qw) (an:Option Addr) (cdv ct:qw) (osl:Array (Option qw)),
  fd=PySem.W.fnOf x qual (bN st) (bz st) (ao st) .none kV doc pm an cdv ct/\K.lookup f=some ⟨oc,od,.func fd,osl⟩/\PySem.W.codeIn K cdv qual=true
 kp:PySem.W.keepIn K (.ref f)=true
section
variable  {P:qX}{w:rO}{K:qv}{mg:Str->Option qw}{base:Heap}
theorem Fun.ok {x qual:Str}{st:Stmt}{f:Addr}{fd:sA}{N ps:List Str}{k:Nat}{sp:Sp}(F:Fun K x qual st f fd)(S:aT N ps (ao st))(len:∀vs H Q E,sp vs H Q E->vs.length=ps.length)
  (hbody:∀(cdv:qw) (A:r6) (outer:List Env) (s:qy) (H:Hp) (vs:List V) (Q:VK) (E:XK),bI k (A.deeper (envOfC qual (ao st) s.heap.objs.size f cdv))->sp vs H Q E →
   ∃t,PSs (gY CX0 P w K mg base N qual (ao st) f cdv A outer s H E).nox (bz st) t/\t { nx:=λ_ H'=>Q .non H',rt:=Q } (start N vs) H):bu P w K mg base CX0 (k+1) f fd ps sp:=by
 obtain ⟨oc,od,kV,doc,pm,an,cdv,ct,osl,rfl,lk,hcd⟩:=F.ex
 refine nC lk hcd S len λA outer s H vs Q E hr hsp =>?_
 obtain ⟨t,h,q⟩:=hbody cdv A outer s H vs Q E hr hsp
 exact ⟨t,h.nox,q⟩
theorem Fun.binds {x qual:Str}{st:Stmt}{f:Addr}{fd:sA}{ps:List Str}(F:Fun K x qual st f fd)
  (h:∀(kV doc pm:qw) (an:Option Addr) (cdv ct:qw) (us:List qw),us.length=ps.length->bindArgs (PySem.W.fnOf x qual (bN st) (bz st) (ao st) .none kV doc pm an cdv ct) ⟨us,[]⟩=pure (ps.zip us)):Binds K fd ps []:=by
 obtain ⟨oc,od,kV,doc,pm,an,cdv,ct,osl,rfl,lk,hcd⟩:=F.ex
 exact .all (h kV doc pm an cdv ct)
theorem iF {x qual:Str}{st:Stmt}{f:Addr}{oc:qw}{od an:Option Addr}{osl:Array (Option qw)}{kV doc pm cdv ct:qw}(l:K.lookup f=some ⟨oc,od,.func (PySem.W.fnOf x qual (bN st) (bz st) (ao st) .none kV doc pm an cdv ct),osl⟩)
  (c:PySem.W.codeIn K cdv qual=true) (k:PySem.W.keepIn K (.ref f)=true):Fun K x qual st f (PySem.W.fnOf x qual (bN st) (bz st) (ao st) .none kV doc pm an cdv ct):=⟨⟨oc,od,kV,doc,pm,an,cdv,ct,osl,rfl,l,c⟩,k⟩
end
theorem dW {n:Nat}(h:n<=1000):n<qD:=wQ h (by decide)
section
variable  {X:Cx}
theorem pv (i:Nat){x:Str}{pos:Pos}(hN:X.N[i]? = some x:=by rfl)(hv:Vis X.env.scope x:=by first | exact Or.inl rfl | exact Or.inr (Or.inl rfl) | exact Or.inr (Or.inr rfl))(hd:(x == ("__debug__" : Str))=false:=by decide)
  (hcd:(x == ("__classdict__" : Str))=false:=by decide):PE X (.Name x pos) (px i):=nV hN hv hd hcd
end
theorem bj {A B:Prop}(h:B):if false=true then A else B:=by
 rw[if_neg qO]
 exact h
theorem bC {A B:Prop}(h:A):if true=true then A else B:=by
 rw[if_pos rfl]
 exact h
theorem oB {c A B:Prop}[Decidable c](h1:c->A)(h2:¬ c->B):if c then A else B:=by
 by_cases h:c
 ·rw[if_pos h]
  exact h1 h
 ·rw[if_neg h]
  exact h2 h
theorem fL {c A B:Prop}[Decidable c](hc:c)(h:B):if (!decide c)=true then A else B:=by
 rw[decide_eq_true hc]
 exact bj h
def aF (H H':Hp):Prop:=∀b o,H b=some o->H' b=some o
theorem aF.refl (H:Hp):aF H H:=λ_ _ h=>h
theorem aF.trans {H H1 H2:Hp}(a:aF H H1)(b:aF H1 H2):aF H H2:=λc o h=>b c o (a c o h)
theorem aF.free {H H':Hp}(e:aF H H'){l:Addr}(h:H' l=Option.none):H l=Option.none:=by
 cases q:H l with
 | none=>rfl
 | some o =>
  rw[e l o q] at h
  cases h
theorem aF.seq {K:qv}{H H':Hp}{a:Addr}{xs:List V}(e:aF H H')(h:SqL K H a xs):SqL K H' a xs:=by
 rcases h with (h | ⟨o,h⟩) | h
 ·exact .inl (.inl (e _ _ h))
 ·exact .inl (.inr ⟨o,e _ _ h⟩)
 ·exact .inr h
end L2
set_option maxHeartbeats 4000000
namespace L2
open PySem PySem.Spec PyProof.Rows
def g9 (on:List (Str×NameKind))(N:List Str)(sc:Scope)(N':List Str)(ix:List (Option Nat)):Bool :=
 decide (sc.kind = .function) &&
 sc.names.all (λy=>match y.2 with
  | .local=>decide (sc.names.lookup y.1=some .local)
  | .cell=>false
  | .free=>decide (on.lookup y.1=some .cell) || decide (on.lookup y.1=some .free)
  | _=>true) &&
 decide (ix.length=N'.length) &&
 (ix.zip N').all (λp=>match p.1 with
  | none=>true
  | some j=>decide (N[j]? = some p.2) && decide (sc.names.lookup p.2=some .free))
theorem eh {ns:List (Str×NameKind)}{y:Str}{k:NameKind}(h:ns.lookup y=some k):(y,k)∈ns:=tE h
structure eW (on:List (Str×NameKind))(N:List Str)(sc:Scope)(N':List Str)(ix:List (Option Nat)):Prop where
 kind:sc.kind = .function
 locs:∀y∈sc.names,y.2 = .local->sc.names.lookup y.1=some .local
 nocell:∀y∈sc.names,y.2 ≠ .cell
 frees:∀y∈sc.names,y.2 = .free->on.lookup y.1=some .cell\/on.lookup y.1=some .free
 len:ix.length=N'.length
 slot:∀(i j:Nat) (y:Str),ix[i]? = some (some j)->N'[i]? = some y->N[j]? = some y/\sc.names.lookup y=some .free
theorem eW.of {on:List (Str×NameKind)}{N:List Str}{sc:Scope}{N':List Str}{ix:List (Option Nat)}(h:g9 on N sc N' ix=true):eW on N sc N' ix:=by
 unfold g9 at h
 rw[rZ,rZ,rZ] at h
 obtain ⟨⟨⟨h1,h2⟩,h3⟩,h4⟩:=h
 rw[uq] at h2 h4
 refine ⟨of_decide_eq_true h1,λy hy e =>?_,λy hy e =>?_,λy hy e =>?_,of_decide_eq_true h3,λi j y e1 e2 =>?_⟩
 ·have q:=h2 y hy
  rw[e] at q
  exact of_decide_eq_true q
 ·have q:=h2 y hy
  rw[e] at q
  cases q
 ·have q:=h2 y hy
  rw[e] at q
  exact ((Bool.or_eq_true _ _).mp q).imp of_decide_eq_true of_decide_eq_true
 ·have q:=h4 (some j,y) (qV (i:=i) (by rw[vq];exact ⟨e1,e2⟩))
  dsimp only at q
  rw[rZ] at q
  exact ⟨of_decide_eq_true q.1,of_decide_eq_true q.2⟩
theorem eA {α β:Type}(f:α -> β -> β)(b:α -> β -> Sem (ForInStep β)):∀(l:List α) (c:β),(∀x∈l,∀d,b x d=pure (.yield (f x d)))->forIn l c b=pure (l.foldl (λd x=>f x d) c)
 | [],c,_=>rfl
 | x :: l,c,h=>by
  rw[List.forIn_cons,h x rk,pure_bind]
  exact eA f b l (f x c) λy hy=>h y (qZ _ hy)
def aG (env:Env)(l:List (Str×NameKind))(c:List (Str×Addr)):List (Str×Addr) :=
 l.foldl (λd y=>if y.2 = .free then (y.1,(env.cells.lookup y.1).getD 0) :: d else d) c
theorem iG {sc:Scope}{env:Env}(h:∀y∈sc.names,y.2 = .free->∃c,env.cells.lookup y.1=some c):closureFor sc env=pure (aG env sc.names []):=by
 simp only[closureFor]
 unfold aG
 rw[eA (λy d=>if y.2 = .free then (y.1,(env.cells.lookup y.1).getD 0) :: d else d)]
 ·rfl
 ·rintro ⟨n,k⟩ hy d
  by_cases hk:k = .free
  ·subst hk
   obtain ⟨c,e⟩:=h _ hy rfl
   have e':env.cells.lookup n=some c:=e
   simp only[beq_self_eq_true,if_true,cellOf,e',Option.getD_some]
   rfl
  ·have hb:(k == NameKind.free)=false:=by simpa using hk
   simp only[hb,sJ,if_false,hk]
theorem bO {env:Env}{y:Str}{c:Addr}:∀(l:List (Str×NameKind)) (d:List (Str×Addr)),(∀z∈l,z.2 = .free->∃c,env.cells.lookup z.1=some c)->(aG env l d).lookup y=some c →
  d.lookup y=some c\/env.cells.lookup y=some c
 | [],d,_,h =>.inl h
 | (n,k) :: l,d,hf,h=>by
  have h':(aG env l (if k = .free then (n,(env.cells.lookup n).getD 0) :: d else d)).lookup y=some c:=h
  have ih:=bO l _ (λz hz=>hf z (qZ _ hz)) h'
  by_cases hk:k = .free
  ·subst hk
   rw[if_pos rfl] at ih
   rcases ih with q | q
   ·rw[ur] at q
    cases hx:(y == n) with
    | true =>
     rw[hx] at q
     obtain ⟨c',e⟩:=hf (n,.free) rk rfl
     have e':env.cells.lookup n=some c':=e
     have q':some ((env.cells.lookup n).getD 0)=some c:=q
     rw[e'] at q'
     have en:y=n:=eq_of_beq hx
     rw[en,e']
     exact .inr q'
    | false =>
     rw[hx] at q
     exact .inl q
   ·exact .inr q
  ·rw[if_neg hk] at ih
   exact ih
theorem ck {env:Env}{y:Str}:∀(l:List (Str×NameKind)) (d:List (Str×Addr)),((y,NameKind.free)∈l\/∃c,d.lookup y=some c)->∃c,(aG env l d).lookup y=some c
 | [],d,h=>by
  rcases h with h | h
  ·cases h
  ·exact h
 | (n,k) :: l,d,h=>by
  show ∃c,(aG env l (if k = .free then (n,(env.cells.lookup n).getD 0) :: d else d)).lookup y=some c
  refine ck l _ ?_
  have old:(∃c,d.lookup y=some c)->∃c,(if k = .free then (n,(env.cells.lookup n).getD 0) :: d else d).lookup y=some c:=λ⟨c,e⟩=>by
   by_cases hk:k = .free
   ·rw[if_pos hk,ur]
    cases hx:(y == n) with
    | true=>exact ⟨_,rfl⟩
    | false=>exact ⟨c,e⟩
   ·rw[if_neg hk];exact ⟨c,e⟩
  rcases h with h | h
  ·rcases rU.mp h with q | q
   ·cases q
    rw[if_pos rfl,ur,beq_self_eq_true]
    exact .inr ⟨_,rfl⟩
   ·exact .inl q
  ·exact .inr (old h)
theorem eX {c:Str->NameKind->Bool}{y:Str}:∀l:List (Str×NameKind),(l.map λz=>if c z.1 z.2=true then (z.1,NameKind.cell) else (z.1,z.2)).lookup y=(l.lookup y).map λk=>if c y k=true then NameKind.cell else k
 | []=>rfl
 | (n,k) :: l=>by
  have ih:=eX (c:=c) (y:=y) l
  rw[rz]
  have e:(if c n k=true then (n,NameKind.cell) else (n,k))=(n,if c n k=true then NameKind.cell else k):=by split <;> rfl
  show List.lookup y ((if c n k=true then (n,NameKind.cell) else (n,k)) :: _)=_
  rw[e,ur,ur]
  cases hx:(y == n) with
  | true =>
   have en:y=n:=eq_of_beq hx
   subst en
   rfl
  | false=>exact ih
def blk (X:Cx)(sc:Scope)(cl:List (Str×Addr))(C:Addr)(N':List Str)(s:qy)(H:Hp)(fp:List Addr):Cx :=
 { X with N:=N',s₀:=s,H₀:=H,env:=compEnvC sc cl C X.env,outer:=X.stack,ex:=fp,fn:=λ_=>false,pn:=[],xe:=λ_ _=>False }
def PF (X:Cx)(ifs:List Expr)(t:TT):Prop :=
  ∀(pins:List (Addr×Obj)) (s:qy) (σ:St) (H:Hp) (Q:Bool->Hp->Prop),Inv X pins σ H s->t σ H Q →
    rH (rD X.prog X.w) X.A (forIn ifs true λc r=>if r=true then do let ok ← isTrue c X.env (eval c X.env);pure (ForInStep.yield ok) else pure (ForInStep.yield r)) (TP X pins σ Q) X.xe s
theorem dX {X:Cx}:PF X [] (λ_ H Q=>Q true H):=λ_ _ _ H _ I h=>wpAny_tests_nil ⟨H,I,h⟩
theorem iH {X:Cx}{c:Expr}{t:TT}(h:PT X c t):PF X [c] t:=λpins s σ H Q I q=>wpAny_tests_one (h pins s σ H Q I q)
def inner (ix:List (Option Nat))(σ:St):St:=ix.map λo=>match o with | none=>none | some j=>(σ[j]?).join
def fM (J:It)(g:TG)(tc:TT)(te:TE)(τ:St)(Q:VK)(H1:Hp):Prop:=∃W:Nat->Nat->St->List V->Hp->Prop,(∃m,W 0 m τ [] H1)/\∀i m τ ys H,W i m τ ys H →
 (J.stop i H/\ys.length<=qD/\∀l,H l=none->Q (.ref l) (upd H l (.lst ys))) ∨
 (J.go i H/\∀x H',J.yld i H x H'->g x τ H' λτ2 H2=>tc τ2 H2 λb H3=>if b=true then te τ2 H3 λy H4=>ys.length<qD/\∃m',m'<m/\W (i+1) m' τ2 (ys++[y]) H4 else ∃m',m'<m/\W (i+1) m' τ2 ys H3)
def kI (ix:List (Option Nat))(wi:TI)(g:TG)(tc:TT)(te:TE):TE:=λσ H Q=>wi σ H λJ H1=>fM J g tc te (inner ix σ) Q H1
section
variable  {X:Cx}{sc:Scope}{N':List Str}{ix:List (Option Nat)}{pins:List (Addr×Obj)}{σ:St}{H:Hp}{s:qy}
theorem oD (I:Inv X pins σ H s)(K:eW X.env.scope.names X.N sc N' ix){C:Addr}{fp:List Addr}(hC:s.heap.objs.size<=C)(f:∀b∈fp,gr X pins H b)(fl:∀b∈fp,b<s.heap.objs.size) :
  (blk X sc (aG X.env sc.names []) C N' s H fp).Ok:=by
 have hcl:∀y∈sc.names,y.2 = .free->∃c,X.env.cells.lookup y.1=some c:=λy hy e=>I.ok.has y.1 (K.frees y hy e)
 have up:∀y c,(aG X.env sc.names []).lookup y=some c->X.env.cells.lookup y=some c:=λy c e=>by
  rcases bO sc.names [] hcl e with q | q
  ·cases q
  ·exact q
 have nfs:∀b∈fp,b∉frs X.stack:=λb hb z=>by
  rcases rU.mp (I.gi b z) with q | q
  ·exact (f b hb).2.1 q
  ·exact (f b hb).2.2.1 q
 refine ⟨I.ok.mod,K.kind,I.ok.glob,I.ok.blt,hC,λy z c h1 h2=>I.ok.inj y z c (up _ _ h1) (up _ _ h2),λy hy =>?_,(λy c h=>nomatch h),I.ok.hd,I.ok.frames,.inl rfl,λb hb =>?_,λb o e=>I.bs b o e,rn I.ok.bsz I.sz,λb o e hb =>?_,nfs,I.stack,I.gj⟩
 ·have hy':(relabel sc X.env).names.lookup y=some .cell\/(relabel sc X.env).names.lookup y=some .free:=hy
  have em:=eX (c:=λn k=>k == .free && X.env.scope.kind == .function && X.env.kindOf n == some .cell) (y:=y) sc.names
  have em':(relabel sc X.env).names.lookup y=_:=em
  rw[em'] at hy'
  cases hq:sc.names.lookup y with
  | none=>rw[hq] at hy';rcases hy' with q | q <;> cases q
  | some k =>
   have km:=eh hq
   have hk:k = .free:=by
    rw[hq] at hy'
    simp only[wb,Option.some.injEq] at hy'
    by_cases hc:(k == .free && X.env.scope.kind == .function && X.env.kindOf y == some .cell)=true
    ·rw[rZ,rZ] at hc
     exact by simpa using hc.1.1
    ·rw[if_neg hc] at hy'
     rcases hy' with q | q
     ·exact absurd q (K.nocell _ km)
     ·exact q
   subst hk
   exact ck sc.names [] (.inl km)
 ·exact ⟨rM (qM (fl b hb) hC),λy c e=>(f b hb).2.2.2.2.1 y c (up y c e)⟩
 ·rcases (f b hb).2.2.2.1 with q | q
  ·exact I.ok.noex b o e q
  ·exact absurd (qM (qP e) (rn I.ok.bsz q)) (sE _)
theorem mz (I:Inv X pins σ H s)(K:eW X.env.scope.names X.N sc N' ix){C:Addr}{fp:List Addr}(hC:s.heap.objs.size<=C)(f:∀b∈fp,gr X pins H b)(fl:∀b∈fp,b<s.heap.objs.size)
  {h1:Heap} {t:Nat} {m:Str->Option qw} (k:∀b o,s.heap.get? b=some o->h1.get? b=some o) (ns:h1.Ns C m) :
  Inv (blk X sc (aG X.env sc.names []) C N' s H fp) [] (inner ix σ) H { s with heap:=h1,toks:=t }:=by
 have hcl:∀y∈sc.names,y.2 = .free->∃c,X.env.cells.lookup y.1=some c:=λy hy e=>I.ok.has y.1 (K.frees y hy e)
 have up:∀y c,(aG X.env sc.names []).lookup y=some c->X.env.cells.lookup y=some c:=λy c e=>by
  rcases bO sc.names [] hcl e with q | q
  ·cases q
  ·exact q
 refine ⟨oD I K hC f fl,rfl,I.bare,Un.kept k,⟨m,ns,λi y v e1 e2 e3 =>?_⟩,λy c e =>?_,I.hok.fresh hC,λy c e=>I.freeC y c (up y c e),(λp hp=>nomatch hp),I.hok.kept k,?_⟩
 ·have e2':(ix.map λo=>match o with | none=>none | some j=>(σ[j]?).join)[i]? = some (some v):=e2
  rw[rK] at e2'
  cases hi:ix[i]? with
  | none=>rw[hi] at e2';cases e2'
  | some o =>
   cases o with
   | none=>rw[hi] at e2';cases e2'
   | some j =>
    rw[hi] at e2'
    have e4:(σ[j]?).join=some v:=rE e2'
    have e5:σ[j]? = some (some v):=by
     cases hj:σ[j]? with
     | none=>rw[hj] at e4;cases e4
     | some z=>rw[hj] at e4;rw[show z=some v from e4]
    obtain ⟨n1,n2⟩:=K.slot i j y hi e1
    have mem:=eh n2
    have kc:X.env.kindOf y=some .cell\/X.env.kindOf y=some .free:=K.frees _ mem rfl
    obtain ⟨m',_,hl⟩:=I.loc
    obtain ⟨u,r,l⟩:=hl j y v n1 e5 (.inr kc)
    refine ⟨u,r,?_⟩
    rcases l with ⟨q,_⟩ | ⟨_,c,q,z⟩
    ·rcases kc with kc | kc <;> (rw[kc] at q;cases q)
    ·obtain ⟨c',hc'⟩:=ck (env:=X.env) (y:=y) sc.names [] (.inl mem)
     have:=up y c' hc'
     rw[q] at this
     cases this
     refine .inr ⟨?_,c,hc',z.keeps k⟩
     have em:=eX (c:=λn k=>k == .free && X.env.scope.kind == .function && X.env.kindOf n == some .cell) (y:=y) sc.names
     have em':(relabel sc X.env).names.lookup y=_:=em
     rcases kc with kc | kc
     ·left
      show (relabel sc X.env).names.lookup y=some .cell
      rw[em',n2]
      simp only[wb,kc,I.ok.kind]
      rfl
     ·right
      show (relabel sc X.env).names.lookup y=some .free
      rw[em',n2]
      simp only[wb,kc,I.ok.kind]
      rfl
 ·obtain ⟨v,z⟩:=I.cell y c (up y c e)
  exact ⟨v,z.keeps k⟩
 ·show (ix.map _).length=N'.length
  rw[qu]
  exact K.len
end
open PySem PySem.Spec PyProof.Rows
theorem iI {prog:qX}{w:rO}{A:r6}{R:Result->qy->Prop}{s:qy}{elt target iter:Expr}{ifs:List Expr}{sc:Scope}{pos:Pos}{it acc:qw}{env:Env}(J:Nat->qy->Prop)
    (turn:∀n s,J n s->rH (rD prog w) A (pyNext it) (λr s1=>match r with
      | none=>R (.ok .next) s1
      | some v=>rH (rD prog w) A (letOwnedTupleGo target it v) (λ_ s2=>rH (rD prog w) A (assign target env v) (λ_ s3 =>
          rH (rD prog w) A (forIn ifs true λc r=>if r=true then do let ok ← isTrue c env (eval c env);pure (ForInStep.yield ok) else pure (ForInStep.yield r)) (λok s4 =>
            if ok=true then rH (rD prog w) A (eval elt env) (λx s5=>rH (rD prog w) A (call (.builtin "list.append") [acc,x]) (λ_ s6=>∃m,m<n/\J m s6) (λ_ _=>False) s5) (λ_ _=>False) s4
            else ∃m,m<n/\J m s4) (λ_ _=>False) s3) (λ_ _=>False) s2) (λ_ _=>False) s1) (λ_ _=>False) s)
    (n:Nat) (h:J n s):xq (rD prog w) A (.compLoop (.ListComp elt [⟨target,iter,ifs,0⟩] sc pos) 0 it acc env) R s:=by
  refine codeAny_loop rfl J (λk t q =>?_) n h
  show rH _ A (Sem.onRaise (compTurn (.ListComp elt [⟨target,iter,ifs,0⟩] sc pos) 0 it acc env) (λx=>do noteFrame x env;theTreesLotGoes x)) _ _ t
  refine wpAny_noted ?_
  rw[compTurn_list]
  have no:∀{E:qw->qy->Prop} (x:qw) (t:qy),False->E x t:=λ_ _ z=>z.elim
  refine qA (w5 (qA (sT (turn k t q) (λr s1 h1 =>?_) no)))
  cases r with
  | none=>exact qR h1
  | some v =>
    refine qA (sT h1 (λ_ s2 h2=>qA (sT h2 (λ_ s3 h3=>qA (sT h3 (λok s4 h4 =>?_) no)) no)) no)
    cases ok with
    | false=>exact qR ⟨rfl,h4⟩
    | true=>exact qA (qA (sT h4 (λx s5 h5=>qA (sT h5 (λ_ s6 h6=>qR (qR ⟨rfl,h6⟩)) no)) no))
section
variable  {X:Cx}
def mB (X:Cx)(pins:List (Addr×Obj))(σ:St)(Q:VK)(use:Option (qw->Sem Unit))(Q2:qw->qy->Prop):Prop :=
 ∀(s4:qy) (H3:Hp) (acc C:Addr) (ys:List V) (oC:Obj),Inv X (pins++[(C,oC)]) σ (upd H3 acc (.lst ys)) s4->(∃m,s4.heap.Ns C m)->X.s₀.heap.objs.size<=C->(∀x c,X.env.cells.lookup x=some c->c≠C)->(∀p∈X.pn++pins,p.1≠C)->Q (.ref acc) (upd H3 acc (.lst ys)) →
  compPost (rD X.prog X.w) X.A X.xe use Q2 (.ref acc) C (.ok .next) s4
theorem fN {elt target iter:Expr}{ifs:List Expr}{sc:Scope}{pos ps:Pos}{wi:TI}{g:TG}{tc:TT}{te:TE}{N':List Str}{ix:List (Option Nat)}{use:Option (qw->Sem Unit)}{Q2:qw->qy->Prop}
  {pins:List (Addr×Obj)} {s:qy} {σ:St} {H:Hp} {Q:VK}
  (hcalm:X.calm=true) (hi:PI X target iter wi) (hk:g9 X.env.scope.names X.N sc N' ix=true)
  (hg:∀cl C s H fp,PG (blk X sc cl C N' s H fp) target g) (hc:∀cl C s H fp,PF (blk X sc cl C N' s H fp) ifs tc) (he:∀cl C s H fp,PE (blk X sc cl C N' s H fp) elt te)
  (hs:∀x,foldedSetIterable iter X.env x=pure x) (fin:mB X pins σ Q use Q2) (I:Inv X pins σ H s) (h:kI ix wi g tc te σ H Q) :
  rH (rD X.prog X.w) X.A (comprehension (.ListComp elt [⟨target,iter,ifs,0⟩] sc pos) sc X.env ps (newList []) false (eval iter X.env) use) Q2 X.xe s:=by
 have K:=eW.of hk
 have hcl:∀y∈sc.names,y.2 = .free->∃c,X.env.cells.lookup y.1=some c:=λy hy e=>I.ok.has y.1 (K.frees y hy e)
 refine wpAny_comprehension_free rfl hs (iG hcl) K.kind K.locs (thn (hi pins s σ H _ I h) λv s1 h1=>thn h1 λitv s2 h2 =>?_)
 obtain ⟨it,fp,tn,J,H2,e,I2,T,st2,f2,W,⟨m0,w0⟩,turn⟩:=h2
 subst e
 refine sU (wpAny_newFunctionEnv K.nocell (by intro y hy;simp at hy) (λh1 ns1 sb1 =>?_) K.kind)
 dsimp only at ns1 sb1 ⊢
 generalize hP:s2.heap.push { cls :=.type "list",dict:=none,data :=.seq ([]:List qw).toArray }=G at ns1 sb1 ⊢
 have sG:G.objs.size=s2.heap.objs.size+1:=by rw[<- hP,Heap.size_push]
 have fl:∀b∈fp,b<s2.heap.objs.size:=λb hb=>by
  obtain ⟨o,e,_⟩:=T.obj _ _ st2 b hb
  exact qP e
 have hC:s2.heap.objs.size<=G.objs.size:=by rw[sG];exact Nat.le_succ _
 have aC:s2.heap.objs.size≠G.objs.size:=by rw[sG];exact rM (Nat.lt_succ_self _)
 have old:∀b o,s2.heap.get? b=some o->h1.get? b=some o:=λb o e=>by
  have lt:=qP e
  have ne:b≠G.objs.size:=rM (qM lt hC)
  rw[sb1.2 b ne]
  exact qB _ (hP ▸ qB _ e)
 have accO:h1.PlainList s2.heap.objs.size #[]:=⟨_,by
  rw[sb1.2 _ aC]
  exact qB _ (hP ▸ q8 _ rfl)⟩
 have IB:=mz (t:=s2.toks+([]:List (Str×qw)).length) I2 K hC f2 fl old ns1
 have up:∀y c,(aG X.env sc.names []).lookup y=some c->X.env.cells.lookup y=some c:=λy c e=>by
  rcases bO sc.names [] hcl e with q | q
  ·cases q
  ·exact q
 have accNotCell:∀y c,(aG X.env sc.names []).lookup y=some c->c≠s2.heap.objs.size:=λy c e z=>by
  obtain ⟨v,q⟩:=I2.cell y c (up y c e)
  exact absurd q.lt (by rw[z];exact sE _)
 have accFs:s2.heap.objs.size∉frs X.stack:=λz=>by
  rcases rU.mp (I2.gi _ z) with q | q
  ·exact absurd I2.lt (by rw[<- q];exact sE _)
  ·exact I2.nU (qz _) q
 have accFp:s2.heap.objs.size∉fp:=λz=>absurd (fl _ z) (sE _)
 have stat:∀{H':Hp} {ob:Obj},(∀b∈fp,H' b=none)->∀b∈fp,gr (blk X sc (aG X.env sc.names []) G.objs.size N' s2 H2 fp) [(s2.heap.objs.size,ob)] H' b:=λ{H' ob} hn b hb=>by
  refine ⟨hn b hb,rM (qM (fl b hb) hC),IB.ok.exfs b hb,.inl hb,λy c e=>(f2 b hb).2.2.2.2.1 y c (up y c e),λp hp z =>?_⟩
  have ep:p=(s2.heap.objs.size,ob):=by simpa [blk] using hp
  subst ep
  exact accFp (by rw[show s2.heap.objs.size=b from z];exact hb)
 have accPin:∀{pl:List (Addr×Obj)} {σ':St} {H':Hp} {s':qy} {its:Array qw} {n:Nat},Inv (blk X sc (aG X.env sc.names []) G.objs.size N' s2 H2 fp) pl σ' H' s'->s'.heap.get? s2.heap.objs.size=some { cls :=.type "list",data :=.seq its n } →
   H' s2.heap.objs.size=none->Inv (blk X sc (aG X.env sc.names []) G.objs.size N' s2 H2 fp) [(s2.heap.objs.size,{ cls :=.type "list",data :=.seq its n })] σ' H' s':=λ{pl σ' H' s' its n} J' e nn=>J'.dr λp hp=>by
  have ep:p=(s2.heap.objs.size,({ cls :=.type "list",data :=.seq its n }:Obj)):=by simpa [blk] using hp
  subst ep
  exact ⟨e,nn,aC,accFs,λv z=>nomatch z⟩
 have loop:xq (rD X.prog X.w) X.A (.compLoop (.ListComp elt [⟨target,iter,ifs,0⟩] sc pos) 0 (.ref it) (.ref s2.heap.objs.size) (compEnvC sc (aG X.env sc.names []) G.objs.size X.env))
   (compPost (rD X.prog X.w) X.A X.xe use Q2 (.ref s2.heap.objs.size) G.objs.size) { s2 with heap:=h1,toks:=s2.toks+([]:List (Str×qw)).length }:=by
  refine iI (λn s'=>∃i ys its nn σ' H',Inv (blk X sc (aG X.env sc.names []) G.objs.size N' s2 H2 fp) [(s2.heap.objs.size,{ cls :=.type "list",data :=.seq its nn })] σ' H' s'/\Vals ys its.toList/\tn i s'.heap/\(∀b∈fp,H' b=none)/\W i n σ' ys H')
   (λn s3 h3 =>?_) m0 ?_
  ·obtain ⟨i,ys,its,nn,σ3,H3,I3,r3,st3,fr3,w3⟩:=h3
   obtain ⟨e3,a3,_,_,_⟩:=I3.pin (s2.heap.objs.size,{ cls :=.type "list",data :=.seq its nn }) (by simp[blk])
   rcases turn i n σ3 ys H3 w3 with ⟨stop,zl,q3⟩ | ⟨go,step⟩
   ·refine thn (T.done (blk X sc (aG X.env sc.names []) G.objs.size N' s2 H2 fp) rfl rfl rfl hcalm i _ s3 σ3 H3 _ I3 (stat fr3) st3 stop) λr s4 ⟨hr,I4⟩ =>?_
    subst hr
    obtain ⟨e4,a4,_,_,_⟩:=I4.pin (s2.heap.objs.size,{ cls :=.type "list",data :=.seq its nn }) (by simp[blk])
    obtain ⟨m4,n4,_⟩:=I4.loc
    obtain ⟨oC,es4,ep4,c4,d4,r4⟩:=id n4
    have ltA:∀b o,s2.heap.get? b=some o->b≠s2.heap.objs.size:=λb o e=>rM (qP e)
    have B:=I4.base
    have hok:HOk X.prog X.w (upd H3 s2.heap.objs.size (.lst ys)) s4.heap:=λb o e=>by
     by_cases hb:b=s2.heap.objs.size
     ·subst hb
      rw[ag] at e
      cases e
      exact ⟨zl,its.toList,nn,r3,e4⟩
     ·rw[az hb] at e
      refine (I4.hok b o e).gf (λc u hc q=>q) (λc q =>?_) (λc xs q =>?_)
      ·rw[az (ax q a4)];exact q
      ·rw[az (ax q a4)];exact q
    have I5:Inv X pins σ (upd H3 s2.heap.objs.size (.lst ys)) s4:=by
     refine I2.nu (ch:=fp) I4.os ⟨λb o e n hb hx=>B.keep b o e n hb hx,λb o e n hb hx=>B.slot b o e n hb hx,λb o e n hx =>?_,λb o e hx=>B.there b o e hx,λb xs e =>?_,λb o u e =>?_,λb ps e =>?_⟩ hok I4.bare (λb hb =>?_)
     ·rw[az (ltA b o e)];exact B.free b o e n hx
     ·have q:=B.tups b xs e
      rw[az (ax q a4)];exact q
     ·have q:=B.frzs b o u e
      rw[az (ax q a4)];exact q
     ·obtain ⟨more,q⟩:=B.tbls b ps e
      exact ⟨more,by rw[az (ax q a4)];exact q⟩
     ·obtain ⟨g0,g1,g2,g3,g4,g5⟩:=f2 b hb
      exact ⟨g3,g1,g4,g5⟩
    have cL:G.objs.size≠X.env.locals:=Nat.ne_of_gt (qM I2.lt hC)
    have I6:Inv X (pins++[(G.objs.size,oC)]) σ (upd H3 s2.heap.objs.size (.lst ys)) s4:=I5.dr λp hp=>by
     rcases qH.mp hp with q | q
     ·exact I5.pin p (rq _ q)
     ·have ep:p=(G.objs.size,oC):=by simpa using q
      subst ep
      exact ⟨c4,by rw[az (uv aC)];exact I4.free,cL,I2.nU hC,λv z=>by rw[d4] at z;cases z⟩
    refine fin s4 H3 s2.heap.objs.size G.objs.size ys oC I6 ⟨m4,n4⟩ (rn I2.sz hC) (λy c e z =>?_) (λp hp z =>?_) (q3 _ a4)
    ·obtain ⟨v,q⟩:=I2.cell y c e
     exact absurd (qM q.lt hC) (by rw[z];exact sE _)
    ·exact absurd (qM (qP (I2.pin p hp).1) hC) (by rw[z];exact sE _)
   ·refine thn (T.item (blk X sc (aG X.env sc.names []) G.objs.size N' s2 H2 fp) rfl rfl rfl hcalm i _ s3 σ3 H3 _ I3 (stat fr3) st3 go) λr s4 ⟨u,hr,h4⟩ =>?_
    subst hr
    refine thn h4 λ_ s5 ⟨x,H5,I5,r5,y5,st5,fr5⟩ =>?_
    have I5':=I5.pinned (stat fr5) (T.obj _ _ st5)
    refine thn (hg _ _ _ _ _ _ s5 σ3 H5 x u _ I5' r5 (step x H5 y5)) λ_ s6 ⟨σ6,H6,I6,q6⟩ =>?_
    refine thn (hc _ _ _ _ _ _ s6 σ6 H6 _ I6 q6) λok s7 ⟨H7,I7,q7⟩ =>?_
    have back:∀{σ7:St} {H7:Hp} {s7:qy},Inv (blk X sc (aG X.env sc.names []) G.objs.size N' s2 H2 fp) ([(s2.heap.objs.size,{ cls :=.type "list",data :=.seq its nn })]++df fp s5.heap) σ7 H7 s7->tn (i+1) s7.heap/\∀b∈fp,H7 b=none:=λJ7 =>
     ⟨T.keep _ _ _ st5 λb hb o e=>(J7.pin (b,o) (rq _ (rq _ (bR hb e)))).1,λb hb=>by
      obtain ⟨o,e,d⟩:=T.obj _ _ st5 b hb
      exact (J7.pin (b,o) (rq _ (rq _ (bR hb e)))).2.1⟩
    cases ok with
    | false =>
     rw[if_neg (by decide)] at q7
     obtain ⟨m',lm,w7⟩:=q7
     show ∃m,m<n/\_
     exact ⟨m',lm,i+1,ys,its,nn,σ6,H7,I7.bZ,r3,(back I7).1,(back I7).2,w7⟩
    | true =>
     rw[if_pos rfl] at q7
     refine thn (he _ _ _ _ _ _ s7 σ6 H7 _ I7 q7) λz s8 ⟨y,H8,I8,r8,lz,m',lm,w8⟩ =>?_
     obtain ⟨e8,a8,_,_,_⟩:=I8.pin (s2.heap.objs.size,{ cls :=.type "list",data :=.seq its nn }) (by simp[blk])
     have sz:its.size<=qD:=by
      have l:ys.length=its.size:=r3.length.trans qF
      rw[<- l]
      exact vi lz
     refine wpAny_list_append_plain ⟨nn,e8⟩ (λh' pl' sb' =>?_) sz
     obtain ⟨n9,e9⟩:=pl'
     have I8p:Inv (blk X sc (aG X.env sc.names []) G.objs.size N' s2 H2 fp) (df fp s5.heap) σ6 H8 s8:=I8.dr λp hp=>I8.pin p (rq _ (rq _ hp))
     have I9:=I8p.turned (it:=s2.heap.objs.size) (h':=h') (t':=s8.toks) (λb o ne e=>by rw[sb'.2 b ne];exact e) a8 aC (.inr (qz _)) (λy c e=>accNotCell y c e) (λp hp z=>by
      have hp':p∈df fp s5.heap:=by simpa [blk] using hp
      exact accFp (by rw[<- z];exact (fF hp').1))
     have b9:tn (i+1) h'/\∀b∈fp,H8 b=none :=
      ⟨T.keep _ _ _ st5 λb hb o e=>(I9.pin (b,o) (rq _ (bR hb e))).1,(back I8).2⟩
     exact ⟨m',lm,i+1,ys++[y],its.push z,n9,σ6,H8,accPin I9 e9 a8,by rw[tw];exact r3.append (.cons r8 .nil),b9.1,b9.2,w8⟩
  ·obtain ⟨n0,e0⟩:=accO
   exact ⟨0,[], #[],n0,_,H2,accPin IB e0 (I2.hok.fresh (qz _)),.nil,T.keep _ _ _ st2 λb hb o e=>old b o e,λb hb=>(f2 b hb).1,w0⟩
 exact codeAny_compStart_list loop (T.self _ 0 _ _ _ (T.keep _ _ _ st2 λb hb o e=>old b o e) loop)
theorem cn {elt target iter:Expr}{ifs:List Expr}{sc:Scope}{pos:Pos}{wi:TI}{g:TG}{tc:TT}{te:TE}(N':List Str)(ix:List (Option Nat))
  (hcalm:X.calm=true) (hi:PI X target iter wi) (hk:g9 X.env.scope.names X.N sc N' ix=true)
  (hg:∀cl C s H fp,PG (blk X sc cl C N' s H fp) target g) (hc:∀cl C s H fp,PF (blk X sc cl C N' s H fp) ifs tc) (he:∀cl C s H fp,PE (blk X sc cl C N' s H fp) elt te)
  (hs:∀x,foldedSetIterable iter X.env x=pure x:=by intro _;rfl):PE X (.ListComp elt [⟨target,iter,ifs,0⟩] sc pos) (kI ix wi g tc te):=by
 intro pins s σ H Q I h
 rw[eval_ListComp]
 refine fN hcalm hi hk hg hc he hs (λs4 H3 acc C ys oC I4 ns hC hc hp q =>?_) I h
 obtain ⟨m,ns⟩:=ns
 refine ⟨m,ns,λh' sb=>⟨.ref acc,_,?_,rfl,q⟩⟩
 obtain ⟨_,n0,n1,n2,_⟩:=I4.pin (C,oC) (by simp)
 exact (I4.bZ).turned (it:=C) (h':=h') (t':=s4.toks) (λb o ne e=>by rw[sb.2 b ne];exact e) n0 n1 (.inr hC) hc hp
theorem eY {elt target iter:Expr}{ifs:List Expr}{sc:Scope}{pos pos' spos:Pos}{wi:TI}{g:TG}{tc:TT}{te:TE}{i:Nat}{x:Str}(N':List Str)(ix:List (Option Nat))
    (hcalm:X.calm=true) (hN:X.N.Nodup) (hx:X.N[i]? = some x) (hl:X.env.scope.names.lookup x=some .local)
    (hi:PI X target iter wi) (hk:g9 X.env.scope.names X.N sc N' ix=true)
    (hg:∀cl C s H fp,PG (blk X sc cl C N' s H fp) target g) (hc:∀cl C s H fp,PF (blk X sc cl C N' s H fp) ifs tc) (he:∀cl C s H fp,PE (blk X sc cl C N' s H fp) elt te)
    (hsw:swapsWith (.ListComp elt [⟨target,iter,ifs,0⟩] sc pos) (some (.Name x pos')) spos.line X.env=pure true:=by rfl)
    (hs:∀x,foldedSetIterable iter X.env x=pure x:=by intro _;rfl):PS X (.Assign [.Name x pos'] (.ListComp elt [⟨target,iter,ifs,0⟩] sc pos) spos) (nZ (kI ix wi g tc te) (ef i)):=by
  intro pins s σ H D I h
  rw[exec_Assign_Name_used _ _ _ _ hsw]
  refine qA (w5 (qA ?_))
  show rH _ X.A (do let _ ← comprehension (.ListComp elt [⟨target,iter,ifs,0⟩] sc pos) sc X.env _ (newList []) false (eval iter X.env) (some (assign (.Name x pos') X.env))) _ _ s
  refine qA (sT (fN (Q:=λv H1=>D.nx (σ.set i (some v)) H1) (Q2:=λ_ s'=>SP X pins D .next s') hcalm hi hk hg hc he hs (λs4 H3 acc C ys oC I4 ns hC hc hp q =>?_) I h) (λ_ s' q=>qR (qR q)) λ_ _ e=>e)
  obtain ⟨m,ns⟩:=ns
  obtain ⟨e0,n0,n1,n2,_⟩:=I4.pin (C,oC) (by simp)
  show rH _ X.A (assign (.Name x pos') X.env (.ref acc)) _ _ s4
  refine thn ((aW (i:=i) hN hx (.inl hl) (.inr hl)) (pins++[(C,oC)]) s4 σ _ (.ref acc) (.ref acc) _ I4 rfl q) λ_ s5 ⟨σ5,H5,I5,q5⟩ =>?_
  obtain ⟨e5,k0,k1,k2,_⟩:=I5.pin (C,oC) (by simp)
  obtain ⟨o',es',ep',c',r'⟩:=ns
  have e':=e0.symm.trans c'
  cases e'
  refine ⟨m,⟨_,es',ep',e5,r'⟩,λh' sb=>⟨σ5,H5,?_,q5⟩⟩
  exact (I5.bZ).turned (it:=C) (h':=h') (t':=s5.toks) (λb o ne e=>by rw[sb.2 b ne];exact e) k0 k1 (.inr hC) hc hp
end
open PySem PySem.Spec PyProof.Rows
section
variable  {X:Cx}
theorem gC {j:Int}(h0:0<j)(h:j<2 ^ 200):j.natAbs.log2<9000:=by
 have h1:j.natAbs<2 ^ 200:=by lia
 have h2:j.natAbs.log2<200:=(Nat.log2_lt (by lia)).mpr h1
 lia
def pY (_ j:Int):Prop:=0<j/\j<2 ^ 200
theorem gD:bM X (.builtin "divmod") (λxs H Q=>∃i j,xs=[.int i,.int j]/\pY i j/\∀p,H p=none->Q (.ref p) (upd H p (.tup [.int (i/j),.int (i%j)]))):=by
 intro pins s σ H xs us Q I r h
 obtain ⟨i,j,rfl,⟨h1,h2⟩,q⟩:=h
 obtain ⟨u,w',rfl,⟨t,rfl⟩,⟨t',rfl⟩⟩:=vals2 r
 refine divmod_int (by lia) ?_ (.inl (PyProof.noPylong_of_log2 (gC h1 h2)))
 rw[vd i (by lia),ve i (by lia)]
 refine ⟨.ref s.heap.objs.size,_,?_,rfl,q _ I.fresh⟩
 refine I.laid (λb o e=>qB _ e) (qz _) ⟨by simp only[rG,xD];rw[xK];decide,[.int (i/j) s.toks,.int (i%j) (s.toks+1)],.cons ⟨_,rfl⟩ (.cons ⟨_,rfl⟩ .nil),?_⟩
 exact ⟨_,q8 s.heap rfl,⟨rfl,rfl⟩,0,rfl⟩
def pZ (K:qv):R2:=λx y H Q=>∃l b xs zs,x = .ref l/\y = .ref b/\SqL K H l xs/\SqL K H b zs/\xs.length+zs.length<=qD/\∀p,H p=none->Q (.ref p) (upd H p (.lst (xs++zs)))
theorem i9:OpR X (binaryOp .Add) (pZ X.K):=by
 intro pins s σ H x y v u Q I rx ry h
 obtain ⟨l,b,xs,zs,rfl,rfl,hH,hB,hz,q⟩:=h
 cases rx
 cases ry
 obtain ⟨its,r,e,z⟩:=I.list hH
 obtain ⟨its2,r2,e2,z2⟩:=I.list hB
 obtain ⟨⟨c1,d1,da1,sl1⟩,n,e,k1,k2,k3⟩:=e
 obtain ⟨⟨c2,d2,da2,sl2⟩,n2,e2,g1,g2,g3⟩:=e2
 simp only at k1 k3 g1 g3
 subst k1 k3 g1 g3
 have l1:=r.length
 have l2:=r2.length
 have ea:its.toArray++its2.toArray=(its++its2).toArray:=by simp
 refine vo ⟨_,e,rfl⟩ ⟨_,e2,rfl⟩ noFill_list_add seq_list_add PySem.F.slot_list_add PySem.F.entry_list_add
  (PySem.F.args_list_add_2 _ _) (list_addW l b its.toArray its2.toArray n n2 d1 d2 sl1 sl2 (by rw[qx,qx];omega)) ⟨e,e2,?_⟩
 rw[ea]
 exact ⟨.ref _,_,I.lnew (t':=s.toks) (r.append r2) (by rw[qC];omega),rfl,q _ I.fresh⟩
theorem aS:bM X (.builtin "isinstance") (λxs H Q=>∃x T t b,xs=[x,.ty T]/\dU X.K H x t/\PySem.W.kitOne X.K t (.type T)=some b/\Q (.bl b) H):=by
 intro pins s σ H xs us Q I r h
 obtain ⟨x,T,t,b,rfl,ty,e,q⟩:=h
 obtain ⟨u,w',rfl,ru,rw'⟩:=vals2 r
 cases (show w'=Value.type T from rw')
 exact jN I ru ty e λtk=>⟨.bl b,H,I.tok tk,rfl,q⟩
end
def kJ (k:Nat)(tc:TT)(te:TE)(τ:St)(Pv:Nat->List V->Hp->Prop)(i:Nat)(x:V)(ys:List V)(H:Hp):Prop :=
 ∀(R1:V->Hp->Prop) (R0:Hp->Prop),(∀y H4,Pv (i+1) (ys++[y]) H4->R1 y H4)->(∀H3,Pv (i+1) ys H3->R0 H3)->tc (τ.set k (some x)) H λb H3=>if b=true then te (τ.set k (some x)) H3 R1 else R0 H3
theorem oE {K:qv}{a:Addr}{xs:List V}{k:Nat}{tc:TT}{te:TE}{τ:St}{H:Hp}{Q:VK}(Pv:Nat->List V->Hp->Prop)(h0:Pv 0 [] H)(hz:xs.length<=qD)
  (hl:∀i ys H,i<=xs.length->Pv i ys H->SqL K H a xs) (hs:∀i x ys H,xs[i]? = some x->ys.length<=i->Pv i ys H->kJ k tc te τ Pv i x ys H)
  (hd:∀ys H,ys.length<=xs.length->Pv xs.length ys H->∀l,H l=none->Q (.ref l) (upd H l (.lst ys))) :
  fM (Itl K a) (ef k) tc te τ Q H:=by
 refine ⟨λi m σ ys H=>m=xs.length-i/\i<=xs.length/\(∀x,σ.set k (some x)=τ.set k (some x))/\ys.length<=i/\Pv i ys H,⟨xs.length,by simp,sC _,λ_=>rfl,qz _,h0⟩,?_⟩
 rintro i m σ ys H ⟨rfl,hi,hτ,hy,p⟩
 have q:=hl i ys H hi p
 by_cases hlt:i<xs.length
 ·refine .inr ⟨⟨xs,xs[i],q,by simp[hlt]⟩,λx H' y =>?_⟩
  obtain ⟨e,y⟩:=y
  subst e
  show tc (σ.set k (some x)) _ _
  rw[hτ x]
  have hσ:∀z,(τ.set k (some x)).set k (some z)=τ.set k (some z):=λz=>by rw[ux]
  refine hs i x ys _ (y xs q) hy p _ _ (λy4 H4 p4=>⟨by lia,xs.length-(i+1),by lia,rfl,hlt,hσ,by rw[qC,sW];lia,p4⟩) λH3 p3=>⟨xs.length-(i+1),by lia,rfl,hlt,hσ,by lia,p3⟩
 ·have e:i=xs.length:=by lia
  subst e
  exact .inl ⟨⟨xs,q,qz _⟩,by lia,hd ys H hy p⟩
theorem cN {K:qv}{a:Addr}{xs:List V}{k:Nat}{tc:TT}{te:TE}{τ:St}{H:Hp}{Q:VK}(Pv:Nat->List V->Hp->Prop)(h0:Pv 0 [] H)(hz:xs.length<=qD)
  (hl:∀i ys H,i<=xs.length->Pv i ys H->SqT K H a xs) (hs:∀i x ys H,xs[i]? = some x->ys.length<=i->Pv i ys H->kJ k tc te τ Pv i x ys H)
  (hd:∀ys H,ys.length<=xs.length->Pv xs.length ys H->∀l,H l=none->Q (.ref l) (upd H l (.lst ys))) :
  fM (Itt K a) (ef k) tc te τ Q H:=by
 refine ⟨λi m σ ys H=>m=xs.length-i/\i<=xs.length/\(∀x,σ.set k (some x)=τ.set k (some x))/\ys.length<=i/\Pv i ys H,⟨xs.length,by simp,sC _,λ_=>rfl,qz _,h0⟩,?_⟩
 rintro i m σ ys H ⟨rfl,hi,hτ,hy,p⟩
 have q:=hl i ys H hi p
 by_cases hlt:i<xs.length
 ·refine .inr ⟨⟨xs,xs[i],q,by simp[hlt]⟩,λx H' y =>?_⟩
  obtain ⟨e,y⟩:=y
  subst e
  show tc (σ.set k (some x)) _ _
  rw[hτ x]
  have hσ:∀z,(τ.set k (some x)).set k (some z)=τ.set k (some z):=λz=>by rw[ux]
  refine hs i x ys _ (y xs q) hy p _ _ (λy4 H4 p4=>⟨by lia,xs.length-(i+1),by lia,rfl,hlt,hσ,by rw[qC,sW];lia,p4⟩) λH3 p3=>⟨xs.length-(i+1),by lia,rfl,hlt,hσ,by lia,p3⟩
 ·have e:i=xs.length:=by lia
  subst e
  exact .inl ⟨⟨xs,q,qz _⟩,by lia,hd ys H hy p⟩
theorem cD {lo:Int}{n:Nat}{k:Nat}{tc:TT}{te:TE}{τ:St}{H:Hp}{Q:VK}(Pv:Nat->List V->Hp->Prop)(h0:Pv 0 [] H)(hz:n<=qD)
  (hs:∀i ys H,i<n->ys.length<=i->Pv i ys H->kJ k tc te τ Pv i (.int (lo+i)) ys H)
  (hd:∀ys H,ys.length<=n->Pv n ys H->∀l,H l=none->Q (.ref l) (upd H l (.lst ys))) :
  fM (Itr lo n) (ef k) tc te τ Q H:=by
 refine ⟨λi m σ ys H=>m=n-i/\i<=n/\(∀x,σ.set k (some x)=τ.set k (some x))/\ys.length<=i/\Pv i ys H,⟨n,by simp,sC _,λ_=>rfl,qz _,h0⟩,?_⟩
 rintro i m σ ys H ⟨rfl,hi,hτ,hy,p⟩
 by_cases hlt:i<n
 ·refine .inr ⟨hlt,λx H' y =>?_⟩
  obtain ⟨e,y⟩:=y
  subst e y
  show tc (σ.set k (some (.int (lo+i)))) _ _
  rw[hτ]
  have hσ:∀z,(τ.set k (some (.int (lo+i)))).set k (some z)=τ.set k (some z):=λz=>by rw[ux]
  refine hs i ys _ hlt hy p _ _ (λy4 H4 p4=>⟨by lia,n-(i+1),by lia,rfl,hlt,hσ,by rw[qC,sW];lia,p4⟩) λH3 p3=>⟨n-(i+1),by lia,rfl,hlt,hσ,by lia,p3⟩
 ·have e:i=n:=by lia
  subst e
  exact .inl ⟨qz _,by lia,hd ys H hy p⟩
structure Cal (P:qX)(w:rO)(K:qv)(mg:Str->Option qw)(base:Heap)(k:Nat)(x:Str)(ps:List Str)(sp:Sp):Prop where
 ex:∃f fd,bu P w K mg base CX0 k f fd ps sp/\mg x=some (.ref f)/\PySem.W.keepIn K (.ref f)=true/\Binds K fd ps []
theorem av {X:Cx}{j k:Nat}{x:Str}{ps:List Str}{sp:Sp}{e:Expr}{es:List Expr}{t:TA}{p pos:Pos}(C:Cal X.prog X.w X.K X.mg X.base k x ps sp)(hr:bI j X.A)(hj:k<=j)(hg:Gl X x)(ha:PA X (e :: es) t)
  (hdb:(x == ("__debug__" : Str))=false:=by decide) (he:rL (e :: es) X.env=(false,eval e X.env) :: rL es X.env:=by rfl) (hpl:(u0 pos (rL es X.env)).any (·.1)=false:=by rfl) :
  PE X (.Call (.Name x p) (e :: es) [] pos) (nB sp [] E0 t):=by
 obtain ⟨f,fd,F,m,kp,b⟩:=C.ex
 exact mf F (hr.mono hj) hg m kp b .nil pX ha hdb he hpl
theorem af {H:Hp}{p:Addr}(h:H p=none)(o:HO):aF H (upd H p o):=λb u q=>by rw[az (ax q h)];exact q
theorem small {n:Nat}(h:n<=1000):n<=qD:=vi (dW h)
open PySem PySem.Spec PyProof.Rows
section
variable  {X:Cx}
theorem hE {its:List qw}{bs:List Bool}(h:Vals (bs.map V.bl) its){prog:qX}{w:rO}{A:r6}:TruthOf prog w A (λi v=>its.toArray[i]? = some v) (λi=>bs.getD i false):=by
 intro i v s Q E hv q
 have l:=h.length
 rw[qu] at l
 have hi:i<its.length:=by
  rw[wc] at hv
  exact (qI.mp hv).1
 have e:(bs.map V.bl)[i]? = some (.bl (bs.getD i false)):=by
  rw[rK,rT,qS (by lia)]
  rfl
 obtain ⟨u,e1,e2⟩:=h.get e
 rw[wc,e1] at hv
 have ev:u=v:=rE hv
 subst ev
 cases (show u=Value.bool _ from e2)
 exact tx q
theorem all_range (bs:List Bool):((sN bs.length).all λi=>bs.getD i false)=bs.all id:=by
 rw[t7,uq,uq]
 constructor
 ·intro h x hx
  obtain ⟨i,e⟩:=rJ.mp hx
  have hi:i<bs.length:=(qI.mp e).1
  have q:=h i (uL.mpr hi)
  rw[rT,e] at q
  exact q
 ·intro h i hi
  have hi':=uL.mp hi
  rw[rT,qS hi']
  exact h _ (uu hi')
theorem kK (hc:X.calm=true):bM X (.builtin "all") (λxs H Q=>∃(p:Addr) (bs:List Bool),xs=[.ref p]/\SqL X.K H p (bs.map V.bl)/\Q (.bl (bs.all id)) H):=by
 intro pins s σ H xs us Q I r h
 obtain ⟨p,bs,rfl,hs,q⟩:=h
 obtain ⟨u,rfl,ru⟩:=vals1 r
 cases (show u=qW p from ru)
 obtain ⟨its,rv,pl,hz⟩:=I.list hs
 have l:=rv.length
 rw[qu] at l
 have hpl:p<s.heap.objs.size:=by obtain ⟨o,_,e,_⟩:=pl;exact qP e
 refine call_all_walk (xo pl.isList ?_)
 have hd:X.A.in1.handled=none:=I.ok.hd hc
 refine ⟨s.heap.objs.size,_,_,_,_,_,_,rfl,Walks.list hd s.heap.objs.size p (rM hpl) its.toArray,⟨⟨_,q8 _ rfl,rfl,rfl⟩,?_⟩,hE rv,λh' tk k =>?_⟩
 ·exact pl.isList.at λo e=>qB _ e
 ·have e:((sN its.toArray.size).all λi=>bs.getD i false)=bs.all id:=by rw[qx, <- l,all_range]
  rw[e]
  refine ⟨.bl (bs.all id),H,I.kept (t':=tk) (λb o eb=>k b o ?_ (qB _ eb)),rfl,q⟩
  intro hb
  have:b=s.heap.objs.size:=by simpa using hb
  exact absurd (qP eb) (by rw[this];exact sE _)
def mC:V->List V->Hp->VK->Prop:=λx vs H Q=>∃(l:Addr) (xs:List V) (i:Int) (y:V),x = .ref l/\vs=[.int i,y]/\H l=some (.lst xs)/\0<=i/\i<=xs.length/\xs.length<qD/\Q .non (upd H l (.lst (xs.take i.toNat++y :: xs.drop i.toNat)))
theorem jS:MtM X "list.insert" mC:=by
 intro pins s σ H x vs v us Q I rx rv h
 obtain ⟨l,xs,i,y,rfl,rfl,hH,h0,h1,hz,q⟩:=h
 cases rx
 obtain ⟨ui,uy,rfl,⟨t,rfl⟩,ry⟩:=vals2 rv
 obtain ⟨z,its,n,r,hl,e⟩:=I.oz hH
 have zl:=dR
 have fits:¬ (!Builtin.List.listFitsIndex i)=true:=by
  have:Builtin.List.listFitsIndex i=true:=by
   unfold Builtin.List.listFitsIndex
   simp only[rZ,decide_eq_true_eq]
   lia
  rw[this];simp
 refine u5 F.slot_list_insert ⟨_,e,rfl⟩ F.entry_list_insert (F.args_list_insert_3 _ _ _) (vS l its.toArray n i t uy fits (by rw[qx];lia)) ⟨e,?_⟩
 refine ⟨.non,_,I.oy (its':=its.take i.toNat++uy :: its.drop i.toNat) hH e ?_ ((r.take _).append (.cons ry (r.drop _))) ?_,rfl,q⟩
 ·have ek:min i.toNat its.toArray.size=i.toNat:=by rw[qx];lia
  dsimp only
  rw[if_neg (by lia),ek]
  apply vT.mp
  rw[q9,tw,sH,sH,rN,rN]
  simp
  rw[rA (by rw[rY];lia)]
 ·rw[qC,rG,rX,rY]
  lia
theorem cO {α β:Type}{F:α -> β -> Prop}:∀{l:List α} {m:List β} {i:Nat} {x:α} {y:β},Paired F l m->l[i]? = some x->m[i]? = some y->F x y
 | _,_,0,_,_,.cons h _,e1,e2=>by simp at e1 e2;subst e1 e2;exact h
 | _,_,i+1,_,_,.cons _ t,e1,e2=>cO (i:=i) t (by simpa using e1) (by simpa using e2)
 | _,_,_,_,_,.nil,e1,_=>by simp at e1
theorem all_true (n:Nat):((sN n).all λ_=>true)=true:=by simp
end
open PySem PySem.Spec PyProof.Rows
def kM (K:qv)(k l:Nat):TG:=pH K 2 (ku (ef k) (ku (ef l) pG))
def nD (k l:Nat)(tc:TT)(te:TE)(τ:St)(Pv:Nat->List V->Hp->Prop)(i:Nat)(a b:V)(ys:List V)(H:Hp):Prop :=
 ∀(R1:V->Hp->Prop) (R0:Hp->Prop),(∀y H4,Pv (i+1) (ys++[y]) H4->R1 y H4)->(∀H3,Pv (i+1) ys H3->R0 H3)->tc ((τ.set k (some a)).set l (some b)) H λc H3=>if c=true then te ((τ.set k (some a)).set l (some b)) H3 R1 else R0 H3
theorem iJ {K:qv}{p:Addr}{ts:List (Addr×V×V)}{k l:Nat}{tc:TT}{te:TE}{τ:St}{H:Hp}{Q:VK}(Pv:Nat->List V->Hp->Prop)(hkl:k≠l)(h0:Pv 0 [] H)(hz:ts.length<=qD)
  (hl:∀i ys H,i<=ts.length->Pv i ys H->SqL K H p (ts.map λt =>.ref t.1)/\∀t∈ts,SqT K H t.1 [t.2.1,t.2.2])
  (hs:∀i t ys H,ts[i]? = some t->ys.length<=i->Pv i ys H->nD k l tc te τ Pv i t.2.1 t.2.2 ys H)
  (hd:∀ys H,ys.length<=ts.length->Pv ts.length ys H->∀r,H r=none->Q (.ref r) (upd H r (.lst ys))):fM (Itl K p) (kM K k l) tc te τ Q H:=by
 refine ⟨λi m σ ys H=>m=ts.length-i/\i<=ts.length/\(∀a b,(σ.set k (some a)).set l (some b)=(τ.set k (some a)).set l (some b))/\ys.length<=i/\Pv i ys H,⟨ts.length,by simp,sC _,λ_ _=>rfl,qz _,h0⟩,?_⟩
 rintro i m σ ys H ⟨rfl,hi,hτ,hy,pv⟩
 obtain ⟨q,qt⟩:=hl i ys H hi pv
 have ln:(ts.map λt:Addr×V×V=>V.ref t.1).length=ts.length:=qu _
 by_cases hlt:i<ts.length
 ·have et:ts[i]? = some ts[i]:=qS hlt
  have em:(ts.map λt:Addr×V×V=>V.ref t.1)[i]? = some (.ref ts[i].1):=by rw[rK,et];rfl
  refine .inr ⟨⟨_,_,q,em⟩,λx H' y =>?_⟩
  obtain ⟨e,y⟩:=y
  subst e
  have ex:=y _ q
  rw[em] at ex
  cases ex
  have st:=qt ts[i] (uu hlt)
  refine ⟨ts[i].1,_,rfl,st,rfl,_,_,rfl,_,_,rfl,rfl,?_⟩
  rw[hτ]
  have hσ:∀a b,((((τ.set k (some ts[i].2.1)).set l (some ts[i].2.2)).set k (some a)).set l (some b))=(τ.set k (some a)).set l (some b):=λa b=>by
   rw[x5 _ _ (uv hkl),ux,ux]
  refine hs i ts[i] ys _ et hy pv _ _ (λy4 H4 p4=>⟨by lia,ts.length-(i+1),by lia,rfl,hlt,hσ,by rw[qC,sW];lia,p4⟩) λH3 p3=>⟨ts.length-(i+1),by lia,rfl,hlt,hσ,by lia,p3⟩
 ·have e:i=ts.length:=by lia
  subst e
  exact .inl ⟨⟨_,q,by rw[ln];exact qz _⟩,by lia,hd ys H hy pv⟩
open PySem PySem.Spec PyProof.Rows
section
variable  {X:Cx}{K:qv}
theorem eI (h:X.K=K:=by rfl):IxR X (rIx K):=by subst h;exact ot
theorem eZ (h:X.K=K:=by rfl):IxR X (om K):=by subst h;exact dz
theorem bH (h:X.K=K:=by rfl):IxR X (oo K):=by subst h;exact aD
theorem cP (h:X.K=K:=by rfl):OpR X (tJ .NotIn) (rIn K true):=by subst h;exact gB
end
end L2
namespace Srt
open PySem PyProof.Rows
def gal:Bool->qJ->Array qJ->Nat->Nat->Nat->StateT qY Sem (Option Nat):=sortPriv% PySem.Builtin.gallop
def mLo:Array qJ->Array qJ->StateT qY Sem (Array qJ):=sortPriv% PySem.Builtin.mergeLo
def mHi:Array qJ->Array qJ->StateT qY Sem (Array qJ):=sortPriv% PySem.Builtin.mergeHi
def mAt:Nat->StateT qY Sem Bool:=sortPriv% PySem.Builtin.mergeAt
def nE:StateT qY Sem Unit:=sortPriv% PySem.Builtin.sortRuns
def oF:Nat->Nat->StateT qY Sem (Option Nat):=sortPriv% PySem.Builtin.countRun
def kN:Nat->Nat->Nat->StateT qY Sem Bool:=sortPriv% PySem.Builtin.binarySort
theorem oG (lf:Bool)(ky:qJ)(ar:Array qJ)(bs n ht:Nat):gal lf ky ar bs n ht=(do
    let far (i:Nat):StateT qY Sem (Option Bool):=do
      let z ← elem' ar (bs+i)
      if lf then lt' z ky else return (← lt' ky z).map (!·)
    let mut la:=0;let mut of:=1
    let mut lo:=0;let mut hi:=0
    let some rt ← far ht | return none
    if rt then
      let mx:=n-ht
      for _ in [0:n] do
        if of≥mx then break
        let some mo ← far (ht+of)
          | return none
        if !mo then break
        la:=of;of:=2*of+1
      lo:=ht+la+1;hi:=ht+min of mx
    else
      let mx:=ht+1
      for _ in [0:n] do
        if of≥mx then break
        let some fd ← far (ht-of)
          | return none
        if fd then break
        la:=of;of:=2*of+1
      lo:=ht+1-min of mx;hi:=ht-la
    for _ in [0:n] do
      if lo≥hi then break
      let md:=lo+(hi-lo)/2
      let some mo ← far md | return none
      if mo then lo:=md+1 else hi:=md
    return some hi):=rfl
section
variable  {prog:qX}{w:rO}{A:r6}{E:qw->qy->Prop}{s:qy}
theorem kO {lf:Bool}{ky:qJ}{ar:Array qJ}{bs n ht:Nat}{st:qY}{Q:Option Nat->qY->Prop}(p:Nat->Bool)
    (hf:∀i,i<n->∀(Q:Option Bool->qY->Prop),Q (some (p i)) st->wpS (rD prog w) A E s (do let z ← elem' ar (bs+i);if lf then lt' z ky else return (← lt' ky z).map (!·)) Q st)
    (hp:∀i j,i<=j->j<n->p j=true->p i=true) (hh:ht<n)
    (h:∀k,k<=n->(∀i,i<k->p i=true)->(∀i,k<=i->i<n->p i=false)->Q (some k) st):wpS (rD prog w) A E s (gal lf ky ar bs n ht) Q st:=by
  rw[oG]
  dsimp only
  refine qG (hf ht hh _ ?_)
  dsimp only
  cases hr:p ht with
  | true =>
    rw[if_pos rfl]
    refine qG (sV (rR (I:=λx c st'=>st=st'/\∃la of,c=(none,la,of)/\la<of/\x+1<=of/\ht+la<n/\p (ht+la)=true)
      (Q:=λc st'=>st=st'/\∃la of,c=(none,la,of)/\la<of/\ht+la<n/\p (ht+la)=true/\(n-ht<=of\/(ht+of<n/\p (ht+of)=false))) ?step ?fin ⟨rfl,0,1,rfl,by lia,by lia,by lia,by simpa using hr⟩) ?post)
    case fin =>
      rintro c st' ⟨rfl,la,of,rfl,b1,b2,b3,b4⟩
      exact ⟨rfl,la,of,rfl,b1,b3,b4,.inl (by lia)⟩
    case step =>
      rintro x c st' _ hx ⟨rfl,la,of,rfl,b1,b2,b3,b4⟩
      dsimp only
      by_cases hge:of≥n-ht
      · rw[if_pos hge]
        exact qK ⟨rfl,la,of,rfl,b1,b3,b4,.inl hge⟩
      · rw[if_neg hge]
        refine qG (hf _ (by lia) _ ?_)
        dsimp only
        cases hm:p (ht+of) with
        | true =>
          simp only[vK,sJ,if_false]
          exact qK ⟨rfl,of,2*of+1,rfl,by lia,by lia,by lia,hm⟩
        | false =>
          simp only[Bool.not_false,if_true]
          exact qK ⟨rfl,la,of,rfl,b1,b3,b4,.inr ⟨by lia,hm⟩⟩
    case post =>
      rintro c st' ⟨rfl,la,of,rfl,b1,b3,b4,b5⟩
      have h1:(ht+la+1)<=(ht+min of (n-ht)):=by lia
      have h2:(ht+min of (n-ht))<=n:=by lia
      have h3:∀i,i<(ht+la+1)->p i=true:=λi hi=>hp i (ht+la) (by lia) b3 b4
      have h4:∀i,(ht+min of (n-ht))<=i->i<n->p i=false:=λi hi hn=>by
        rcases b5 with b5 | ⟨b5,b6⟩
        · lia
        · cases hpi:p i with
          | false=>rfl
          | true=>rw[hp (ht+of) i (by lia) hn hpi] at b6;cases b6
      dsimp only
      refine qG (sV (rR (I:=λx c st'=>st=st'/\∃lo hi,c=(none,lo,hi)/\lo<=hi/\hi<=n/\hi-lo<=n-x/\(∀i,i<lo->p i=true)/\(∀i,hi<=i->i<n->p i=false))
        (Q:=λc st'=>st=st'/\∃k,c=(none,k,k)/\k<=n/\(∀i,i<k->p i=true)/\(∀i,k<=i->i<n->p i=false)) ?step ?fin ⟨rfl,(ht+la+1),(ht+min of (n-ht)),rfl,h1,h2,by lia,h3,h4⟩) ?post)
      case fin =>
        rintro c st' ⟨rfl,lo,hi,rfl,a1,a2,a3,a4,a5⟩
        have e:lo=hi:=by lia
        subst e
        exact ⟨rfl,lo,rfl,a2,a4,a5⟩
      case post =>
        rintro c st' ⟨rfl,k,rfl,a2,a4,a5⟩
        exact qK (h k a2 a4 a5)
      case step =>
        rintro x c st' _ hx ⟨rfl,lo,hi,rfl,a1,a2,a3,a4,a5⟩
        dsimp only
        by_cases hge:lo≥hi
        · rw[if_pos hge]
          have e:lo=hi:=by lia
          subst e
          exact qK ⟨rfl,lo,rfl,a2,a4,a5⟩
        · rw[if_neg hge]
          refine qG (hf _ (by lia) _ ?_)
          dsimp only
          cases hm:p (lo+(hi-lo)/2) with
          | true =>
            rw[if_pos rfl]
            exact qK ⟨rfl,_,_,rfl,by lia,a2,by lia,λi hi'=>hp i _ (by lia) (by lia) hm,a5⟩
          | false =>
            rw[if_neg (by simp)]
            refine qK ⟨rfl,_,_,rfl,by lia,by lia,by lia,a4,λi hi' hn =>?_⟩
            cases hpi:p i with
            | false=>rfl
            | true=>rw[hp _ i hi' hn hpi] at hm;cases hm
  | false =>
    rw[if_neg (by simp)]
    refine qG (sV (rR (I:=λx c st'=>st=st'/\∃la of,c=(none,la,of)/\la<of/\x+1<=of/\la<=ht/\p (ht-la)=false)
      (Q:=λc st'=>st=st'/\∃la of,c=(none,la,of)/\la<of/\la<=ht/\p (ht-la)=false/\(ht+1<=of\/(of<=ht/\p (ht-of)=true))) ?step ?fin ⟨rfl,0,1,rfl,by lia,by lia,by lia,by simpa using hr⟩) ?post)
    case fin =>
      rintro c st' ⟨rfl,la,of,rfl,b1,b2,b3,b4⟩
      exact ⟨rfl,la,of,rfl,b1,b3,b4,.inl (by lia)⟩
    case step =>
      rintro x c st' _ hx ⟨rfl,la,of,rfl,b1,b2,b3,b4⟩
      dsimp only
      by_cases hge:of≥ht+1
      · rw[if_pos hge]
        exact qK ⟨rfl,la,of,rfl,b1,b3,b4,.inl hge⟩
      · rw[if_neg hge]
        refine qG (hf _ (by lia) _ ?_)
        dsimp only
        cases hm:p (ht-of) with
        | true =>
          rw[if_pos rfl]
          exact qK ⟨rfl,la,of,rfl,b1,b3,b4,.inr ⟨by lia,hm⟩⟩
        | false =>
          rw[if_neg (by simp)]
          exact qK ⟨rfl,of,2*of+1,rfl,by lia,by lia,by lia,hm⟩
    case post =>
      rintro c st' ⟨rfl,la,of,rfl,b1,b3,b4,b5⟩
      have h1:(ht+1-min of (ht+1))<=(ht-la):=by lia
      have h2:(ht-la)<=n:=by lia
      have h3:∀i,i<(ht+1-min of (ht+1))->p i=true:=λi hi=>by
        rcases b5 with b5 | ⟨b5,b6⟩
        · lia
        · exact hp i (ht-of) (by lia) (by lia) b6
      have h4:∀i,(ht-la)<=i->i<n->p i=false:=λi hi hn=>by
        cases hpi:p i with
        | false=>rfl
        | true=>rw[hp (ht-la) i hi hn hpi] at b4;cases b4
      dsimp only
      refine qG (sV (rR (I:=λx c st'=>st=st'/\∃lo hi,c=(none,lo,hi)/\lo<=hi/\hi<=n/\hi-lo<=n-x/\(∀i,i<lo->p i=true)/\(∀i,hi<=i->i<n->p i=false))
        (Q:=λc st'=>st=st'/\∃k,c=(none,k,k)/\k<=n/\(∀i,i<k->p i=true)/\(∀i,k<=i->i<n->p i=false)) ?step ?fin ⟨rfl,(ht+1-min of (ht+1)),(ht-la),rfl,h1,h2,by lia,h3,h4⟩) ?post)
      case fin =>
        rintro c st' ⟨rfl,lo,hi,rfl,a1,a2,a3,a4,a5⟩
        have e:lo=hi:=by lia
        subst e
        exact ⟨rfl,lo,rfl,a2,a4,a5⟩
      case post =>
        rintro c st' ⟨rfl,k,rfl,a2,a4,a5⟩
        exact qK (h k a2 a4 a5)
      case step =>
        rintro x c st' _ hx ⟨rfl,lo,hi,rfl,a1,a2,a3,a4,a5⟩
        dsimp only
        by_cases hge:lo≥hi
        · rw[if_pos hge]
          have e:lo=hi:=by lia
          subst e
          exact qK ⟨rfl,lo,rfl,a2,a4,a5⟩
        · rw[if_neg hge]
          refine qG (hf _ (by lia) _ ?_)
          dsimp only
          cases hm:p (lo+(hi-lo)/2) with
          | true =>
            rw[if_pos rfl]
            exact qK ⟨rfl,_,_,rfl,by lia,a2,by lia,λi hi'=>hp i _ (by lia) (by lia) hm,a5⟩
          | false =>
            rw[if_neg (by simp)]
            refine qK ⟨rfl,_,_,rfl,by lia,by lia,by lia,a4,λi hi' hn =>?_⟩
            cases hpi:p i with
            | false=>rfl
            | true=>rw[hp _ i hi' hn hpi] at hm;cases hm
end
open PySem PyProof.Rows
structure Cmp (prog:qX)(w:rO)(A:r6)(s:qy)(O:vG)(key:qJ->O.α)(U:qJ->Prop)(κ:SortKind):Prop where
 lt:∀(E:qw->qy->Prop) (st:qY) (x y:qJ) (Q:Option Bool->qY->Prop),kindOf st=κ -> U x->U y->Q (some (O.blt (key x) (key y))) st->wpS (rD prog w) A E s (lt' x y) Q st
section
variable  {prog:qX}{w:rO}{A:r6}{E:qw->qy->Prop}{s:qy}{O:vG}{key:qJ->O.α}{U:qJ->Prop}{κ:SortKind}
theorem aK {ar:Array qJ}{i:Nat}{z:qJ}{st:qY}{Q:qJ->qY->Prop}(h:ar[i]? = some z)(hq:Q z st):wpS (rD prog w) A E s (elem' ar i) Q st:=by
 rw[elem'_eq,h]
 exact qK hq
theorem oH (C:Cmp prog w A s O key U κ){ky:qJ}{ar:Array qJ}{bs n ht:Nat}{st:qY}{Q:Option Nat->qY->Prop}(g:Nat->qJ)(hk:kindOf st=κ)(uk:U ky)
  (hg:∀i,i<n->ar[bs+i]? = some (g i)) (hu:∀i,i<n->U (g i)) (hs:∀i j,i<=j->j<n->O.kle (key (g i)) (key (g j))) (hh:ht<n)
  (h:∀k,k<=n->(∀i,i<k->O.kle (key (g i)) (key ky))->(∀i,k<=i->i<n->O.klt (key ky) (key (g i)))->Q (some k) st):wpS (rD prog w) A E s (gal false ky ar bs n ht) Q st:=by
 refine kO (λi => !O.blt (key ky) (key (g i))) (λi hi R hr =>?_) (λi j hij hj hp =>?_) hh (λk hk' h1 h2=>h k hk' (λi hi =>?_) λi hi hn =>?_)
 ·refine qG (aK (hg i hi) ?_)
  rw[if_neg (by simp)]
  exact qG (C.lt _ st ky (g i) _ hk uk (hu i hi) (qK hr))
 ·have a1:O.blt (key ky) (key (g j))=false:=by simpa using hp
  have a2:O.kle (key (g i)) (key ky):=rj (hs i j hij hj) a1
  have a3:O.blt (key ky) (key (g i))=false:=a2
  simp[a3]
 ·have a1:=h1 i hi
  exact (by simpa using a1:O.blt (key ky) (key (g i))=false)
 ·have a1:=h2 i hi hn
  exact (by simpa using a1:O.blt (key ky) (key (g i))=true)
theorem oI (C:Cmp prog w A s O key U κ){ky:qJ}{ar:Array qJ}{bs n ht:Nat}{st:qY}{Q:Option Nat->qY->Prop}(g:Nat->qJ)(hk:kindOf st=κ)(uk:U ky)
  (hg:∀i,i<n->ar[bs+i]? = some (g i)) (hu:∀i,i<n->U (g i)) (hs:∀i j,i<=j->j<n->O.kle (key (g i)) (key (g j))) (hh:ht<n)
  (h:∀k,k<=n->(∀i,i<k->O.klt (key (g i)) (key ky))->(∀i,k<=i->i<n->O.kle (key ky) (key (g i)))->Q (some k) st):wpS (rD prog w) A E s (gal true ky ar bs n ht) Q st:=by
 refine kO (λi=>O.blt (key (g i)) (key ky)) (λi hi R hr =>?_) (λi j hij hj hp =>?_) hh (λk hk' h1 h2=>h k hk' (λi hi=>h1 i hi) λi hi hn=>h2 i hi hn)
 ·refine qG (aK (hg i hi) ?_)
  rw[if_pos rfl]
  exact C.lt _ st (g i) ky _ hk (hu i hi) uk hr
 ·exact KeyOrd.klt_of_kle_of_klt (hs i j hij hj) hp
end
open PySem PyProof.Rows
section
variable  {O:vG}(key:qJ->O.α)
def Le (p q:qJ):Prop:=O.kle (key p) (key q)
structure MW (a b o:Array qJ)(x y:Nat):Prop where
 hx:x<=a.size
 hy:y<=b.size
 perm:(o.toList++(a.toList.drop x++b.toList.drop y)).Perm (a.toList++b.toList)
 sorted:o.toList.Pairwise (Le key)
 below:∀p∈o.toList,∀z∈a.toList.drop x++b.toList.drop y,Le key p z
def bW (a b r:Array qJ):Prop:=r.toList.Perm (a.toList++b.toList)/\r.toList.Pairwise (Le key)
variable  {key}
theorem MW.fin {a b o:Array qJ}{x y:Nat}(m:MW key a b o x y){t:List qJ}{r:Array qJ}(hr:r.toList=o.toList++t)(ht:t.Perm (a.toList.drop x++b.toList.drop y))(hs:t.Pairwise (Le key)):bW key a b r:=by
 unfold bW
 rw[hr]
 exact ⟨(sZ _ ht).trans m.perm,si.mpr ⟨m.sorted,hs,λp hp q hq=>m.below p hp q (ht.mem_iff.mp hq)⟩⟩
theorem MW.take {a b o:Array qJ}{x y x' y':Nat}(m:MW key a b o x y){t:List qJ}{r:Array qJ}(hr:r.toList=o.toList++t)(hx:x'<=a.size)(hy:y'<=b.size)
  (ht:(t++(a.toList.drop x'++b.toList.drop y')).Perm (a.toList.drop x++b.toList.drop y)) (hs:t.Pairwise (Le key)) (hb:∀p∈t,∀z∈a.toList.drop x'++b.toList.drop y',Le key p z):MW key a b r x' y':=by
 have sub:∀z,z∈t\/z∈a.toList.drop x'++b.toList.drop y'->z∈a.toList.drop x++b.toList.drop y:=λz hz=>ht.mem_iff.mp (qH.mpr hz)
 refine ⟨hx,hy,?_,?_,?_⟩
 ·rw[hr,rC]
  exact (sZ _ ht).trans m.perm
 ·rw[hr]
  exact si.mpr ⟨m.sorted,hs,λp hp q hq=>m.below p hp q (sub q (.inl hq))⟩
 ·rw[hr]
  intro p hp z hz
  rcases qH.mp hp with h | h
  ·exact m.below p h z (sub z (.inr hz))
  ·exact hb p h z hz
theorem drop_cons {α:Type}{l:List α}{i:Nat}{z:α}(h:l[i]? = some z):l.drop i=z :: l.drop (i+1):=by
 obtain ⟨hi,e⟩:=qI.mp h
 rw[List.drop_eq_getElem_cons hi,e]
theorem drop_take {α:Type}(l:List α)(i k:Nat):l.drop i=(l.drop i).take k++l.drop (i+k):=by
 rw[<- xS,tG]
theorem au {a:Array qJ}{i:Nat}{z:qJ}(h:a[i]? = some z):a.toList[i]? = some z:=by rw[qL];exact h
theorem MW.eB {a b o:Array qJ}{x y:Nat}{z:qJ}(m:MW key a b o x y)(h:a[x]? = some z)(ha:a.toList.Pairwise (Le key))(hb:∀t∈b.toList.drop y,Le key z t):MW key a b (o.push z) (x+1) y:=by
 have e:=drop_cons (au h)
 have hx:x<a.size:=(sQ.mp h).1
 have pa:(z :: a.toList.drop (x+1)).Pairwise (Le key):=by rw[<- e];exact ha.sublist (rQ _ _)
 refine m.take (t:=[z]) (by rw[tw]) hx m.hy (by rw[e];exact vt _) (tj _ _) λp hp t ht =>?_
 have ep:p=z:=by simpa using hp
 subst ep
 rcases qH.mp ht with q | q
 ·exact (tH.mp pa).1 t q
 ·exact hb t q
theorem MW.fO {a b o:Array qJ}{x y:Nat}{z:qJ}(m:MW key a b o x y)(h:b[y]? = some z)(hb:b.toList.Pairwise (Le key))(ha:∀t∈a.toList.drop x,Le key z t):MW key a b (o.push z) x (y+1):=by
 have e:=drop_cons (au h)
 have hy:y<b.size:=(sQ.mp h).1
 have pb:(z :: b.toList.drop (y+1)).Pairwise (Le key):=by rw[<- e];exact hb.sublist (rQ _ _)
 refine m.take (t:=[z]) (by rw[tw]) m.hx hy (by rw[e,List.singleton_append];exact List.perm_middle.symm) (tj _ _) λp hp t ht =>?_
 have ep:p=z:=by simpa using hp
 subst ep
 rcases qH.mp ht with q | q
 ·exact ha t q
 ·exact (tH.mp pb).1 t q
theorem ext_toList (a:Array qJ)(x k:Nat):(a.extract x (x+k)).toList=(a.toList.drop x).take k:=by
 rw[sH,rN,tR]
theorem cQ (a:Array qJ)(x:Nat):(a.extract x a.size).toList=a.toList.drop x:=by
 rw[sH,rN]
 exact rA (by rw[rY,qF];exact qz _)
theorem ay {l:List qJ}(h:l.Pairwise (Le key)){i j:Nat}{p q:qJ}(hi:l[i]? = some p)(hj:l[j]? = some q)(hij:i<=j):Le key p q:=by
 by_cases e:i=j
 ·subst e
  rw[hi] at hj
  cases hj
  exact sO _
 ·obtain ⟨h1,e1⟩:=qI.mp hi
  obtain ⟨h2,e2⟩:=qI.mp hj
  have:=vv.mp h i j h1 h2 (by lia)
  rw[e1,e2] at this
  exact this
theorem aJ {l:List qJ}{i:Nat}{t:qJ}(h:t∈l.drop i):∃j,i<=j/\l[j]? = some t:=by
 obtain ⟨n,e⟩:=rJ.mp h
 rw[uz] at e
 exact ⟨i+n,by lia,e⟩
theorem eC {l:List qJ}{i k:Nat}{t:qJ}(h:t∈(l.drop i).take k):∃j,j<k/\l[i+j]? = some t:=by
 obtain ⟨n,e⟩:=rJ.mp h
 rw[td] at e
 split at e
 ·rw[uz] at e
  exact ⟨n,by omega,e⟩
 ·cases e
theorem MW.kP {a b o:Array qJ}{x y k:Nat}(m:MW key a b o x y)(hk:x+k<=a.size)(ha:a.toList.Pairwise (Le key))(hb:∀j p,j<k->a.toList[x+j]? = some p->∀t∈b.toList.drop y,Le key p t):MW key a b (o++a.extract x (x+k)) (x+k) y:=by
 refine m.take (t:=(a.toList.drop x).take k) (by rw[q9,ext_toList]) hk m.hy ?_ ?_ λp hp t ht =>?_
 ·rw[<- rC, <- drop_take]
 ·exact ha.sublist ((r9 _ _).trans (rQ _ _))
 ·obtain ⟨j,hj,e⟩:=eC hp
  rcases qH.mp ht with q | q
  ·obtain ⟨i,hi,e2⟩:=aJ q
   exact ay ha e e2 (by lia)
  ·exact hb j p hj e t q
theorem MW.kQ {a b o:Array qJ}{x y k:Nat}(m:MW key a b o x y)(hk:y+k<=b.size)(hb:b.toList.Pairwise (Le key))(ha:∀j p,j<k->b.toList[y+j]? = some p->∀t∈a.toList.drop x,Le key p t):MW key a b (o++b.extract y (y+k)) x (y+k):=by
 refine m.take (t:=(b.toList.drop y).take k) (by rw[q9,ext_toList]) m.hx hk ?_ ?_ λp hp t ht =>?_
 ·rw[drop_take b.toList y k]
  have e:((b.toList.drop y).take k++b.toList.drop (y+k)).take k=(b.toList.drop y).take k:=by rw[<- drop_take]
  rw[e]
  refine (List.perm_append_comm_assoc _ _ _)
 ·exact hb.sublist ((r9 _ _).trans (rQ _ _))
 ·obtain ⟨j,hj,e⟩:=eC hp
  rcases qH.mp ht with q | q
  ·exact ha j p hj e t q
  ·obtain ⟨i,hi,e2⟩:=aJ q
   exact ay hb e e2 (by lia)
theorem MW.jT {a b o:Array qJ}{x y:Nat}(m:MW key a b o x y)(ha:a.toList.Pairwise (Le key))(hy:y=b.size):bW key a b (o++a.extract x a.size++b.extract y b.size):=by
 subst hy
 have e:b.toList.drop b.size=[]:=v3 (by rw[qF];exact qz _)
 refine m.fin (t:=a.toList.drop x) (by rw[q9,q9,cQ,cQ,e,rW]) (by rw[e,rW]) (ha.sublist (rQ _ _))
theorem MW.jU {a b o:Array qJ}{x y:Nat}(m:MW key a b o x y)(hb:b.toList.Pairwise (Le key))(hx:x=a.size):bW key a b (o++a.extract x a.size++b.extract y b.size):=by
 subst hx
 have e:a.toList.drop a.size=[]:=v3 (by rw[qF];exact qz _)
 refine m.fin (t:=b.toList.drop y) (by rw[q9,q9,cQ,cQ,e,rW]) (by rw[e,uA]) (hb.sublist (rQ _ _))
theorem MW.last {a b o:Array qJ}{x y:Nat}(m:MW key a b o x y)(ha:a.toList.Pairwise (Le key))(hb:b.toList.Pairwise (Le key))(hx:x+1=a.size)(hl:∀p q,p∈b.toList->a[a.size-1]? = some q->Le key p q):bW key a b (o++b.extract y b.size++a.extract x a.size):=by
 refine m.fin (t:=b.toList.drop y++a.toList.drop x) (by rw[q9,q9,cQ,cQ,rC]) tI ?_
 refine si.mpr ⟨hb.sublist (rQ _ _),ha.sublist (rQ _ _),λp hp q hq=>hl p q (sP hp) ?_⟩
 obtain ⟨i,hi,e⟩:=aJ hq
 rw[qL] at e
 have hi2:i<a.size:=(sQ.mp e).1
 rw[show a.size-1=i by lia]
 exact e
theorem MW.size {a b o:Array qJ}{x y:Nat}(m:MW key a b o x y):o.size+(a.size-x)+(b.size-y)=a.size+b.size:=by
 have e:=m.perm.length_eq
 simp only[qC,rY,qF] at e
 lia
end
structure Sm (st st':qY):Prop where
 k:kindOf st'=kindOf st
 a:qN st'=qN st
 p:qU st'=qU st
 f:failedOf st'=failedOf st
theorem Sm.refl (st:qY):Sm st st:=⟨rfl,rfl,rfl,rfl⟩
theorem Sm.mg {st st':qY}(h:Sm st st')(n:Nat):Sm st (SortSt.mk' (kindOf st') (qN st') (qU st') n (failedOf st')):=⟨h.k,h.a,h.p,h.f⟩
open PySem PyProof.Rows
section
variable  {prog:qX}{w:rO}{A:r6}{E:qw->qy->Prop}{s:qy}{O:vG}{key:qJ->O.α}{U:qJ->Prop}{κ:SortKind}
theorem aP {a:Array qJ}{i:Nat}(h:i<a.size):∃z,a[i]? = some z:=⟨a[i],by simp[h]⟩
theorem aZ {a:Array qJ}{i:Nat}{z:qJ}(h:a[i]? = some z):z∈a.toList:=rJ.mpr ⟨i,by rw[qL];exact h⟩
theorem ltq {x n:Nat}(h:x<=n)(c:¬ (x == n)=true):x<n:=wR h λz=>c (beq_iff_eq.mpr z)
abbrev LoC:=Option (Array qJ)×Array qJ×Nat×Nat×Nat×Nat×Nat
def mD (a b o:Array qJ)(x y mg ac bc:Nat):StateT qY Sem (ForInStep LoC):=do
  let z ← elem' a x
  if (x+1+1 == a.size)=true then pure (.done (some (o.push z++b.extract y b.size++a.extract (x+1) a.size),o.push z,x+1,y,mg,ac,bc))
  else if (decide (ac<7) && decide (bc<7))=true then pure (.done (none,o.push z,x+1,y,mg,ac,bc))
  else pure (.yield (none,o.push z,x+1,y,mg,ac,bc))
def mE (a b o:Array qJ)(x y mg ac bc:Nat):StateT qY Sem (ForInStep LoC):=do
  let z ← elem' b y
  if (y+1 == b.size)=true then pure (.done (some (o.push z++a.extract x a.size++b.extract (y+1) b.size),o.push z,x,y+1,mg,ac,bc))
  else do
    let z2 ← elem' a x
    let __x ← gal true z2 b (y+1) (b.size-(y+1)) 0
    match __x with
    | some k =>
      if k>0 then
        if (y+1+k == b.size)=true then pure (.done (some (o.push z++b.extract (y+1) (y+1+k)++a.extract x a.size++b.extract (y+1+k) b.size),o.push z++b.extract (y+1) (y+1+k),x,y+1+k,mg,ac,k))
        else mD a b (o.push z++b.extract (y+1) (y+1+k)) x (y+1+k) mg ac k
      else mD a b (o.push z) x (y+1) mg ac k
    | _=>pure (.done (some (o.push z++a.extract x a.size++b.extract (y+1) b.size),o.push z,x,y+1,mg,ac,bc))
def jV (a b p:Array qJ)(x y ac bc mg:Nat):StateT qY Sem (ForInStep LoC):=do
  modify (λs=>SortSt.mk' (kindOf s) (qN s) (qU s) mg (failedOf s))
  let z ← elem' b y
  let __x ← gal false z a x (a.size-x) 0
  match __x with
  | some k =>
    if k>0 then
      if (x+k+1 == a.size)=true then pure (.done (some (p++a.extract x (x+k)++b.extract y b.size++a.extract (x+k) a.size),p++a.extract x (x+k),x+k,y,mg,k,bc))
      else if (x+k == a.size)=true then pure (.done (some (p++a.extract x (x+k)++a.extract (x+k) a.size++b.extract y b.size),p++a.extract x (x+k),x+k,y,mg,k,bc))
      else mE a b (p++a.extract x (x+k)) (x+k) y mg k bc
    else mE a b p x y mg k bc
  | _=>pure (.done (some (p++a.extract x a.size++b.extract y b.size),p,x,y,mg,ac,bc))
def LoQ (key:qJ->O.α)(a b:Array qJ)(st:qY)(n:Nat)(r:ForInStep LoC)(st':qY):Prop:=match r with
 | .done c=>Sm st st'/\((∃r p x y mg ac bc,c=(some r,p,x,y,mg,ac,bc)/\bW key a b r)\/∃p x y mg ac bc,c=(none,p,x,y,mg,ac,bc)/\MW key a b p x y/\x+1<a.size/\y<b.size/\n<=p.size)
 | .yield c=>Sm st st'/\∃p x y mg ac bc,c=(none,p,x,y,mg,ac,bc)/\MW key a b p x y/\x+1<a.size/\y<b.size/\n<=p.size
theorem LoQ.out {a b:Array qJ}{st st':qY}{n:Nat}{r:Array qJ}{c:Array qJ×Nat×Nat×Nat×Nat×Nat}(sm:Sm st st')(f:bW key a b r):LoQ key a b st n (.done (some r,c)) st':=by
 obtain ⟨p,x,y,mg,ac,bc⟩:=c
 exact ⟨sm,.inl ⟨_,_,_,_,_,_,_,rfl,f⟩⟩
theorem ja {a b:Array qJ}{st st':qY}(ha:a.toList.Pairwise (Le key))(hb:b.toList.Pairwise (Le key))(hl:∀p q,p∈b.toList->a[a.size-1]? = some q->Le key p q)
  {o:Array qJ} {x y mg ac bc n:Nat} {za:qJ} (sm:Sm st st') (ea:a[x]? = some za) (m4:MW key a b (o.push za) (x+1) y) (hx:x+1<a.size) (hy:y<b.size) (hn:n<=o.size):wpS (rD prog w) A E s (mD a b o x y mg ac bc) (LoQ key a b st n) st':=by
 unfold mD
 refine qG (aK ea ?_)
 by_cases d5:(x+1+1 == a.size)=true
 ·rw[if_pos d5]
  exact qK (LoQ.out sm (m4.last ha hb (beq_iff_eq.mp d5) hl))
 rw[if_neg d5]
 have hx2:x+1+1<a.size:=ltq hx d5
 have hn':n<=(o.push za).size:=by rw[t8];exact uf hn
 split
 ·exact qK ⟨sm,.inr ⟨_,_,_,_,_,_,rfl,m4,hx2,hy,hn'⟩⟩
 ·exact qK ⟨sm,_,_,_,_,_,_,rfl,m4,hx2,hy,hn'⟩
theorem jb (C:Cmp prog w A s O key U κ){a b:Array qJ}{st st':qY}(hκ:kindOf st=κ)(ua:∀p∈a.toList,U p)(ub:∀p∈b.toList,U p)
  (ha:a.toList.Pairwise (Le key)) (hb:b.toList.Pairwise (Le key)) (hl:∀p q,p∈b.toList->a[a.size-1]? = some q->Le key p q)
  {o:Array qJ} {x y mg ac bc n:Nat} {zb:qJ} (sm:Sm st st') (eb:b[y]? = some zb) (mk:MW key a b o x y) (bl:∀t∈a.toList.drop x,Le key zb t) (hx1:x+1<a.size) (hy:y<b.size) (hn:n<=o.size):wpS (rD prog w) A E s (mE a b o x y mg ac bc) (LoQ key a b st n) st':=by
 unfold mE
 refine qG (aK eb ?_)
 have m2:=mk.fO eb hb bl
 by_cases d3:(y+1 == b.size)=true
 ·rw[if_pos d3]
  exact qK (LoQ.out sm (m2.jT ha (beq_iff_eq.mp d3)))
 rw[if_neg d3]
 have hy1:y+1<b.size:=ltq hy d3
 have hxa:x<a.size:=vz hx1
 obtain ⟨za,ea⟩:=aP hxa
 refine qG (aK ea ?_)
 refine qG (oI C (λi=>(b[y+1+i]?).getD za) (sm.k.trans hκ) (ua _ (aZ ea)) (λi hi =>?_) (λi hi =>?_) (λi j hij hj =>?_) (xh hy1) λk1 hk1 g1 g2 =>?_)
 ·obtain ⟨z,e⟩:=aP (show y+1+i<b.size by omega)
  rw[e];rfl
 ·obtain ⟨z,e⟩:=aP (show y+1+i<b.size by omega)
  rw[e];exact ub _ (aZ e)
 ·obtain ⟨z,e⟩:=aP (show y+1+i<b.size by omega)
  obtain ⟨z',e'⟩:=aP (show y+1+j<b.size by omega)
  rw[e,e'];exact ay hb (au e) (au e') (u9 hij _)
 dsimp only at g1 g2 ⊢
 have tb:∀j q,j<k1->b.toList[y+1+j]? = some q->∀t∈a.toList.drop x,Le key q t:=λj q hj e t ht=>by
  have z:=g1 j hj
  rw[qL] at e
  rw[e] at z
  obtain ⟨n,hn,e2⟩:=aJ ht
  exact rj (sh z) (ay ha (au ea) e2 hn)
 have hk1':y+1+k1<=b.size:=by omega
 have m3:=m2.kQ (k:=k1) hk1' hb tb
 have bl2:∀t∈b.toList.drop (y+1+k1),Le key za t:=λt ht=>by
  obtain ⟨n,hn,e2⟩:=aJ ht
  rw[qL] at e2
  have hn2:n<b.size:=(sQ.mp e2).1
  have z:=g2 (n-(y+1)) (by omega) (by omega)
  rw[show y+1+(n-(y+1))=n by omega,e2] at z
  exact z
 have hn1:n<=(o.push zb).size:=by rw[t8];exact uf hn
 by_cases k2:k1>0
 ·rw[if_pos k2]
  by_cases d4:(y+1+k1 == b.size)=true
  ·rw[if_pos d4]
   exact qK (LoQ.out sm (m3.jT ha (beq_iff_eq.mp d4)))
  rw[if_neg d4]
  exact ja ha hb hl sm ea (m3.eB ea ha bl2) hx1 (ltq hk1' d4) (rn hn1 (by rw[ug];exact tU _ _))
 ·rw[if_neg k2]
  obtain rfl:k1=0:=tY k2
  exact ja ha hb hl sm ea (m2.eB ea ha bl2) hx1 hy1 hn1
theorem jf (C:Cmp prog w A s O key U κ){a b:Array qJ}{st st':qY}(hκ:kindOf st=κ)(ua:∀p∈a.toList,U p)(ub:∀p∈b.toList,U p)
  (ha:a.toList.Pairwise (Le key)) (hb:b.toList.Pairwise (Le key)) (hl:∀p q,p∈b.toList->a[a.size-1]? = some q->Le key p q)
  {p:Array qJ} {x y ac bc n:Nat} (mg:Nat) (sm:Sm st st') (m:MW key a b p x y) (hx:x+1<a.size) (hy:y<b.size) (hn:n<=p.size):wpS (rD prog w) A E s (jV a b p x y ac bc mg) (LoQ key a b st n) st':=by
 unfold jV
 obtain ⟨zb,eb⟩:=aP hy
 refine qG (tD ?_)
 refine qG (aK eb ?_)
 refine qG (oH C (λi=>(a[x+i]?).getD zb) ((sm.mg _).k.trans hκ) (ub _ (aZ eb)) (λi hi =>?_) (λi hi =>?_) (λi j hij hj =>?_) (xh (vz hx)) λk hk h1 h2 =>?_)
 ·obtain ⟨z,e⟩:=aP (show x+i<a.size by lia)
  rw[e];rfl
 ·obtain ⟨z,e⟩:=aP (show x+i<a.size by lia)
  rw[e];exact ua _ (aZ e)
 ·obtain ⟨z,e⟩:=aP (show x+i<a.size by lia)
  obtain ⟨z',e'⟩:=aP (show x+j<a.size by lia)
  rw[e,e'];exact ay ha (au e) (au e') (u9 hij _)
 dsimp only at h1 h2 ⊢
 have ta:∀j q,j<k->a.toList[x+j]? = some q->∀t∈b.toList.drop y,Le key q t:=λj q hj e t ht=>by
  have z:=h1 j hj
  rw[qL] at e
  rw[e] at z
  obtain ⟨n,hn,e2⟩:=aJ ht
  exact rj (show O.kle (key q) (key zb) from z) (ay hb (au eb) e2 hn)
 have hk':x+k<=a.size:=by lia
 have mk:=m.kP (k:=k) hk' ha ta
 have bl:∀t∈a.toList.drop (x+k),Le key zb t:=λt ht=>by
  obtain ⟨n,hn,e2⟩:=aJ ht
  rw[qL] at e2
  have hn2:n<a.size:=(sQ.mp e2).1
  have z:=h2 (n-x) (by lia) (by lia)
  rw[show x+(n-x)=n by lia,e2] at z
  exact sh z
 by_cases k0:k>0
 ·rw[if_pos k0]
  by_cases d1:(x+k+1 == a.size)=true
  ·rw[if_pos d1]
   exact qK (LoQ.out (sm.mg _) (mk.last ha hb (beq_iff_eq.mp d1) hl))
  rw[if_neg d1]
  by_cases d2:(x+k == a.size)=true
  ·rw[if_pos d2]
   exact qK (LoQ.out (sm.mg _) (mk.jU hb (beq_iff_eq.mp d2)))
  rw[if_neg d2]
  exact jb C hκ ua ub ha hb hl (sm.mg _) eb mk bl (ltq (ltq hk' d2) d1) hy (rn hn (by rw[ug];exact tU _ _))
 ·rw[if_neg k0]
  obtain rfl:k=0:=tY k0
  exact jb C hκ ua ub ha hb hl (sm.mg _) eb m bl hx hy hn
theorem mF (C:Cmp prog w A s O key U κ){a b:Array qJ}{st st':qY}(hκ:kindOf st=κ)(ua:∀p∈a.toList,U p)(ub:∀p∈b.toList,U p)
  (ha:a.toList.Pairwise (Le key)) (hb:b.toList.Pairwise (Le key)) (hl:∀p q,p∈b.toList->a[a.size-1]? = some q->Le key p q)
  {p:Array qJ} {x y ac bc n mg:Nat} (sm:Sm st st') (m:MW key a b p x y) (hx:x+1<a.size) (hy:y<b.size) (hn:n<=p.size):wpS (rD prog w) A E s (if mg>1 then jV a b p x y ac bc (mg-1) else jV a b p x y ac bc mg) (LoQ key a b st n) st':=by
 split
 ·exact jf C hκ ua ub ha hb hl (mg-1) sm m hx hy hn
 ·exact jf C hκ ua ub ha hb hl mg sm m hx hy hn
abbrev LoD:=Option (Array qJ)×Array qJ×Nat×Nat×Nat×Nat
abbrev LoE:=Option (Array qJ)×Array qJ×Nat×Nat×Nat
def kR (a b:Array qJ)(mg:Nat)(c:LoD):StateT qY Sem (ForInStep LoD):=do
  let u ← elem' b c.2.2.2.1
  let v ← elem' a c.2.2.1
  let __x ← lt' u v
  match __x with
  | some bw =>
    if bw=true then do
      let z ← elem' b c.2.2.2.1
      if (c.2.2.2.1+1 == b.size)=true then pure (.done (some (c.2.1.push z++a.extract c.2.2.1 a.size++b.extract (c.2.2.2.1+1) b.size),c.2.1.push z,c.2.2.1,c.2.2.2.1+1,0,c.2.2.2.2.2+1))
      else if c.2.2.2.2.2+1≥mg then pure (.done (none,c.2.1.push z,c.2.2.1,c.2.2.2.1+1,0,c.2.2.2.2.2+1))
      else pure (.yield (none,c.2.1.push z,c.2.2.1,c.2.2.2.1+1,0,c.2.2.2.2.2+1))
    else do
      let z ← elem' a c.2.2.1
      if (c.2.2.1+1+1 == a.size)=true then pure (.done (some (c.2.1.push z++b.extract c.2.2.2.1 b.size++a.extract (c.2.2.1+1) a.size),c.2.1.push z,c.2.2.1+1,c.2.2.2.1,c.2.2.2.2.1+1,0))
      else if c.2.2.2.2.1+1≥mg then pure (.done (none,c.2.1.push z,c.2.2.1+1,c.2.2.2.1,c.2.2.2.2.1+1,0))
      else pure (.yield (none,c.2.1.push z,c.2.2.1+1,c.2.2.2.1,c.2.2.2.2.1+1,0))
  | _=>pure (.done (some (c.2.1++a.extract c.2.2.1 a.size++b.extract c.2.2.2.1 b.size),c.2.1,c.2.2.1,c.2.2.2.1,c.2.2.2.2.1,c.2.2.2.2.2))
def oJ (a b:Array qJ)(c:LoC):StateT qY Sem (ForInStep LoC) :=
 if c.2.2.2.2.1>1 then jV a b c.2.1 c.2.2.1 c.2.2.2.1 c.2.2.2.2.2.1 c.2.2.2.2.2.2 (c.2.2.2.2.1-1) else jV a b c.2.1 c.2.2.1 c.2.2.2.1 c.2.2.2.2.2.1 c.2.2.2.2.2.2 c.2.2.2.2.1
def iK (a b:Array qJ)(c:LoE):StateT qY Sem (ForInStep LoE):=do
  let d ← forIn [0:a.size+b.size] ((none,c.2.1,c.2.2.1,c.2.2.2.1,0,0):LoD) λ_ d=>kR a b c.2.2.2.2 d
  match d.1 with
  | some r=>pure (.done (some r,d.2.1,d.2.2.1,d.2.2.2.1,c.2.2.2.2))
  | none=>do
    rule "list.sort.gallop"
    let e ← forIn [0:a.size+b.size] ((none,d.2.1,d.2.2.1,d.2.2.2.1,c.2.2.2.2+1,d.2.2.2.2.1,d.2.2.2.2.2):LoC) λ_ e=>oJ a b e
    match e.1 with
    | some r=>pure (.done (some r,e.2.1,e.2.2.1,e.2.2.2.1,e.2.2.2.2.1))
    | none=>do
      modify (λs=>SortSt.mk' (kindOf s) (qN s) (qU s) (e.2.2.2.2.1+1) (failedOf s))
      pure (.yield (none,e.2.1,e.2.2.1,e.2.2.2.1,e.2.2.2.2.1+1))
theorem mG (a b:Array qJ):mLo a b=(do
    rule "list.sort.merge-lo"
    let z ← elem' b 0
    if (1 == b.size)=true then pure (#[z]++a.extract 0 a.size++b.extract 1 b.size)
    else if (0+1 == a.size)=true then pure (#[z]++b.extract 1 b.size++a.extract 0 a.size)
    else do
      let g ← get
      let c ← forIn [0:a.size+b.size] ((none, #[z],0,1,gallopOf g):LoE) λ_ c=>iK a b c
      match c.1 with
      | some r=>pure r
      | none=>unsupported "internal:list.sort.merge-bound"):=by
  kernel_rfl
def LdI (key:qJ->O.α)(a b:Array qJ)(st:qY)(n:Nat)(c:LoD)(st':qY):Prop:=Sm st st'/\∃o' x y ac bc,c=(none,o',x,y,ac,bc)/\MW key a b o' x y/\x+1<a.size/\y<b.size/\n<=o'.size
def LdQ (key:qJ->O.α)(a b:Array qJ)(st:qY)(n:Nat)(c:LoD)(st':qY):Prop:=Sm st st'/\((∃r o x y ac bc,c=(some r,o,x,y,ac,bc)/\bW key a b r)\/∃o' x y ac bc,c=(none,o',x,y,ac,bc)/\MW key a b o' x y/\x+1<a.size/\y<b.size/\n<=o'.size)
theorem kT (C:Cmp prog w A s O key U κ){a b:Array qJ}{st st':qY}(hκ:kindOf st=κ)(ua:∀p∈a.toList,U p)(ub:∀p∈b.toList,U p)
  (ha:a.toList.Pairwise (Le key)) (hb:b.toList.Pairwise (Le key)) (hl:∀p q,p∈b.toList->a[a.size-1]? = some q->Le key p q)
  {mg n m':Nat} {c:LoD} (I:LdI key a b st n c st') (hm:m'<=n+1) {Q:ForInStep LoD->qY->Prop} (h:∀r st',(match r with | .done c'=>LdQ key a b st (n+1) c' st' | .yield c'=>LdI key a b st m' c' st')->Q r st'):wpS (rD prog w) A E s (kR a b mg c) Q st':=by
 obtain ⟨sm2,o',x,y,ac,bc,rfl,m,hx,hy,hz⟩:=I
 unfold kR
 obtain ⟨za,ea⟩:=aP (vz hx)
 obtain ⟨zb,eb⟩:=aP hy
 refine qG (aK eb (qG (aK ea (qG (C.lt _ st' zb za _ (sm2.k.trans hκ) (ub _ (aZ eb)) (ua _ (aZ ea)) ?_)))))
 dsimp only
 have sz:∀z,n+1<=(o'.push z).size:=λz=>by rw[t8];exact xx hz
 cases hlt:O.blt (key zb) (key za) with
 | true =>
  rw[if_pos rfl]
  refine qG (aK eb ?_)
  have m1:=m.fO eb hb λt ht=>by
   obtain ⟨n,hn,e⟩:=aJ ht
   exact rj (sh hlt) (ay ha (au ea) e hn)
  by_cases c3:(y+1 == b.size)=true
  ·rw[if_pos c3]
   exact qK (h _ _ ⟨sm2,.inl ⟨_,_,_,_,_,_,rfl,m1.jT ha (beq_iff_eq.mp c3)⟩⟩)
  ·rw[if_neg c3]
   have c3':=ltq hy c3
   split
   ·exact qK (h _ _ ⟨sm2,.inr ⟨_,_,_,_,_,rfl,m1,hx,c3',sz _⟩⟩)
   ·exact qK (h _ _ ⟨sm2,_,_,_,_,_,rfl,m1,hx,c3',rn hm (sz _)⟩)
 | false =>
  rw[if_neg qO]
  refine qG (aK ea ?_)
  have m1:=m.eB ea ha λt ht=>by
   obtain ⟨n,hn,e⟩:=aJ ht
   exact rj (show O.kle (key za) (key zb) from hlt) (ay hb (au eb) e hn)
  by_cases c3:(x+1+1 == a.size)=true
  ·rw[if_pos c3]
   exact qK (h _ _ ⟨sm2,.inl ⟨_,_,_,_,_,_,rfl,m1.last ha hb (beq_iff_eq.mp c3) hl⟩⟩)
  ·rw[if_neg c3]
   have c3':=ltq hx c3
   split
   ·exact qK (h _ _ ⟨sm2,.inr ⟨_,_,_,_,_,rfl,m1,c3',hy,sz _⟩⟩)
   ·exact qK (h _ _ ⟨sm2,_,_,_,_,_,rfl,m1,c3',hy,rn hm (sz _)⟩)
def LeI (key:qJ->O.α)(a b:Array qJ)(st:qY)(n:Nat)(c:LoE)(st':qY):Prop:=Sm st st'/\∃o x y mg,c=(none,o,x,y,mg)/\MW key a b o x y/\x+1<a.size/\y<b.size/\n+1<=o.size
def LeQ (key:qJ->O.α)(a b:Array qJ)(st:qY)(c:LoE)(st':qY):Prop:=Sm st st'/\((∃r o x y mg,c=(some r,o,x,y,mg)/\bW key a b r)\/∃o x y mg,c=(none,o,x,y,mg)/\MW key a b o x y/\x+1<a.size/\y<b.size/\a.size+b.size+1<=o.size)
theorem jW (C:Cmp prog w A s O key U κ){a b:Array qJ}{st st':qY}(hκ:kindOf st=κ)(ua:∀p∈a.toList,U p)(ub:∀p∈b.toList,U p)
  (ha:a.toList.Pairwise (Le key)) (hb:b.toList.Pairwise (Le key)) (na:0<a.size) (hl:∀p q,p∈b.toList->a[a.size-1]? = some q->Le key p q)
  {n:Nat} {c:LoE} (I:LeI key a b st n c st'):wpS (rD prog w) A E s (iK a b c) (λr st'=>match r with | .done c'=>LeQ key a b st c' st' | .yield c'=>LeI key a b st (n+1) c' st') st':=by
 obtain ⟨sm1,o,x,y,mg,rfl,m,hx,hy,hz⟩:=I
 unfold iK
 have q1:1<=a.size+b.size:=rn na (tU _ _)
 refine qG (sV (rR (I:=λj c st'=>LdI key a b st (o.size+min j 1) c st') (Q:=LdQ key a b st (o.size+1)) (λj c st2 _ hj J=>kT (n:=o.size+min j 1) (m':=o.size+min (j+1) 1) C hκ ua ub ha hb hl J (by lia) λr st' k =>?_) (λc st' J =>?_) ⟨sm1,o,x,y,0,0,rfl,m,hx,hy,qz _⟩) ?_)
 ·cases r with
  | done c'=>exact k.imp id λz=>z.imp id λ⟨o',x,y,ac,bc,e,m,hx,hy,hz⟩=>⟨o',x,y,ac,bc,e,m,hx,hy,by lia⟩
  | yield c'=>exact k
 ·obtain ⟨sm,o',x,y,ac,bc,e,m,hx,hy,hz⟩:=J
  exact ⟨sm,.inr ⟨o',x,y,ac,bc,e,m,hx,hy,by lia⟩⟩
 rintro c st2 ⟨sm2,⟨r,o',x,y,ac,bc,rfl,fr⟩ | ⟨o',x,y,ac,bc,rfl,m,hx,hy,hz2⟩⟩
 ·exact qK ⟨sm2,.inl ⟨_,_,_,_,_,rfl,fr⟩⟩
 dsimp only
 refine qG (wx (uJ ⟨rfl,?_⟩))
 refine qG (sV (rR (I:=λ_ c st'=>LoQ key a b st o'.size (.yield c) st') (Q:=λc st'=>LoQ key a b st o'.size (.done c) st') (λj c st3 _ hj J =>?_) (λc st' J=>⟨J.1,.inr J.2⟩) ⟨sm2,o',x,y,_,ac,bc,rfl,m,hx,hy,qz _⟩) ?_)
 ·obtain ⟨sm3,p,x,y,mg,ac,bc,rfl,m,hx,hy,hz3⟩:=J
  refine sV (mF C hκ ua ub ha hb hl sm3 m hx hy hz3) ?_
  intro r st' h
  cases r <;> exact h
 rintro c st3 ⟨sm3,⟨r,p,x,y,mg,ac,bc,rfl,fr⟩ | ⟨p,x,y,mg,ac,bc,rfl,m,hx,hy,hz3⟩⟩
 ·exact qK ⟨sm3,.inl ⟨_,_,_,_,_,rfl,fr⟩⟩
 ·dsimp only
  exact qG (tD (qK ⟨sm3.mg _,p,x,y,_,rfl,m,hx,hy,by lia⟩))
theorem oK (C:Cmp prog w A s O key U κ){a b:Array qJ}{st:qY}{Q:Array qJ->qY->Prop}(hκ:kindOf st=κ)(ua:∀p∈a.toList,U p)(ub:∀p∈b.toList,U p)
  (ha:a.toList.Pairwise (Le key)) (hb:b.toList.Pairwise (Le key)) (na:0<a.size) (nb:0<b.size) (h0:∀p q,b[0]? = some p->a[0]? = some q->Le key p q) (hl:∀p q,p∈b.toList->a[a.size-1]? = some q->Le key p q)
  (h:∀r st',Sm st st'->bW key a b r->Q r st'):wpS (rD prog w) A E s (mLo a b) Q st:=by
 rw[mG]
 refine qG (wx (uJ ⟨rfl,?_⟩))
 obtain ⟨b0,eb0⟩:=aP nb
 obtain ⟨a0,ea0⟩:=aP na
 have a0le:∀t∈a.toList,Le key a0 t:=λt ht=>by
  obtain ⟨i,e⟩:=rJ.mp ht
  exact ay ha (au ea0) e (sC _)
 have m0:MW key a b #[] 0 0:=⟨sC _,sC _,vt _,List.Pairwise.nil,λp hp=>by cases hp⟩
 have m1:MW key a b #[b0] 0 1:=m0.fO eb0 hb λt ht=>rj (h0 _ _ eb0 ea0) (a0le t ht)
 refine qG (aK eb0 ?_)
 by_cases c1:(1 == b.size)=true
 ·rw[if_pos c1]
  exact qK (h _ st (Sm.refl st) (m1.jT ha (beq_iff_eq.mp c1)))
 rw[if_neg c1]
 by_cases c2:(0+1 == a.size)=true
 ·rw[if_pos c2]
  exact qK (h _ st (Sm.refl st) (m1.last ha hb (beq_iff_eq.mp c2) hl))
 rw[if_neg c2]
 refine qG (vQ ?_)
 refine qG (sV (rR (I:=λi c st'=>LeI key a b st i c st') (Q:=LeQ key a b st) (λi c st1 _ _ J=>sV (jW C hκ ua ub ha hb na hl J) λr st' h=>by cases r <;> exact h) (λc st' J =>?_) ⟨Sm.refl st,_,_,_,_,rfl,m1,ltq na c2,ltq nb c1,qz _⟩) ?_)
 ·obtain ⟨sm,o,x,y,mg,e,m,hx,hy,hz⟩:=J
  exact ⟨sm,.inr ⟨o,x,y,mg,e,m,hx,hy,by lia⟩⟩
 rintro c st' ⟨sm,⟨r,o,x,y,mg,rfl,fr⟩ | ⟨o,x,y,mg,rfl,m,hx,hy,hz⟩⟩
 ·exact qK (h r st' sm fr)
 ·have:=m.size
  lia
end
open PySem PyProof.Rows
section
variable  {O:vG}(key:qJ->O.α)
structure MV (a b o:Array qJ)(x y:Nat):Prop where
 hx:x<=a.size
 hy:y<=b.size
 perm:((a.toList.take x++b.toList.take y)++o.toList.reverse).Perm (a.toList++b.toList)
 sorted:o.toList.reverse.Pairwise (Le key)
 above:∀p∈a.toList.take x++b.toList.take y,∀q∈o.toList.reverse,Le key p q
variable  {key}
theorem MV.fin {a b o:Array qJ}{x y:Nat}(m:MV key a b o x y){t:List qJ}{r:Array qJ}(hr:r.toList=t++o.toList.reverse)(ht:t.Perm (a.toList.take x++b.toList.take y))(hs:t.Pairwise (Le key)):bW key a b r:=by
 unfold bW
 rw[hr]
 exact ⟨(tF _ ht).trans m.perm,si.mpr ⟨hs,m.sorted,λp hp q hq=>m.above p (ht.mem_iff.mp hp) q hq⟩⟩
theorem MV.take {a b o:Array qJ}{x y x' y':Nat}(m:MV key a b o x y){t:List qJ}{r:Array qJ}(hr:r.toList.reverse=t++o.toList.reverse)(hx:x'<=a.size)(hy:y'<=b.size)
  (ht:((a.toList.take x'++b.toList.take y')++t).Perm (a.toList.take x++b.toList.take y)) (hs:t.Pairwise (Le key)) (hb:∀p∈a.toList.take x'++b.toList.take y',∀q∈t,Le key p q):MV key a b r x' y':=by
 have sub:∀z,z∈a.toList.take x'++b.toList.take y'\/z∈t->z∈a.toList.take x++b.toList.take y:=λz hz=>ht.mem_iff.mp (qH.mpr hz)
 refine ⟨hx,hy,?_,?_,?_⟩
 ·rw[hr, <- rC]
  exact (tF _ ht).trans m.perm
 ·rw[hr]
  exact si.mpr ⟨hs,m.sorted,λp hp q hq=>m.above p (sub p (.inr hp)) q hq⟩
 ·rw[hr]
  intro p hp z hz
  rcases qH.mp hz with h | h
  ·exact hb p hp z h
  ·exact m.above p (sub p (.inl hp)) z h
theorem aQ {l:List qJ}{k:Nat}{t:qJ}(h:t∈l.take k):∃j,j<k/\l[j]? = some t:=by
 obtain ⟨n,e⟩:=rJ.mp h
 rw[td] at e
 split at e
 ·exact ⟨n,by omega,e⟩
 ·cases e
theorem fP {l:List qJ}{x:Nat}{z:qJ}(hx:1<=x)(h:l[x-1]? = some z):l.take x=l.take (x-1)++[z]:=by
 obtain ⟨n,rfl⟩:∃n,x=n+1:=⟨x-1,by lia⟩
 rw[Nat.add_sub_cancel] at h ⊢
 rw[sR,h]
 rfl
theorem jg (a:Array qJ)(c x:Nat)(hx:x<=a.size):(a.extract c x).toList=(a.toList.take x).drop c:=by
 rw[sH,rN,List.drop_take]
theorem cR (a:Array qJ)(x:Nat):(a.extract 0 x).toList=a.toList.take x:=by
 rw[sH,rN,uM,xr]
theorem MV.eB {a b o:Array qJ}{x y:Nat}{z:qJ}(m:MV key a b o x y)(h1:1<=x)(h:a[x-1]? = some z)(ha:a.toList.Pairwise (Le key))(hb:∀t∈b.toList.take y,Le key t z):MV key a b (o.push z) (x-1) y:=by
 have e:=fP h1 (au h)
 refine m.take (t:=[z]) (by rw[tw,uw];rfl) (by have:=m.hx;lia) m.hy ?_ (tj _ _) λp hp q hq =>?_
 ·rw[e,rC,rC]
  exact sZ _ tI
 ·have eq:q=z:=by simpa using hq
  subst eq
  rcases qH.mp hp with r | r
  ·obtain ⟨j,hj,e2⟩:=aQ r
   exact ay ha e2 (au h) (by lia)
  ·exact hb p r
theorem MV.fO {a b o:Array qJ}{x y:Nat}{z:qJ}(m:MV key a b o x y)(h1:1<=y)(h:b[y-1]? = some z)(hb:b.toList.Pairwise (Le key))(ha:∀t∈a.toList.take x,Le key t z):MV key a b (o.push z) x (y-1):=by
 have e:=fP h1 (au h)
 refine m.take (t:=[z]) (by rw[tw,uw];rfl) m.hx (by have:=m.hy;lia) ?_ (tj _ _) λp hp q hq =>?_
 ·rw[e,rC]
 ·have eq:q=z:=by simpa using hq
  subst eq
  rcases qH.mp hp with r | r
  ·exact ha p r
  ·obtain ⟨j,hj,e2⟩:=aQ r
   exact ay hb e2 (au h) (by lia)
theorem jh (l:List qJ){c x:Nat}(h:c<=x):l.take x=l.take c++(l.take x).drop c:=by
 have e:(l.take x).take c=l.take c:=by rw[List.take_take,Nat.min_eq_left h]
 rw[<- e,tG]
theorem e6 {l:List qJ}{c x:Nat}{t:qJ}(h:t∈(l.take x).drop c):∃j,c<=j/\j<x/\l[j]? = some t:=by
 obtain ⟨j,hj,e⟩:=aJ h
 rw[td] at e
 split at e
 ·exact ⟨j,hj,by omega,e⟩
 ·cases e
theorem MV.kP {a b o:Array qJ}{x y c:Nat}(m:MV key a b o x y)(hc:c<=x)(ha:a.toList.Pairwise (Le key))(hb:∀j p,c<=j->j<x->a.toList[j]? = some p->∀t∈b.toList.take y,Le key t p):MV key a b (o++(a.extract c x).reverse) c y:=by
 refine m.take (t:=(a.toList.take x).drop c) (by rw[q9,uw,tK,wA,jg _ _ _ m.hx]) (rn hc m.hx) m.hy ?_ ?_ λp hp q hq =>?_
 ·refine List.Perm.trans ?_ (tF _ (List.Perm.of_eq (jh a.toList hc).symm))
  rw[rC,rC]
  exact sZ _ tI
 ·exact ha.sublist ((rQ _ _).trans (r9 _ _))
 ·obtain ⟨j,h1,h2,e⟩:=e6 hq
  rcases qH.mp hp with r | r
  ·obtain ⟨i,hi,e2⟩:=aQ r
   exact ay ha e2 e (by lia)
  ·exact hb j q h1 h2 e p r
theorem MV.kQ {a b o:Array qJ}{x y c:Nat}(m:MV key a b o x y)(hc:c<=y)(hb:b.toList.Pairwise (Le key))(ha:∀j p,c<=j->j<y->b.toList[j]? = some p->∀t∈a.toList.take x,Le key t p):MV key a b (o++(b.extract c y).reverse) x c:=by
 refine m.take (t:=(b.toList.take y).drop c) (by rw[q9,uw,tK,wA,jg _ _ _ m.hy]) m.hx (rn hc m.hy) ?_ ?_ λp hp q hq =>?_
 ·rw[rC, <- jh b.toList hc]
 ·exact hb.sublist ((rQ _ _).trans (r9 _ _))
 ·obtain ⟨j,h1,h2,e⟩:=e6 hq
  rcases qH.mp hp with r | r
  ·exact ha j q h1 h2 e p r
  ·obtain ⟨i,hi,e2⟩:=aQ r
   exact ay hb e2 e (by lia)
theorem MV.jU {a b o:Array qJ}{x y:Nat}(m:MV key a b o x y)(hb:b.toList.Pairwise (Le key))(hx:x=0):bW key a b (a.extract 0 x++b.extract 0 y++o.reverse):=by
 subst hx
 refine m.fin (t:=b.toList.take y) (by rw[q9,q9,cR,cR,tK,vw,uA]) (by rw[vw,uA]) (hb.sublist (r9 _ _))
theorem MV.jT {a b o:Array qJ}{x y:Nat}(m:MV key a b o x y)(ha:a.toList.Pairwise (Le key))(hy:y=0):bW key a b (a.extract 0 x++b.extract 0 y++o.reverse):=by
 subst hy
 refine m.fin (t:=a.toList.take x) (by rw[q9,q9,cR,cR,tK,vw,rW]) (by rw[vw,rW]) (ha.sublist (r9 _ _))
theorem MV.first {a b o:Array qJ}{x y:Nat}(m:MV key a b o x y)(ha:a.toList.Pairwise (Le key))(hb:b.toList.Pairwise (Le key))(hy:y=1)(hl:∀p q,b[0]? = some p->q∈a.toList->Le key p q):bW key a b (b.extract 0 y++a.extract 0 x++o.reverse):=by
 refine m.fin (t:=b.toList.take y++a.toList.take x) (by rw[q9,q9,cR,cR,tK]) tI ?_
 refine si.mpr ⟨hb.sublist (r9 _ _),ha.sublist (r9 _ _),λp hp q hq=>hl p q ?_ (sI hq)⟩
 obtain ⟨i,hi,e⟩:=aQ hp
 rw[qL] at e
 rw[show i=0 by lia] at e
 exact e
theorem MV.size {a b o:Array qJ}{x y:Nat}(m:MV key a b o x y):o.size+x+y=a.size+b.size:=by
 have e:=m.perm.length_eq
 have h1:=m.hx
 have h2:=m.hy
 simp only[qC,rX,qF,List.length_reverse] at e
 lia
end
open PySem PyProof.Rows
section
variable  {prog:qX}{w:rO}{A:r6}{E:qw->qy->Prop}{s:qy}{O:vG}{key:qJ->O.α}{U:qJ->Prop}{κ:SortKind}
abbrev HiC:=Option (Array qJ)×Nat×Nat×Array qJ×Nat×Nat×Nat
def mH (a b:Array qJ)(x y:Nat)(o:Array qJ)(mg ac bc:Nat):StateT qY Sem (ForInStep HiC):=do
  let z ← elem' a (x-1)
  if (x-1 == 0)=true then pure (.done (some (a.extract 0 (x-1)++b.extract 0 y++(o.push z).reverse),x-1,y,o.push z,mg,ac,bc))
  else if (decide (ac<7) && decide (bc<7))=true then pure (.done (none,x-1,y,o.push z,mg,ac,bc))
  else pure (.yield (none,x-1,y,o.push z,mg,ac,bc))
def mJ (a b:Array qJ)(x y:Nat)(o:Array qJ)(mg ac bc:Nat):StateT qY Sem (ForInStep HiC):=do
  let z ← elem' b (y-1)
  if (y-1 == 1)=true then pure (.done (some (b.extract 0 (y-1)++a.extract 0 x++(o.push z).reverse),x,y-1,o.push z,mg,ac,bc))
  else do
    let z2 ← elem' a (x-1)
    let __x ← gal true z2 b 0 (y-1) (y-1-1)
    match __x with
    | some c =>
      if y-1-c>0 then
        if (c == 1)=true then pure (.done (some (b.extract 0 c++a.extract 0 x++(o.push z++(b.extract c (y-1)).reverse).reverse),x,c,o.push z++(b.extract c (y-1)).reverse,mg,ac,y-1-c))
        else if (c == 0)=true then pure (.done (some (a.extract 0 x++b.extract 0 c++(o.push z++(b.extract c (y-1)).reverse).reverse),x,c,o.push z++(b.extract c (y-1)).reverse,mg,ac,y-1-c))
        else mH a b x c (o.push z++(b.extract c (y-1)).reverse) mg ac (y-1-c)
      else mH a b x (y-1) (o.push z) mg ac (y-1-c)
    | _=>pure (.done (some (a.extract 0 x++b.extract 0 (y-1)++(o.push z).reverse),x,y-1,o.push z,mg,ac,bc))
def jX (a b:Array qJ)(x y:Nat)(p:Array qJ)(ac bc mg:Nat):StateT qY Sem (ForInStep HiC):=do
  modify (λs=>SortSt.mk' (kindOf s) (qN s) (qU s) mg (failedOf s))
  let z ← elem' b (y-1)
  let __x ← gal false z a 0 x (x-1)
  match __x with
  | some c =>
    if x-c>0 then
      if (c == 0)=true then pure (.done (some (a.extract 0 c++b.extract 0 y++(p++(a.extract c x).reverse).reverse),c,y,p++(a.extract c x).reverse,mg,x-c,bc))
      else mJ a b c y (p++(a.extract c x).reverse) mg (x-c) bc
    else mJ a b x y p mg (x-c) bc
  | _=>pure (.done (some (a.extract 0 x++b.extract 0 y++p.reverse),x,y,p,mg,ac,bc))
def HiQ (key:qJ->O.α)(a b:Array qJ)(st:qY)(n:Nat)(r:ForInStep HiC)(st':qY):Prop:=match r with
 | .done c=>Sm st st'/\((∃r x y p mg ac bc,c=(some r,x,y,p,mg,ac,bc)/\bW key a b r)\/∃x y p mg ac bc,c=(none,x,y,p,mg,ac,bc)/\MV key a b p x y/\1<=x/\2<=y/\n<=p.size)
 | .yield c=>Sm st st'/\∃x y p mg ac bc,c=(none,x,y,p,mg,ac,bc)/\MV key a b p x y/\1<=x/\2<=y/\n<=p.size
theorem HiQ.out {a b:Array qJ}{st st':qY}{n:Nat}{r:Array qJ}{c:Nat×Nat×Array qJ×Nat×Nat×Nat}(sm:Sm st st')(f:bW key a b r):HiQ key a b st n (.done (some r,c)) st':=by
 obtain ⟨p,x,y,mg,ac,bc⟩:=c
 exact ⟨sm,.inl ⟨_,_,_,_,_,_,_,rfl,f⟩⟩
theorem kU {x:Nat}(c:¬ (x == 0)=true):1<=x:=Nat.pos_of_ne_zero λz=>c (beq_iff_eq.mpr z)
theorem mK {y:Nat}(h:1<=y)(c:¬ (y == 1)=true):2<=y:=wR h λz=>c (beq_iff_eq.mpr z.symm)
theorem ji {a b:Array qJ}{st st':qY}(hb:b.toList.Pairwise (Le key))
  {o:Array qJ} {x y mg ac bc n:Nat} {za:qJ} (sm:Sm st st') (ea:a[x-1]? = some za) (m4:MV key a b (o.push za) (x-1) y) (hy:2<=y) (hn:n<=o.size):wpS (rD prog w) A E s (mH a b x y o mg ac bc) (HiQ key a b st n) st':=by
 unfold mH
 refine qG (aK ea ?_)
 by_cases d5:(x-1 == 0)=true
 ·rw[if_pos d5]
  exact qK (HiQ.out sm (m4.jU hb (beq_iff_eq.mp d5)))
 rw[if_neg d5]
 have hx2:=kU d5
 have hn':n<=(o.push za).size:=by rw[t8];exact uf hn
 split
 ·exact qK ⟨sm,.inr ⟨_,_,_,_,_,_,rfl,m4,hx2,hy,hn'⟩⟩
 ·exact qK ⟨sm,_,_,_,_,_,_,rfl,m4,hx2,hy,hn'⟩
theorem jj (C:Cmp prog w A s O key U κ){a b:Array qJ}{st st':qY}(hκ:kindOf st=κ)(ua:∀p∈a.toList,U p)(ub:∀p∈b.toList,U p)
  (ha:a.toList.Pairwise (Le key)) (hb:b.toList.Pairwise (Le key)) (h0:∀p q,b[0]? = some p->q∈a.toList->Le key p q)
  {o:Array qJ} {x y mg ac bc n:Nat} {zb:qJ} (sm:Sm st st') (eb:b[y-1]? = some zb) (mk:MV key a b o x y) (bl:∀t∈a.toList.take x,Le key t zb) (hx1:1<=x) (hy:2<=y) (hn:n<=o.size):wpS (rD prog w) A E s (mJ a b x y o mg ac bc) (HiQ key a b st n) st':=by
 unfold mJ
 refine qG (aK eb ?_)
 have m2:=mk.fO (xi hy) eb hb bl
 have y1:1<=y-1:=tf hy
 have bx1:=mk.hx
 have by1:=mk.hy
 by_cases d3:(y-1 == 1)=true
 ·rw[if_pos d3]
  exact qK (HiQ.out sm (m2.first ha hb (beq_iff_eq.mp d3) h0))
 rw[if_neg d3]
 have hy1:=mK y1 d3
 obtain ⟨za,ea⟩:=aP (show x-1<a.size by lia)
 refine qG (aK ea ?_)
 refine qG (oI C (λi=>(b[i]?).getD za) (sm.k.trans hκ) (ua _ (aZ ea)) (λi hi =>?_) (λi hi =>?_) (λi j hij hj =>?_) (uW y1) λc2 hc2 g1 g2 =>?_)
 ·obtain ⟨z,e⟩:=aP (show i<b.size by lia)
  rw[uN,e];rfl
 ·obtain ⟨z,e⟩:=aP (show i<b.size by lia)
  rw[e];exact ub _ (aZ e)
 ·obtain ⟨z,e⟩:=aP (show i<b.size by lia)
  obtain ⟨z',e'⟩:=aP (show j<b.size by lia)
  rw[e,e'];exact ay hb (au e) (au e') hij
 dsimp only at g1 g2 ⊢
 have tb:∀j q,c2<=j->j<y-1->b.toList[j]? = some q->∀t∈a.toList.take x,Le key t q:=λj q hj hj2 e t ht=>by
  have z:=g2 j hj hj2
  rw[qL] at e
  rw[e] at z
  obtain ⟨n,hn,e2⟩:=aQ ht
  exact rj (ay ha e2 (au ea) (tf hn)) z
 have m3:=m2.kQ hc2 hb tb
 have bl2:∀t∈b.toList.take c2,Le key t za:=λt ht=>by
  obtain ⟨n,hn,e2⟩:=aQ ht
  rw[qL] at e2
  have z:=g1 n hn
  rw[e2] at z
  exact sh z
 have hn1:n<=(o.push zb).size:=by rw[t8];exact uf hn
 by_cases k2:y-1-c2>0
 ·rw[if_pos k2]
  by_cases d4:(c2 == 1)=true
  ·rw[if_pos d4]
   exact qK (HiQ.out sm (m3.first ha hb (beq_iff_eq.mp d4) h0))
  rw[if_neg d4]
  by_cases d6:(c2 == 0)=true
  ·rw[if_pos d6]
   exact qK (HiQ.out sm (m3.jT ha (beq_iff_eq.mp d6)))
  rw[if_neg d6]
  exact ji hb sm ea (m3.eB hx1 ea ha bl2) (mK (kU d6) d4) (rn hn1 (by rw[ug];exact tU _ _))
 ·rw[if_neg k2]
  have ec2:c2=y-1:=xE hc2 (we (tY k2))
  rw[ec2] at bl2
  exact ji hb sm ea (m2.eB hx1 ea ha bl2) hy1 hn1
theorem jk (C:Cmp prog w A s O key U κ){a b:Array qJ}{st st':qY}(hκ:kindOf st=κ)(ua:∀p∈a.toList,U p)(ub:∀p∈b.toList,U p)
  (ha:a.toList.Pairwise (Le key)) (hb:b.toList.Pairwise (Le key)) (h0:∀p q,b[0]? = some p->q∈a.toList->Le key p q)
  {p:Array qJ} {x y ac bc n:Nat} (mg:Nat) (sm:Sm st st') (m:MV key a b p x y) (hx:1<=x) (hy:2<=y) (hn:n<=p.size):wpS (rD prog w) A E s (jX a b x y p ac bc mg) (HiQ key a b st n) st':=by
 unfold jX
 have bx:=m.hx
 have by':=m.hy
 obtain ⟨zb,eb⟩:=aP (show y-1<b.size by lia)
 refine qG (tD ?_)
 refine qG (aK eb ?_)
 refine qG (oH C (λi=>(a[i]?).getD zb) ((sm.mg _).k.trans hκ) (ub _ (aZ eb)) (λi hi =>?_) (λi hi =>?_) (λi j hij hj =>?_) (uW hx) λc hc h1 h2 =>?_)
 ·obtain ⟨z,e⟩:=aP (qM hi bx)
  rw[uN,e];rfl
 ·obtain ⟨z,e⟩:=aP (qM hi bx)
  rw[e];exact ua _ (aZ e)
 ·obtain ⟨z,e⟩:=aP (show i<a.size by lia)
  obtain ⟨z',e'⟩:=aP (show j<a.size by lia)
  rw[e,e'];exact ay ha (au e) (au e') hij
 dsimp only at h1 h2 ⊢
 have ta:∀j q,c<=j->j<x->a.toList[j]? = some q->∀t∈b.toList.take y,Le key t q:=λj q hj hj2 e t ht=>by
  have z:=h2 j hj hj2
  rw[qL] at e
  rw[e] at z
  obtain ⟨n,hn,e2⟩:=aQ ht
  exact rj (ay hb e2 (au eb) (tf hn)) (sh z)
 have mk:=m.kP hc ha ta
 have bl:∀t∈a.toList.take c,Le key t zb:=λt ht=>by
  obtain ⟨n,hn,e2⟩:=aQ ht
  rw[qL] at e2
  have z:=h1 n hn
  rw[e2] at z
  exact z
 by_cases k0:x-c>0
 ·rw[if_pos k0]
  by_cases d1:(c == 0)=true
  ·rw[if_pos d1]
   exact qK (HiQ.out (sm.mg _) (mk.jU hb (beq_iff_eq.mp d1)))
  rw[if_neg d1]
  exact jj C hκ ua ub ha hb h0 (sm.mg _) eb mk bl (kU d1) hy (rn hn (by rw[ug];exact tU _ _))
 ·rw[if_neg k0]
  have ec:c=x:=xE hc (we (tY k0))
  rw[ec] at bl
  exact jj C hκ ua ub ha hb h0 (sm.mg _) eb m bl hx hy hn
theorem mL (C:Cmp prog w A s O key U κ){a b:Array qJ}{st st':qY}(hκ:kindOf st=κ)(ua:∀p∈a.toList,U p)(ub:∀p∈b.toList,U p)
  (ha:a.toList.Pairwise (Le key)) (hb:b.toList.Pairwise (Le key)) (h0:∀p q,b[0]? = some p->q∈a.toList->Le key p q)
  {p:Array qJ} {x y ac bc n mg:Nat} (sm:Sm st st') (m:MV key a b p x y) (hx:1<=x) (hy:2<=y) (hn:n<=p.size):wpS (rD prog w) A E s (if mg>1 then jX a b x y p ac bc (mg-1) else jX a b x y p ac bc mg) (HiQ key a b st n) st':=by
 split
 ·exact jk C hκ ua ub ha hb h0 (mg-1) sm m hx hy hn
 ·exact jk C hκ ua ub ha hb h0 mg sm m hx hy hn
abbrev HiD:=Option (Array qJ)×Nat×Nat×Array qJ×Nat×Nat
abbrev HiE:=Option (Array qJ)×Nat×Nat×Array qJ×Nat
def kW (a b:Array qJ)(mg:Nat)(c:HiD):StateT qY Sem (ForInStep HiD):=do
  let u ← elem' b (c.2.2.1-1)
  let v ← elem' a (c.2.1-1)
  let __x ← lt' u v
  match __x with
  | some aw =>
    if aw=true then do
      let z ← elem' a (c.2.1-1)
      if (c.2.1-1 == 0)=true then pure (.done (some (a.extract 0 (c.2.1-1)++b.extract 0 c.2.2.1++(c.2.2.2.1.push z).reverse),c.2.1-1,c.2.2.1,c.2.2.2.1.push z,c.2.2.2.2.1+1,0))
      else if c.2.2.2.2.1+1≥mg then pure (.done (none,c.2.1-1,c.2.2.1,c.2.2.2.1.push z,c.2.2.2.2.1+1,0))
      else pure (.yield (none,c.2.1-1,c.2.2.1,c.2.2.2.1.push z,c.2.2.2.2.1+1,0))
    else do
      let z ← elem' b (c.2.2.1-1)
      if (c.2.2.1-1 == 1)=true then pure (.done (some (b.extract 0 (c.2.2.1-1)++a.extract 0 c.2.1++(c.2.2.2.1.push z).reverse),c.2.1,c.2.2.1-1,c.2.2.2.1.push z,0,c.2.2.2.2.2+1))
      else if c.2.2.2.2.2+1≥mg then pure (.done (none,c.2.1,c.2.2.1-1,c.2.2.2.1.push z,0,c.2.2.2.2.2+1))
      else pure (.yield (none,c.2.1,c.2.2.1-1,c.2.2.2.1.push z,0,c.2.2.2.2.2+1))
  | _=>pure (.done (some (a.extract 0 c.2.1++b.extract 0 c.2.2.1++c.2.2.2.1.reverse),c.2.1,c.2.2.1,c.2.2.2.1,c.2.2.2.2.1,c.2.2.2.2.2))
def oM (a b:Array qJ)(c:HiC):StateT qY Sem (ForInStep HiC) :=
 if c.2.2.2.2.1>1 then jX a b c.2.1 c.2.2.1 c.2.2.2.1 c.2.2.2.2.2.1 c.2.2.2.2.2.2 (c.2.2.2.2.1-1) else jX a b c.2.1 c.2.2.1 c.2.2.2.1 c.2.2.2.2.2.1 c.2.2.2.2.2.2 c.2.2.2.2.1
def iL (a b:Array qJ)(c:HiE):StateT qY Sem (ForInStep HiE):=do
  let d ← forIn [0:a.size+b.size] ((none,c.2.1,c.2.2.1,c.2.2.2.1,0,0):HiD) λ_ d=>kW a b c.2.2.2.2 d
  match d.1 with
  | some r=>pure (.done (some r,d.2.1,d.2.2.1,d.2.2.2.1,c.2.2.2.2))
  | none=>do
    rule "list.sort.gallop"
    let e ← forIn [0:a.size+b.size] ((none,d.2.1,d.2.2.1,d.2.2.2.1,c.2.2.2.2+1,d.2.2.2.2.1,d.2.2.2.2.2):HiC) λ_ e=>oM a b e
    match e.1 with
    | some r=>pure (.done (some r,e.2.1,e.2.2.1,e.2.2.2.1,e.2.2.2.2.1))
    | none=>do
      modify (λs=>SortSt.mk' (kindOf s) (qN s) (qU s) (e.2.2.2.2.1+1) (failedOf s))
      pure (.yield (none,e.2.1,e.2.2.1,e.2.2.2.1,e.2.2.2.2.1+1))
theorem mM (a b:Array qJ):mHi a b=(do
    rule "list.sort.merge-hi"
    let z ← elem' a (a.size-1)
    if (a.size-1 == 0)=true then pure (a.extract 0 (a.size-1)++b.extract 0 b.size++(#[z]:Array qJ).reverse)
    else if (b.size == 1)=true then pure (b.extract 0 b.size++a.extract 0 (a.size-1)++(#[z]:Array qJ).reverse)
    else do
      let g ← get
      let c ← forIn [0:a.size+b.size] ((none,a.size-1,b.size, #[z],gallopOf g):HiE) λ_ c=>iL a b c
      match c.1 with
      | some r=>pure r
      | none=>unsupported "internal:list.sort.merge-bound"):=by
  kernel_rfl
def HdI (key:qJ->O.α)(a b:Array qJ)(st:qY)(n:Nat)(c:HiD)(st':qY):Prop:=Sm st st'/\∃x y o' ac bc,c=(none,x,y,o',ac,bc)/\MV key a b o' x y/\1<=x/\2<=y/\n<=o'.size
def HdQ (key:qJ->O.α)(a b:Array qJ)(st:qY)(n:Nat)(c:HiD)(st':qY):Prop:=Sm st st'/\((∃r x y o ac bc,c=(some r,x,y,o,ac,bc)/\bW key a b r)\/∃x y o' ac bc,c=(none,x,y,o',ac,bc)/\MV key a b o' x y/\1<=x/\2<=y/\n<=o'.size)
theorem kX (C:Cmp prog w A s O key U κ){a b:Array qJ}{st st':qY}(hκ:kindOf st=κ)(ua:∀p∈a.toList,U p)(ub:∀p∈b.toList,U p)
  (ha:a.toList.Pairwise (Le key)) (hb:b.toList.Pairwise (Le key)) (h0:∀p q,b[0]? = some p->q∈a.toList->Le key p q)
  {mg n m':Nat} {c:HiD} (I:HdI key a b st n c st') (hm:m'<=n+1) {Q:ForInStep HiD->qY->Prop} (h:∀r st',(match r with | .done c'=>HdQ key a b st (n+1) c' st' | .yield c'=>HdI key a b st m' c' st')->Q r st'):wpS (rD prog w) A E s (kW a b mg c) Q st':=by
 obtain ⟨sm2,x,y,o',ac,bc,rfl,m,hx,hy,hz⟩:=I
 unfold kW
 have bx:=m.hx
 have by':=m.hy
 obtain ⟨za,ea⟩:=aP (show x-1<a.size by omega)
 obtain ⟨zb,eb⟩:=aP (show y-1<b.size by omega)
 refine qG (aK eb (qG (aK ea (qG (C.lt _ st' zb za _ (sm2.k.trans hκ) (ub _ (aZ eb)) (ua _ (aZ ea)) ?_)))))
 dsimp only
 have sz:∀z,n+1<=(o'.push z).size:=λz=>by rw[t8];exact xx hz
 cases hlt:O.blt (key zb) (key za) with
 | true =>
  rw[if_pos rfl]
  refine qG (aK ea ?_)
  have m1:=m.eB hx ea ha λt ht=>by
   obtain ⟨n,hn,e⟩:=aQ ht
   exact rj (ay hb e (au eb) (tf hn)) (sh hlt)
  by_cases c3:(x-1 == 0)=true
  ·rw[if_pos c3]
   exact qK (h _ _ ⟨sm2,.inl ⟨_,_,_,_,_,_,rfl,m1.jU hb (beq_iff_eq.mp c3)⟩⟩)
  ·rw[if_neg c3]
   have c3':=kU c3
   split
   ·exact qK (h _ _ ⟨sm2,.inr ⟨_,_,_,_,_,rfl,m1,c3',hy,sz _⟩⟩)
   ·exact qK (h _ _ ⟨sm2,_,_,_,_,_,rfl,m1,c3',hy,rn hm (sz _)⟩)
 | false =>
  rw[if_neg qO]
  refine qG (aK eb ?_)
  have m1:=m.fO (xi hy) eb hb λt ht=>by
   obtain ⟨n,hn,e⟩:=aQ ht
   exact rj (ay ha e (au ea) (tf hn)) (show O.kle (key za) (key zb) from hlt)
  by_cases c3:(y-1 == 1)=true
  ·rw[if_pos c3]
   exact qK (h _ _ ⟨sm2,.inl ⟨_,_,_,_,_,_,rfl,m1.first ha hb (beq_iff_eq.mp c3) h0⟩⟩)
  ·rw[if_neg c3]
   have c3':=mK (tf hy) c3
   split
   ·exact qK (h _ _ ⟨sm2,.inr ⟨_,_,_,_,_,rfl,m1,hx,c3',sz _⟩⟩)
   ·exact qK (h _ _ ⟨sm2,_,_,_,_,_,rfl,m1,hx,c3',rn hm (sz _)⟩)
def HeI (key:qJ->O.α)(a b:Array qJ)(st:qY)(n:Nat)(c:HiE)(st':qY):Prop:=Sm st st'/\∃x y o mg,c=(none,x,y,o,mg)/\MV key a b o x y/\1<=x/\2<=y/\n+1<=o.size
def HeQ (key:qJ->O.α)(a b:Array qJ)(st:qY)(c:HiE)(st':qY):Prop:=Sm st st'/\((∃r x y o mg,c=(some r,x,y,o,mg)/\bW key a b r)\/∃x y o mg,c=(none,x,y,o,mg)/\MV key a b o x y/\1<=x/\2<=y/\a.size+b.size+1<=o.size)
theorem jY (C:Cmp prog w A s O key U κ){a b:Array qJ}{st st':qY}(hκ:kindOf st=κ)(ua:∀p∈a.toList,U p)(ub:∀p∈b.toList,U p)
  (ha:a.toList.Pairwise (Le key)) (hb:b.toList.Pairwise (Le key)) (h0:∀p q,b[0]? = some p->q∈a.toList->Le key p q) (na:0<a.size)
  {n:Nat} {c:HiE} (I:HeI key a b st n c st'):wpS (rD prog w) A E s (iL a b c) (λr st'=>match r with | .done c'=>HeQ key a b st c' st' | .yield c'=>HeI key a b st (n+1) c' st') st':=by
 obtain ⟨sm1,x,y,o,mg,rfl,m,hx,hy,hz⟩:=I
 unfold iL
 have q1:1<=a.size+b.size:=rn na (tU _ _)
 refine qG (sV (rR (I:=λj c st'=>HdI key a b st (o.size+min j 1) c st') (Q:=HdQ key a b st (o.size+1)) (λj c st2 _ hj J=>kX (n:=o.size+min j 1) (m':=o.size+min (j+1) 1) C hκ ua ub ha hb h0 J (by lia) λr st' k =>?_) (λc st' J =>?_) ⟨sm1,x,y,o,0,0,rfl,m,hx,hy,qz _⟩) ?_)
 ·cases r with
  | done c'=>exact k.imp id λz=>z.imp id λ⟨x,y,o',ac,bc,e,m,hx,hy,hz⟩=>⟨x,y,o',ac,bc,e,m,hx,hy,by lia⟩
  | yield c'=>exact k
 ·obtain ⟨sm,x,y,o',ac,bc,e,m,hx,hy,hz⟩:=J
  exact ⟨sm,.inr ⟨x,y,o',ac,bc,e,m,hx,hy,by lia⟩⟩
 rintro c st2 ⟨sm2,⟨r,x,y,o',ac,bc,rfl,fr⟩ | ⟨x,y,o',ac,bc,rfl,m,hx,hy,hz2⟩⟩
 ·exact qK ⟨sm2,.inl ⟨_,_,_,_,_,rfl,fr⟩⟩
 dsimp only
 refine qG (wx (uJ ⟨rfl,?_⟩))
 refine qG (sV (rR (I:=λ_ c st'=>HiQ key a b st o'.size (.yield c) st') (Q:=λc st'=>HiQ key a b st o'.size (.done c) st') (λj c st3 _ hj J =>?_) (λc st' J=>⟨J.1,.inr J.2⟩) ⟨sm2,x,y,o',_,ac,bc,rfl,m,hx,hy,qz _⟩) ?_)
 ·obtain ⟨sm3,x,y,p,mg,ac,bc,rfl,m,hx,hy,hz3⟩:=J
  refine sV (mL C hκ ua ub ha hb h0 sm3 m hx hy hz3) ?_
  intro r st' h
  cases r <;> exact h
 rintro c st3 ⟨sm3,⟨r,x,y,p,mg,ac,bc,rfl,fr⟩ | ⟨x,y,p,mg,ac,bc,rfl,m,hx,hy,hz3⟩⟩
 ·exact qK ⟨sm3,.inl ⟨_,_,_,_,_,rfl,fr⟩⟩
 ·dsimp only
  exact qG (tD (qK ⟨sm3.mg _,x,y,p,_,rfl,m,hx,hy,by lia⟩))
theorem oN (C:Cmp prog w A s O key U κ){a b:Array qJ}{st:qY}{Q:Array qJ->qY->Prop}(hκ:kindOf st=κ)(ua:∀p∈a.toList,U p)(ub:∀p∈b.toList,U p)
  (ha:a.toList.Pairwise (Le key)) (hb:b.toList.Pairwise (Le key)) (na:0<a.size) (nb:0<b.size) (h0:∀p q,b[0]? = some p->q∈a.toList->Le key p q) (hl:∀p q,p∈b.toList->a[a.size-1]? = some q->Le key p q)
  (h:∀r st',Sm st st'->bW key a b r->Q r st'):wpS (rD prog w) A E s (mHi a b) Q st:=by
 rw[mM]
 refine qG (wx (uJ ⟨rfl,?_⟩))
 obtain ⟨a0,ea0⟩:=aP (uW na)
 have m0:MV key a b #[] a.size b.size:=by
  refine ⟨qz _,qz _,?_,List.Pairwise.nil,λp _ q hq=>by cases hq⟩
  rw[rA (by rw[qF];exact qz _),rA (by rw[qF];exact qz _)]
  show (a.toList++b.toList++[]).Perm _
  rw[rW]
 have m1:MV key a b #[a0] (a.size-1) b.size:=m0.eB na ea0 ha λt ht=>hl t a0 (sI ht) ea0
 refine qG (aK ea0 ?_)
 by_cases c1:(a.size-1 == 0)=true
 ·rw[if_pos c1]
  exact qK (h _ st (Sm.refl st) (m1.jU hb (beq_iff_eq.mp c1)))
 rw[if_neg c1]
 by_cases c2:(b.size == 1)=true
 ·rw[if_pos c2]
  exact qK (h _ st (Sm.refl st) (m1.first ha hb (beq_iff_eq.mp c2) h0))
 rw[if_neg c2]
 refine qG (vQ ?_)
 refine qG (sV (rR (I:=λi c st'=>HeI key a b st i c st') (Q:=HeQ key a b st) (λi c st1 _ _ J=>sV (jY C hκ ua ub ha hb h0 na J) λr st' h=>by cases r <;> exact h) (λc st' J =>?_) ⟨Sm.refl st,_,_,_,_,rfl,m1,kU c1,mK nb c2,qz _⟩) ?_)
 ·obtain ⟨sm,x,y,o,mg,e,m,hx,hy,hz⟩:=J
  exact ⟨sm,.inr ⟨x,y,o,mg,e,m,hx,hy,by lia⟩⟩
 rintro c st' ⟨sm,⟨r,x,y,o,mg,rfl,fr⟩ | ⟨x,y,o,mg,rfl,m,hx,hy,hz⟩⟩
 ·exact qK (h r st' sm fr)
 ·have:=m.size
  lia
end
open PySem PyProof.Rows
theorem oO (i:Nat):mAt i=(do
    let s ← get
    let (some (sa,na,pw),some (sb,nb,_)):=((qU s)[i]?,(qU s)[i+1]?) | unsupported "internal:list.sort.pending"
    set (SortSt.mk' (kindOf s) (qN s) (((qU s).setIfInBounds i (sa,na+nb,pw)).eraseIdxIfInBounds (i+1)) (gallopOf s) (failedOf s))
    let some k ← gal false (← elem' (qN s) sb) (qN s) sa na 0 | return false
    let (sa,na):=(sa+k,na-k)
    if na == 0 then return true
    let some nb ← gal true (← elem' (qN s) (sa+na-1)) (qN s) sb nb (nb-1) | return false
    if nb == 0 then return true
    let x:=(qN s).extract sa sb
    let y:=(qN s).extract sb (sb+nb)
    let mm ← if na<=nb then mLo x y else mHi x y
    modify λs=>setArr s (mm.toList.zipIdx.foldl (λa (p,j)=>a.setIfInBounds (sa+j) p) (qN s))
    return (failedOf (← get)).isNone):=rfl
theorem dC {α:Type}(p r:List α)(k:Nat):(p++r).drop (p.length+k)=r.drop k:=by
 rw[<- xS,vx]
theorem iM {α:Type}(p r:List α)(k:Nat):(p++r)[p.length+k]? = r[k]? := by
 rw[vf (by lia),tR]
theorem nF {α:Type}(p a r:List α){k:Nat}(h:k<a.length):(p++(a++r))[p.length+k]? = a[k]? := by
 rw[iM,vp h]
theorem written (l:List qJ):∀(c n:Nat) (a:Array qJ),c+n+l.length<=a.size->((l.zipIdx n).foldl (λ(a:Array qJ) (pj:qJ×Nat)=>a.setIfInBounds (c+pj.2) pj.1) a).toList=a.toList.take (c+n)++l++a.toList.drop (c+n+l.length):=by
 induction l with
 | nil=>intro c n a _;simp
 | cons z l ih =>
  intro c n a h
  rw[rG] at h
  rw[List.zipIdx_cons,xF,ih c (n+1) _ (by rw[Array.size_setIfInBounds];lia)]
  have e:(a.setIfInBounds (c+n) z).toList=a.toList.set (c+n) z:=vg ..
  rw[e]
  have lt:c+n<a.toList.length:=by rw[qF];lia
  have t1:(a.toList.set (c+n) z).take (c+(n+1))=a.toList.take (c+n)++[z]:=by
   rw[show c+(n+1)=c+n+1 by lia,sR,List.take_set_of_le (qz _),tW lt]
   rfl
  have t2:(a.toList.set (c+n) z).drop (c+(n+1)+l.length)=a.toList.drop (c+n+(l.length+1)):=by
   rw[List.drop_set_of_lt (by lia),show c+(n+1)+l.length=c+n+(l.length+1) by lia]
  rw[t1,t2,rG]
  simp
section
variable  {prog:qX}{w:rO}{A:r6}{E:qw->qy->Prop}{s:qy}{O:vG}{key:qJ->O.α}{U:qJ->Prop}{κ:SortKind}
theorem oP (C:Cmp prog w A s O key U κ){i pw pw2:Nat}{st:qY}{Q:Bool->qY->Prop}{P X Y S:List qJ}(hκ:kindOf st=κ)(hf:failedOf st=none)
    (ha:(qN st).toList=P++(X++(Y++S))) (hu:∀p∈(qN st).toList,U p) (h1:(qU st)[i]? = some (P.length,X.length,pw)) (h2:(qU st)[i+1]? = some (P.length+X.length,Y.length,pw2))
    (nx:0<X.length) (ny:0<Y.length) (sx:X.Pairwise (Le key)) (sy:Y.Pairwise (Le key))
    (h:∀st' M,M.Perm (X++Y)->M.Pairwise (Le key)->(qN st').toList=P++(M++S)->qU st'=((qU st).setIfInBounds i (P.length,X.length+Y.length,pw)).eraseIdxIfInBounds (i+1)->kindOf st'=κ -> failedOf st'=none->Q true st') :
    wpS (rD prog w) A E s (mAt i) Q st:=by
  rw[oO]
  refine qG (vQ ?_)
  rw[h1,h2]
  dsimp only
  refine qG (show wpS (rD prog w) A E s (modify λ_=>SortSt.mk' (kindOf st) (qN st) (((qU st).setIfInBounds i (P.length,X.length+Y.length,pw)).eraseIdxIfInBounds (i+1)) (gallopOf st) (failedOf st)) _ st from tD ?_)
  generalize hst1:SortSt.mk' (kindOf st) (qN st) (((qU st).setIfInBounds i (P.length,X.length+Y.length,pw)).eraseIdxIfInBounds (i+1)) (gallopOf st) (failedOf st)=st1
  have k1:kindOf st1=κ:=by rw[<- hst1];exact hκ
  have a1:qN st1=qN st:=by rw[<- hst1]
  have p1:qU st1=((qU st).setIfInBounds i (P.length,X.length+Y.length,pw)).eraseIdxIfInBounds (i+1):=by rw[<- hst1]
  have f1:failedOf st1=none:=by rw[<- hst1];exact hf
  have sz:(qN st).size=P.length+X.length+Y.length+S.length:=by
    rw[<- qF,ha];simp only[qC];lia
  have atX:∀j,j<X.length->(qN st)[P.length+j]? = X[j]? := λj hj=>by
    rw[<- qL,ha,nF _ _ _ hj]
  have atY:∀j,j<Y.length->(qN st)[P.length+X.length+j]? = Y[j]? := λj hj=>by
    rw[<- qL,ha, <- rC,show P.length+X.length+j=(P++X).length+j by rw[qC],nF _ _ _ hj]
  have uX:∀p∈X,U p:=λp hp=>hu p (by rw[ha];simp[hp])
  have uY:∀p∈Y,U p:=λp hp=>hu p (by rw[ha];simp[hp])
  have xget:∀j,j<X.length->∃z,X[j]? = some z:=λj hj=>⟨X[j],by simp[hj]⟩
  have yget:∀j,j<Y.length->∃z,Y[j]? = some z:=λj hj=>⟨Y[j],by simp[hj]⟩
  obtain ⟨y0,ey0⟩:=yget 0 ny
  have plain:(∀p∈X,∀q∈Y,Le key p q)->Q true st1:=λhle=>h st1 (X++Y) (vt _) (si.mpr ⟨sx,sy,hle⟩) (by rw[a1,ha,rC]) p1 k1 f1
  refine qG (aK (z:=y0) (by rw[show P.length+X.length=P.length+X.length+0 by lia,atY 0 ny];exact ey0) ?_)
  refine qG (oH C (λj=>(X[j]?).getD y0) k1 (uY _ (qV ey0)) (λj hj =>?_) (λj hj =>?_) (λi j hij hj =>?_) nx λk hk g1 g2 =>?_)
  · obtain ⟨z,e⟩:=xget j hj
    rw[atX j hj,e];rfl
  · obtain ⟨z,e⟩:=xget j hj
    rw[e];exact uX _ (qV e)
  · obtain ⟨z,e⟩:=xget i (by lia)
    obtain ⟨z',e'⟩:=xget j hj
    rw[e,e'];exact ay sx e e' hij
  dsimp only at g1 g2 ⊢
  have y0le:∀q∈Y,Le key y0 q:=λq hq=>by
    obtain ⟨n,e⟩:=rJ.mp hq
    exact ay sy ey0 e (sC _)
  by_cases c1:(X.length-k == 0)=true
  · rw[if_pos c1]
    refine qK (plain λp hp q hq =>?_)
    obtain ⟨n,e⟩:=rJ.mp hp
    have hn:n<X.length:=(qI.mp e).1
    have z:=g1 n (by have:=beq_iff_eq.mp c1;lia)
    rw[e] at z
    exact rj z (y0le q hq)
  rw[if_neg c1]
  have kx:k<X.length:=by have:X.length-k≠0:=λz=>c1 (beq_iff_eq.mpr z);lia
  obtain ⟨xl,exl⟩:=xget (X.length-1) (by lia)
  have xlle:∀p∈X,Le key p xl:=λp hp=>by
    obtain ⟨n,e⟩:=rJ.mp hp
    have hn:n<X.length:=(qI.mp e).1
    exact ay sx e exl (by lia)
  refine qG (aK (z:=xl) (by rw[show P.length+k+(X.length-k)-1=P.length+(X.length-1) by lia,atX _ (by lia)];exact exl) ?_)
  refine qG (oI C (λj=>(Y[j]?).getD xl) k1 (uX _ (qV exl)) (λj hj =>?_) (λj hj =>?_) (λi j hij hj =>?_) (by lia) λm hm e1 e2 =>?_)
  · obtain ⟨z,e⟩:=yget j hj
    rw[atY j hj,e];rfl
  · obtain ⟨z,e⟩:=yget j hj
    rw[e];exact uY _ (qV e)
  · obtain ⟨z,e⟩:=yget i (by lia)
    obtain ⟨z',e'⟩:=yget j hj
    rw[e,e'];exact ay sy e e' hij
  dsimp only at e1 e2 ⊢
  by_cases c2:(m == 0)=true
  · rw[if_pos c2]
    refine qK (plain λp hp q hq =>?_)
    obtain ⟨n,e⟩:=rJ.mp hq
    have hn:n<Y.length:=(qI.mp e).1
    have z:=e2 n (by have:=beq_iff_eq.mp c2;lia) hn
    rw[e] at z
    exact rj (xlle p hp) z
  rw[if_neg c2]
  have m0:0<m:=by have:m≠0:=λz=>c2 (beq_iff_eq.mpr z);lia
  have ex:((qN st).extract (P.length+k) (P.length+X.length)).toList=X.drop k:=by
    rw[sH,rN,ha,dC,uP (by lia)]
    rw[List.take_left' (by rw[rY];lia)]
  have ey:((qN st).extract (P.length+X.length) (P.length+X.length+m)).toList=Y.take m:=by
    have e:=dC (P++X) (Y++S) 0
    rw[qC,Nat.add_zero,uM,rC] at e
    rw[sH,rN,ha,e,tR,uQ hm]
  have sX:((qN st).extract (P.length+k) (P.length+X.length)).size=X.length-k:=by rw[<- qF,ex,rY]
  have sY:((qN st).extract (P.length+X.length) (P.length+X.length+m)).size=m:=by rw[<- qF,ey,rX];lia
  generalize (qN st).extract (P.length+k) (P.length+X.length)=xa at ex sX ⊢
  generalize (qN st).extract (P.length+X.length) (P.length+X.length+m)=ya at ey sY ⊢
  have xa0:∀q∈xa.toList,Le key y0 q:=λq hq=>by
    rw[ex] at hq
    obtain ⟨n,hn,e⟩:=aJ hq
    have hn2:n<X.length:=(qI.mp e).1
    have z:=g2 n hn hn2
    rw[e] at z
    exact sh z
  have yaL:∀p∈ya.toList,Le key p xl:=λp hp=>by
    rw[ey] at hp
    obtain ⟨n,hn,e⟩:=aQ hp
    have z:=e1 n hn
    rw[e] at z
    exact sh z
  have first:∀p q,ya[0]? = some p->q∈xa.toList->Le key p q:=λp q hp hq=>by
    rw[<- qL,ey,td,if_pos m0,ey0] at hp
    cases hp
    exact xa0 q hq
  have lst:∀p q,p∈ya.toList->xa[xa.size-1]? = some q->Le key p q:=λp q hp hq=>by
    rw[<- qL,ex,uz,sX,show k+(X.length-k-1)=X.length-1 by lia,exl] at hq
    cases hq
    exact yaL p hp
  have sxa:xa.toList.Pairwise (Le key):=by rw[ex];exact sx.sublist (rQ _ _)
  have sya:ya.toList.Pairwise (Le key):=by rw[ey];exact sy.sublist (r9 _ _)
  have uxa:∀p∈xa.toList,U p:=λp hp=>by rw[ex] at hp;exact uX p (sP hp)
  have uya:∀p∈ya.toList,U p:=λp hp=>by rw[ey] at hp;exact uY p (sI hp)
  have post:∀r st',Sm st1 st'->bW key xa ya r->wpS (rD prog w) A E s (do modify λs=>setArr s (r.toList.zipIdx.foldl (λa (p,j)=>a.setIfInBounds (P.length+k+j) p) (qN s));return (failedOf (← get)).isNone) Q st':=by
    rintro r st' sm ⟨fp,fs⟩
    refine qG (tD (qG (vQ (qK ?_))))
    have rl:r.toList.length=X.length-k+m:=by rw[fp.length_eq,qC,qF,qF,sX,sY]
    have wr:=written r.toList (P.length+k) 0 (qN st') (by rw[sm.a,a1,sz,rl];lia)
    have e:(failedOf (setArr st' (r.toList.zipIdx.foldl (λa (p,j)=>a.setIfInBounds (P.length+k+j) p) (qN st')))).isNone=true:=by
      show (failedOf st').isNone=true
      rw[sm.f,f1];rfl
    rw[e]
    have t1:(P++(X++(Y++S))).take (P.length+k+0)=P++X.take k:=by
      rw[Nat.add_zero,List.take_append,rA (by lia),tR,uQ (by lia)]
    have t2:(P++(X++(Y++S))).drop (P.length+k+0+r.toList.length)=Y.drop m++S:=by
      rw[rl,show P.length+k+0+(X.length-k+m)=P.length+(X.length+m) by lia,dC,dC,uP hm]
    have perm:(X.take k++(r.toList++Y.drop m)).Perm (X++Y):=by
      rw[ex,ey] at fp
      have q:(X.take k++(r.toList++Y.drop m)).Perm (X.take k++((X.drop k++Y.take m)++Y.drop m)):=sZ _ (tF _ fp)
      have e3:X.take k++((X.drop k++Y.take m)++Y.drop m)=X++Y:=by
        rw[rC (X.drop k),tG, <- rC,tG]
      rw[e3] at q
      exact q
    have inr:∀z∈r.toList,z∈X.drop k\/z∈Y.take m:=λz hz=>by
      have q:=fp.mem_iff.mp hz
      rw[ex,ey] at q
      exact qH.mp q
    refine h _ (X.take k++(r.toList++Y.drop m)) perm ?_ ?_ ?_ (sm.k.trans k1) (sm.f.trans f1)
    · refine si.mpr ⟨sx.sublist (r9 _ _),si.mpr ⟨fs,sy.sublist (rQ _ _),λp hp q hq =>?_⟩,λp hp q hq =>?_⟩
      · obtain ⟨n,hn,en⟩:=aJ hq
        have hn2:n<Y.length:=(qI.mp en).1
        rcases inr p hp with z | z
        · have g:=e2 n hn hn2
          rw[en] at g
          exact rj (xlle p (sP z)) g
        · obtain ⟨j,hj,ej⟩:=aQ z
          exact ay sy ej en (by lia)
      · obtain ⟨n,hn,en⟩:=aQ hp
        have g:=g1 n hn
        rw[en] at g
        rcases qH.mp hq with z | z
        · rcases inr q z with z | z
          · obtain ⟨j,hj,ej⟩:=aJ z
            exact ay sx en ej (by lia)
          · exact rj g (y0le q (sI z))
        · exact rj g (y0le q (sP z))
    · show (r.toList.zipIdx.foldl (λa (p,j)=>a.setIfInBounds (P.length+k+j) p) (qN st')).toList=_
      rw[wr,sm.a,a1,ha,t1,t2]
      simp only[rC]
    · show qU st'=_
      rw[sm.p,p1]
  by_cases c3:X.length-k<=m
  · rw[if_pos c3]
    exact qG (oK C k1 uxa uya sxa sya (by lia) (by lia) (λp q hp hq=>first p q hp (aZ hq)) lst λr st' sm fr=>post r st' sm fr)
  · rw[if_neg c3]
    exact qG (oN C k1 uxa uya sxa sya (by lia) (by lia) first lst λr st' sm fr=>post r st' sm fr)
end
open PySem PyProof.Rows
theorem mO (lo m:Nat):oF lo m=(do
    let mut n:=1
    for _ in [1:m] do
      let some sm ← ltAt' (lo+n) (lo+n-1)
        | return none
      if sm then break
      n:=n+1
    if n == m then return some n
    if n>1 then
      let some ro ← ltAt' lo (lo+n-1)
        | return none
      if ro then return some n
      reverseSlice' lo (lo+n)
    rule "list.sort.descending-run"
    n:=n+1
    let mut q:=0
    for _ in [n:m] do
      let some sm ← ltAt' (lo+n) (lo+n-1)
        | return none
      if sm then
        if q>0 then reverseSlice' (lo+n-(q+1)) (lo+n)
        q:=0
      else
        let some lg ← ltAt' (lo+n-1) (lo+n)
          | return none
        if lg then break
        q:=q+1
      n:=n+1
    if q>0 then reverseSlice' (lo+n-(q+1)) (lo+n)
    reverseSlice' lo (lo+n)
    for _ in [n:m] do
      let some sm ← ltAt' (lo+n) (lo+n-1)
        | return none
      if sm then break
      n:=n+1
    return some n):=rfl
theorem kY (lo n ok:Nat):kN lo n ok=(do
    for k in [max ok 1:n] do
      let mut l:=0;let mut r:=k
      for _ in [0:k] do
        if l≥r then break
        let m:=(l+r)/2
        let some le ← ltAt' (lo+k) (lo+m)
          | return false
        if le then r:=m else l:=m+1
      moveDown' (lo+k) (lo+l)
    return true):=rfl
section
variable  {O:vG}(key:qJ->O.α)
def kk (xs:Array qJ)(i:Nat):O.α:=key ((xs[i]?).getD (vI,vI))
def Up (xs:Array qJ)(lo n:Nat):Prop:=∀i j,lo<=i->i<=j->j<lo+n->O.kle (kk key xs i) (kk key xs j)
def Down (xs:Array qJ)(lo n:Nat):Prop:=∀i j,lo<=i->i<=j->j<lo+n->O.kle (kk key xs j) (kk key xs i)
variable  {key}
theorem dD {xs ys:Array qJ}{i j:Nat}(h:xs[i]? = ys[j]?):kk key xs i=kk key ys j:=by unfold kk;rw[h]
theorem fQ {xs:Array qJ}{i j:Nat}(hj:j<=xs.size)(k:Nat):kk key (mirror xs i j ((j-i)/2)) k=if i<=k/\k<j then kk key xs (i+j-1-k) else kk key xs k:=by
 have e:=wK (i:=i) hj k
 by_cases h:i<=k/\k<j
 ·rw[if_pos h] at e ⊢;exact dD e
 ·rw[if_neg h] at e ⊢;exact dD e
theorem cq {xs:Array qJ}{i j:Nat}(hj:j<=xs.size)(he:∀k,i<=k->k<j->kk key xs k=kk key xs (j-1))(k:Nat):kk key (mirror xs i j ((j-i)/2)) k=kk key xs k:=by
 rw[fQ hj]
 split
 ·rw[he _ (by omega) (by omega),he k (by omega) (by omega)]
 ·rfl
end
structure SA (lo:Nat)(st st':qY):Prop where
 perm:(qN st').Perm (qN st)
 pre:∀k,k<lo->(qN st')[k]? = (qN st)[k]?
 k:kindOf st'=kindOf st
 p:qU st'=qU st
 f:failedOf st'=failedOf st
theorem SA.refl (lo:Nat)(st:qY):SA lo st st:=⟨Array.Perm.refl _,λ_ _=>rfl,rfl,rfl,rfl⟩
theorem SA.size {lo:Nat}{st st':qY}(h:SA lo st st'):(qN st').size=(qN st).size:=h.perm.size_eq
theorem SA.mirror {lo:Nat}{st st':qY}(h:SA lo st st'){i j:Nat}(hi:lo<=i)(hj:j<=(qN st').size):SA lo st (setArr st' (mirror (qN st') i j ((j-i)/2))) :=
 ⟨(mirror_perm _ _ _ _).trans h.perm,λk hk=>by
  show (PyProof.Rows.mirror (qN st') i j ((j-i)/2))[k]? = _
  rw[wK hj,if_neg (by lia)]
  exact h.pre k hk,h.k,h.p,h.f⟩
theorem SA.mem {lo:Nat}{st st':qY}(h:SA lo st st'){p:qJ}(hp:p∈(qN st').toList):p∈(qN st).toList:=(vh.mp h.perm).mem_iff.mp hp
section
variable  {prog:qX}{w:rO}{A:r6}{E:qw->qy->Prop}{s:qy}{O:vG}{key:qJ->O.α}{U:qJ->Prop}{κ:SortKind}
theorem cS (C:Cmp prog w A s O key U κ){st:qY}{i j:Nat}{Q:Option Bool->qY->Prop}(hκ:kindOf st=κ)(hu:∀p∈(qN st).toList,U p)(hi:i<(qN st).size)(hj:j<(qN st).size)
  (h:Q (some (O.blt (kk key (qN st) i) (kk key (qN st) j))) st):wpS (rD prog w) A E s (ltAt' i j) Q st:=by
 rw[ltAt'_eq]
 refine qG (vQ ?_)
 obtain ⟨x,ex⟩:=aP hi
 obtain ⟨y,ey⟩:=aP hj
 dsimp only
 refine qG (aK ex (qG (aK ey (C.lt _ st x y _ hκ (hu _ (aZ ex)) (hu _ (aZ ey)) ?_))))
 unfold kk at h
 rw[ex,ey] at h
 exact h
theorem mP (C:Cmp prog w A s O key U κ){st:qY}{lo m:Nat}{Q:Option Nat->qY->Prop}(hκ:kindOf st=κ)(hu:∀p∈(qN st).toList,U p)(hm:1<=m)(hz:lo+m=(qN st).size)
  (h:∀n st',1<=n->n<=m->SA lo st st'->Up key (qN st') lo n->Q (some n) st'):wpS (rD prog w) A E s (oF lo m) Q st:=by
 rw[mO]
 dsimp only
 refine qG (sV (rR (I:=λx c st'=>st=st'/\c=(none,x)/\Up key (qN st) lo x)
  (Q:=λc st'=>st=st'/\∃n,c=(none,n)/\1<=n/\n<=m/\Up key (qN st) lo n/\(n<m->O.klt (kk key (qN st) (lo+n)) (kk key (qN st) (lo+n-1)))) ?step ?fin ⟨rfl,rfl,λi j h1 h2 h3=>by rw[show i=j by lia];exact sO _⟩) ?post)
 case fin =>
  rintro c st' ⟨rfl,rfl,up⟩
  exact ⟨rfl,_,rfl,by lia,by lia,by rw[show max 1 m=m by lia] at up ⊢;exact up,by lia⟩
 case step =>
  rintro x c st' h1 h2 ⟨rfl,rfl,up⟩
  dsimp only
  refine qG (cS C hκ hu (by lia) (by lia) ?_)
  dsimp only
  cases hb:O.blt (kk key (qN st) (lo+x)) (kk key (qN st) (lo+x-1)) with
  | true =>
   rw[if_pos rfl]
   exact qK ⟨rfl,x,rfl,h1,by lia,up,λ_=>hb⟩
  | false =>
   rw[if_neg (by simp)]
   refine qK ⟨rfl,rfl,λi j k1 k2 k3 =>?_⟩
   by_cases hj:j=lo+x
   ·by_cases hi:i=j
    ·rw[hi];exact sO _
    ·rw[hj]
     exact rj (up i (lo+x-1) k1 (by lia) (by lia)) hb
   ·exact up i j k1 k2 (by lia)
 case post =>
  rintro c st' ⟨rfl,n,rfl,n1,n2,up,br⟩
  dsimp only
  by_cases c1:(n == m)=true
  ·rw[if_pos c1]
   exact qK (h n st n1 n2 (SA.refl _ _) up)
  rw[if_neg c1]
  have nm:n<m:=by have:n≠m:=λz=>c1 (beq_iff_eq.mpr z);lia
  have br:=br nm
  by_cases c2:n>1
  case' pos =>
   rw[if_pos c2]
   refine qG (cS C hκ hu (by lia) (by lia) ?_)
   dsimp only
   cases hro:O.blt (kk key (qN st) lo) (kk key (qN st) (lo+n-1))
   case' true =>
    rw[if_pos rfl]
    exact qK (h n st n1 n2 (SA.refl _ _) up)
   rw[if_neg (by simp)]
   have eqs:∀k,lo<=k->k<lo+n->kk key (qN st) k=kk key (qN st) (lo+n-1):=λk k1 k2 =>
    wI (up k (lo+n-1) k1 (by lia) (by lia)) (rj (show O.kle (kk key (qN st) (lo+n-1)) (kk key (qN st) lo) from hro) (up lo k (qz _) k1 k2))
   rw[uT]
   refine qG (tD ?_)
   have sa:=(SA.refl lo st).mirror (i:=lo) (j:=lo+n) (qz _) (by lia)
   have ke:=cq (key:=key) (xs:=qN st) (i:=lo) (j:=lo+n) (by lia) eqs
   have ka:∀k,kk key (qN (setArr st (mirror (qN st) lo (lo+n) ((lo+n-lo)/2)))) k=kk key (qN st) k:=ke
   generalize setArr st (mirror (qN st) lo (lo+n) ((lo+n-lo)/2))=st1 at sa ka ⊢
   clear ke
  case' neg =>
   rw[if_neg c2]
   have eqs:∀k,lo<=k->k<lo+n->kk key (qN st) k=kk key (qN st) (lo+n-1):=λk k1 k2=>by rw[show k=lo+n-1 by lia]
   obtain ⟨st1,e1⟩:∃st1,st1=st:=⟨_,rfl⟩
   have sa:SA lo st st1:=by rw[e1];exact SA.refl _ _
   have ka:∀k,kk key (qN st1) k=kk key (qN st) k:=λk=>by rw[e1]
   rw[<- e1]
   clear e1
  all_goals
   refine qG (wx (uJ ⟨rfl,?_⟩))
   have dn:Down key (qN st1) lo (n+1):=λi j k1 k2 k3=>by
    rw[ka,ka]
    by_cases hj:j=lo+n
    ·by_cases hi:i=j
     ·rw[hi];exact sO _
     ·rw[hj,eqs i k1 (by lia)]
      exact sh br
    ·rw[eqs i k1 (by lia),eqs j (by lia) (by lia)]
     exact sO _
   clear eqs up br ka
   refine qG (sV (rR (I:=λx c st'=>∃q,c=(none,x,q)/\x<=m/\SA lo st st'/\Down key (qN st') lo x/\q+1<=x/\∀k,lo+x-(q+1)<=k->k<lo+x->kk key (qN st') k=kk key (qN st') (lo+x-1))
    (Q:=λc st'=>∃x q,c=(none,x,q)/\1<=x/\x<=m/\SA lo st st'/\Down key (qN st') lo x/\q+1<=x/\∀k,lo+x-(q+1)<=k->k<lo+x->kk key (qN st') k=kk key (qN st') (lo+x-1)) ?step ?fin
    ⟨0,rfl,by lia,sa,dn,by lia,λk k1 k2=>by rw[show k=lo+(n+1)-1 by lia]⟩) ?post)
   case fin =>
    rintro c st' ⟨q,rfl,xm,sa,dn,hq,he⟩
    exact ⟨_,q,rfl,by lia,xm,sa,dn,hq,he⟩
   case step =>
    rintro x c st2 h1 h2 ⟨q,rfl,xm,sa2,dn2,hq,he⟩
    dsimp only
    have sz:=sa2.size
    have u2:∀p∈(qN st2).toList,U p:=λp hp=>hu p (sa2.mem hp)
    refine qG (cS C (sa2.k.trans hκ) u2 (by lia) (by lia) ?_)
    dsimp only
    cases hb:O.blt (kk key (qN st2) (lo+x)) (kk key (qN st2) (lo+x-1)) with
    | true =>
     rw[if_pos rfl]
     have dn3:Down key (qN st2) lo (x+1):=λi j k1 k2 k3=>by
      by_cases hj:j=lo+x
      ·by_cases hi:i=j
       ·rw[hi];exact sO _
       ·rw[hj];exact rj (sh hb) (dn2 i (lo+x-1) k1 (by lia) (by lia))
      ·exact dn2 i j k1 k2 (by lia)
     by_cases q0:q>0
     ·rw[if_pos q0,uT]
      refine qG (tD (qK ?_))
      have ke:=cq (key:=key) (xs:=qN st2) (i:=lo+x-(q+1)) (j:=lo+x) (by lia) he
      refine ⟨0,rfl,by lia,sa2.mirror (by lia) (by lia),λi j k1 k2 k3 =>?_,by lia,λk k1 k2=>by rw[show k=lo+(x+1)-1 by lia]⟩
      show O.kle (kk key (mirror (qN st2) (lo+x-(q+1)) (lo+x) ((lo+x-(lo+x-(q+1)))/2)) j) (kk key (mirror (qN st2) (lo+x-(q+1)) (lo+x) ((lo+x-(lo+x-(q+1)))/2)) i)
      rw[ke,ke]
      exact dn3 i j k1 k2 k3
     ·rw[if_neg q0]
      exact qK ⟨0,rfl,by lia,sa2,dn3,by lia,λk k1 k2=>by rw[show k=lo+(x+1)-1 by lia]⟩
    | false =>
     rw[if_neg (by simp)]
     refine qG (cS C (sa2.k.trans hκ) u2 (by lia) (by lia) ?_)
     dsimp only
     cases hb2:O.blt (kk key (qN st2) (lo+x-1)) (kk key (qN st2) (lo+x)) with
     | true =>
      rw[if_pos rfl]
      exact qK ⟨x,q,rfl,by lia,xm,sa2,dn2,hq,he⟩
     | false =>
      rw[if_neg (by simp)]
      have eq:=wI (show O.kle (kk key (qN st2) (lo+x)) (kk key (qN st2) (lo+x-1)) from hb2) hb
      refine qK ⟨q+1,rfl,by lia,sa2,λi j k1 k2 k3 =>?_,by lia,λk k1 k2 =>?_⟩
      ·by_cases hj:j=lo+x
       ·by_cases hi:i=j
        ·rw[hi];exact sO _
        ·rw[hj,eq];exact dn2 i (lo+x-1) k1 (by lia) (by lia)
       ·exact dn2 i j k1 k2 (by lia)
      ·rw[show lo+(x+1)-1=lo+x by lia,eq]
       by_cases hk:k=lo+x
       ·rw[hk,eq]
       ·exact he k (by lia) (by lia)
   case post =>
    rintro c st2 ⟨x,q,rfl,x1,xm,sa2,dn2,hq,he⟩
    dsimp only
    have sz:=sa2.size
    by_cases q0:q>0
    case' pos =>
     rw[if_pos q0,uT]
     refine qG (tD ?_)
     have ke:=cq (key:=key) (xs:=qN st2) (i:=lo+x-(q+1)) (j:=lo+x) (by lia) he
     have sa3:=sa2.mirror (i:=lo+x-(q+1)) (j:=lo+x) (by lia) (by lia)
     have dn3:Down key (qN (setArr st2 (mirror (qN st2) (lo+x-(q+1)) (lo+x) ((lo+x-(lo+x-(q+1)))/2)))) lo x:=λi j k1 k2 k3=>by
      show O.kle (kk key (mirror (qN st2) (lo+x-(q+1)) (lo+x) ((lo+x-(lo+x-(q+1)))/2)) j) (kk key (mirror (qN st2) (lo+x-(q+1)) (lo+x) ((lo+x-(lo+x-(q+1)))/2)) i)
      rw[ke,ke]
      exact dn2 i j k1 k2 k3
     generalize setArr st2 (mirror (qN st2) (lo+x-(q+1)) (lo+x) ((lo+x-(lo+x-(q+1)))/2))=st3 at sa3 dn3 ⊢
     clear ke
    case' neg =>
     rw[if_neg q0]
     obtain ⟨st3,e3⟩:∃st3,st3=st2:=⟨_,rfl⟩
     have sa3:SA lo st st3:=by rw[e3];exact sa2
     have dn3:Down key (qN st3) lo x:=by rw[e3];exact dn2
     rw[<- e3]
     clear e3
    all_goals
     rw[uT]
     refine qG (tD ?_)
     have sz3:=sa3.size
     have sa4:=sa3.mirror (i:=lo) (j:=lo+x) (qz _) (by lia)
     have km:=fQ (key:=key) (xs:=qN st3) (i:=lo) (j:=lo+x) (by lia)
     have up4:Up key (qN (setArr st3 (mirror (qN st3) lo (lo+x) ((lo+x-lo)/2)))) lo x:=λi j k1 k2 k3=>by
      show O.kle (kk key (mirror (qN st3) lo (lo+x) ((lo+x-lo)/2)) i) (kk key (mirror (qN st3) lo (lo+x) ((lo+x-lo)/2)) j)
      rw[km,km,if_pos ⟨by lia,by lia⟩,if_pos ⟨by lia,by lia⟩]
      exact dn3 _ _ (by lia) (by lia) (by lia)
     generalize setArr st3 (mirror (qN st3) lo (lo+x) ((lo+x-lo)/2))=st4 at sa4 up4 ⊢
     clear km
     have u4:∀p∈(qN st4).toList,U p:=λp hp=>hu p (sa4.mem hp)
     have sz4:=sa4.size
     refine qG (sV (rR (I:=λz c st'=>st4=st'/\c=(none,z)/\z<=m/\Up key (qN st4) lo z)
      (Q:=λc st'=>st4=st'/\∃z,c=(none,z)/\1<=z/\z<=m/\Up key (qN st4) lo z) ?step ?fin ⟨rfl,rfl,xm,up4⟩) ?post)
     case fin =>
      rintro c st' ⟨rfl,rfl,zm,up⟩
      exact ⟨rfl,_,rfl,by lia,zm,up⟩
     case post =>
      rintro c st' ⟨rfl,z,rfl,z1,zm,up⟩
      exact qK (h z st4 z1 zm sa4 up)
     case step =>
      rintro z c st' h1 h2 ⟨rfl,rfl,zm,up⟩
      dsimp only
      refine qG (cS C (sa4.k.trans hκ) u4 (by lia) (by lia) ?_)
      dsimp only
      cases hb:O.blt (kk key (qN st4) (lo+z)) (kk key (qN st4) (lo+z-1)) with
      | true =>
       rw[if_pos rfl]
       exact qK ⟨rfl,z,rfl,by lia,zm,up⟩
      | false =>
       rw[if_neg (by simp)]
       refine qK ⟨rfl,rfl,by lia,λi j k1 k2 k3 =>?_⟩
       by_cases hj:j=lo+z
       ·by_cases hi:i=j
        ·rw[hi];exact sO _
        ·rw[hj];exact rj (up i (lo+z-1) k1 (by lia) (by lia)) hb
       ·exact up i j k1 k2 (by lia)
theorem fR {xs:Array qJ}{src d:Nat}(hs:src<xs.size)(hd:d<=src)(k:Nat) :
  kk key (bubble xs src d) k=if k=src-d then kk key xs src else if src-d<k/\k<=src then kk key xs (k-1) else kk key xs k:=by
 have e:=getElem?_bubble hs d hd k
 by_cases h1:k=src-d
 ·rw[if_pos h1] at e ⊢;exact dD e
 ·rw[if_neg h1] at e ⊢
  by_cases h2:src-d<k/\k<=src
  ·rw[if_pos h2] at e ⊢;exact dD e
  ·rw[if_neg h2] at e ⊢;exact dD e
theorem SA.bubble {lo:Nat}{st st':qY}(h:SA lo st st'){src d:Nat}(hs:src<(qN st').size)(hd:lo+d<=src):SA lo st (setArr st' (bubble (qN st') src d)) :=
 ⟨(bubble_perm _ _ _).trans h.perm,λk hk=>by
  show (PyProof.Rows.bubble (qN st') src d)[k]? = _
  rw[getElem?_bubble hs d (by lia),if_neg (by lia),if_neg (by lia)]
  exact h.pre k hk,h.k,h.p,h.f⟩
theorem kZ (C:Cmp prog w A s O key U κ){st:qY}{lo n ok:Nat}{Q:Bool->qY->Prop}(hκ:kindOf st=κ)(hu:∀p∈(qN st).toList,U p)(hn:lo+n<=(qN st).size)(hok:ok<=n)(up:Up key (qN st) lo ok)
  (h:∀st',SA lo st st'->Up key (qN st') lo n->Q true st'):wpS (rD prog w) A E s (kN lo n ok) Q st:=by
 rw[kY]
 dsimp only
 refine qG (sV (rR (I:=λx c st'=>c=(none,())/\SA lo st st'/\Up key (qN st') lo (min x n)) (Q:=λc st'=>c=(none,())/\SA lo st st'/\Up key (qN st') lo n) ?step ?fin ⟨rfl,SA.refl _ _,λi j k1 k2 k3 =>?_⟩) ?post)
 case post =>
  rintro c st' ⟨rfl,sa,up⟩
  exact qK (h st' sa up)
 case fin =>
  rintro c st' ⟨rfl,sa,up⟩
  refine ⟨rfl,sa,?_⟩
  rw[show min (max (max ok 1) n) n=n by lia] at up
  exact up
 case step =>
  rintro k c st1 h1 h2 ⟨rfl,sa1,up1⟩
  rw[show min k n=k by lia] at up1
  have sz:=sa1.size
  have u1:∀p∈(qN st1).toList,U p:=λp hp=>hu p (sa1.mem hp)
  refine qG (sV (rR (I:=λx c st'=>st1=st'/\∃l r,c=(none,l,r)/\l<=r/\r<=k/\r-l<=k-x/\(∀i,i<l->O.kle (kk key (qN st1) (lo+i)) (kk key (qN st1) (lo+k)))/\(∀i,r<=i->i<k->O.klt (kk key (qN st1) (lo+k)) (kk key (qN st1) (lo+i))))
   (Q:=λc st'=>st1=st'/\∃l r,c=(none,l,r)/\l<=k/\(∀i,i<l->O.kle (kk key (qN st1) (lo+i)) (kk key (qN st1) (lo+k)))/\(∀i,l<=i->i<k->O.klt (kk key (qN st1) (lo+k)) (kk key (qN st1) (lo+i)))) ?istep ?ifin ⟨rfl,0,k,rfl,by lia,by lia,by lia,λi hi=>by lia,λi a1 a2=>by lia⟩) ?ipost)
  case ifin =>
   rintro c st' ⟨rfl,l,r,rfl,b1,b2,b3,b4,b5⟩
   have e:l=r:=by lia
   subst e
   exact ⟨rfl,l,l,rfl,b2,b4,b5⟩
  case istep =>
   rintro x c st' _ hx ⟨rfl,l,r,rfl,b1,b2,b3,b4,b5⟩
   dsimp only
   by_cases hge:l≥r
   ·rw[if_pos hge]
    have e:l=r:=by lia
    subst e
    exact qK ⟨rfl,l,l,rfl,b2,b4,b5⟩
   ·rw[if_neg hge]
    refine qG (cS C (sa1.k.trans hκ) u1 (by lia) (by lia) ?_)
    dsimp only
    cases hb:O.blt (kk key (qN st1) (lo+k)) (kk key (qN st1) (lo+(l+r)/2)) with
    | true =>
     rw[if_pos rfl]
     exact qK ⟨rfl,l,(l+r)/2,rfl,by lia,by lia,by lia,b4,λi a1 a2=>KeyOrd.klt_of_klt_of_kle hb (up1 _ _ (by lia) (by lia) (by lia))⟩
    | false =>
     rw[if_neg (by simp)]
     exact qK ⟨rfl,(l+r)/2+1,r,rfl,by lia,by lia,by lia,λi a1=>rj (up1 (lo+i) (lo+(l+r)/2) (by lia) (by lia) (by lia)) hb,b5⟩
  case ipost =>
   rintro c st' ⟨rfl,l,r,rfl,b2,b4,b5⟩
   dsimp only
   rw[moveDown'_eq]
   have e:lo+k-(lo+l)=k-l:=by lia
   refine qG (tD (qK ⟨rfl,?_,?_⟩))
   ·rw[e]
    exact sa1.bubble (by lia) (by lia)
   ·rw[show min (k+1) n=k+1 by lia]
    intro i j k1 k2 k3
    show O.kle (kk key (bubble (qN st1) (lo+k) (lo+k-(lo+l))) i) (kk key (bubble (qN st1) (lo+k) (lo+k-(lo+l))) j)
    have lt:lo+k<(qN st1).size:=by lia
    rw[e,fR lt (by lia),fR lt (by lia),show lo+k-(k-l)=lo+l by lia]
    have b4':∀z,lo<=z->z<lo+l->O.kle (kk key (qN st1) z) (kk key (qN st1) (lo+k)):=λz z1 z2=>by
     have:=b4 (z-lo) (by lia)
     rw[show lo+(z-lo)=z by lia] at this
     exact this
    have b5':∀z,lo+l<=z->z<lo+k->O.kle (kk key (qN st1) (lo+k)) (kk key (qN st1) z):=λz z1 z2=>by
     have:=b5 (z-lo) (by lia) (by lia)
     rw[show lo+(z-lo)=z by lia] at this
     exact sh this
    repeat' split
    all_goals first
     | (exfalso;lia)
     | exact sO _
     | exact b4' _ (by lia) (by lia)
     | exact b5' _ (by lia) (by lia)
     | exact up1 _ _ (by lia) (by lia) (by lia)
 ·by_cases h1:ok=0
  ·rw[show i=j by lia];exact sO _
  ·exact up i j k1 k2 (by lia)
end
open PySem PyProof.Rows
def pwr:Nat->Nat->Nat->Nat->Nat:=sortPriv% PySem.Builtin.power
def mrn:Nat->Nat->Nat->Nat:=sortPriv% PySem.Builtin.minRun
theorem k7:nE=(do
    let sz:=(qN (← get)).size
    let mr:=mrn sz sz 0
    let mut lo:=0
    for _ in [0:sz] do
      if lo≥sz then break
      let some fd ← oF lo (sz-lo)
        | return
      let mut n:=fd
      if n<mr then
        rule "list.sort.binary-insertion"
        let fo:=min (sz-lo) mr
        if !(← kN lo fo n) then return
        n:=fo
      if let some (s1,n1,_):=(qU (← get)).back? then
        let pw:=pwr sz (2*s1+n1) (2*s1+n1+n1+n) sz
        for _ in [0:sz] do
          let p:=qU (← get)
          let some (_,_,old):=(if p.size>1 then p[p.size-2]? else none)
            | break
          if old<=pw then break
          if !(← mAt (p.size-2)) then return
        modify λs=>SortSt.mk' (kindOf s) (qN s) ((qU s).modify ((qU s).size-1) λ(st,len,_)=>(st,len,pw)) (gallopOf s) (failedOf s)
      modify λs=>SortSt.mk' (kindOf s) (qN s) ((qU s).push (lo,n,0)) (gallopOf s) (failedOf s)
      lo:=lo+n
    for _ in [0:sz] do
      let p:=qU (← get)
      if p.size<=1 then break
      let i:=p.size-2
      let bf:=if i>0 then p[i-1]?.map (·.2.1) else none
      let i:=if bf.any (· < (p[i+1]?.elim 0 (·.2.1))) then i-1 else i
      if !(← mAt i) then return):=rfl
def Mt:Nat->List (List qJ)->List (Nat×Nat×Nat)->Prop
 | _,[],[]=>True
 | off,r :: rs,p :: ps=>p.1=off/\p.2.1=r.length/\Mt (off+r.length) rs ps
 | _,_,_=>False
theorem Mt.length:∀{off:Nat} {rs:List (List qJ)} {ps:List (Nat×Nat×Nat)},Mt off rs ps->ps.length=rs.length
 | _,[],[],_=>rfl
 | _,_ :: _,_ :: _,h=>by rw[rG,rG,Mt.length h.2.2]
theorem Mt.append:∀{off:Nat} {rs ts:List (List qJ)} {ps us:List (Nat×Nat×Nat)},Mt off rs ps->Mt (off+rs.flatten.length) ts us->Mt off (rs++ts) (ps++us)
 | _,[],_,[],_,_,h=>by simpa using h
 | off,r :: rs,ts,p :: ps,us,h,h'=>by
  refine ⟨h.1,h.2.1,Mt.append h.2.2 ?_⟩
  rw[tq,qC, <- x6] at h'
  exact h'
theorem Mt.split:∀{off:Nat} {rs:List (List qJ)} {ps:List (Nat×Nat×Nat)} (i:Nat),Mt off rs ps->i+1<ps.length →
  ∃R1 X Y R2 L1 w1 w2 L2,rs=R1++X :: Y :: R2/\ps=L1++(off+R1.flatten.length,X.length,w1) :: (off+R1.flatten.length+X.length,Y.length,w2) :: L2/\L1.length=i/\Mt off R1 L1/\Mt (off+R1.flatten.length+X.length+Y.length) R2 L2
 | off,r :: r2 :: rs,p :: p2 :: ps,0,h,_=>by
  obtain ⟨a,b,w1⟩:=p
  obtain ⟨c,d,w2⟩:=p2
  obtain ⟨h1,h2,h3,h4,h5⟩:=h
  dsimp only at h1 h2 h3 h4
  subst h1 h2 h3 h4
  exact ⟨[],r,r2,rs,[],w1,w2,ps,rfl,rfl,rfl,trivial,h5⟩
 | off,r :: rs,p :: ps,i+1,h,hl=>by
  rw[rG] at hl
  obtain ⟨R1,X,Y,R2,L1,w1,w2,L2,e1,e2,e3,m1,m2⟩:=Mt.split i h.2.2 (by lia)
  have ea:off+(r :: R1).flatten.length=off+r.length+R1.flatten.length:=by rw[tq,qC];lia
  refine ⟨r :: R1,X,Y,R2,p :: L1,w1,w2,L2,by rw[e1];rfl,?_,by rw[rG,e3],⟨h.1,h.2.1,m1⟩,?_⟩
  ·rw[ea,e2];rfl
  ·rw[ea];exact m2
 | off,[],[],i,_,hl=>by simp at hl
 | off,[_],[_],0,_,hl=>by simp at hl
theorem Mt.modify (f:Nat×Nat×Nat->Nat×Nat×Nat)(hf:∀p,(f p).1=p.1/\(f p).2.1=p.2.1):∀{off:Nat} {rs:List (List qJ)} {ps:List (Nat×Nat×Nat)} (i:Nat),Mt off rs ps->Mt off rs (ps.modify i f)
 | _,[],[],i,_=>by cases i <;> exact trivial
 | off,r :: rs,p :: ps,0,h=>⟨(hf p).1.trans h.1,(hf p).2.trans h.2.1,h.2.2⟩
 | off,r :: rs,p :: ps,i+1,h=>⟨h.1,h.2.1,Mt.modify f hf i h.2.2⟩
theorem jZ {α:Type}(l:List α)(a b c:α)(r:List α):((l++a :: b :: r).set l.length c).eraseIdx (l.length+1)=l++c :: r:=by
 induction l with
 | nil=>rfl
 | cons x l ih=>simp only[xA,rG,List.set_cons_succ,List.eraseIdx_cons_succ,ih]
section
variable  {O:vG}(key:qJ->O.α)(U:qJ->Prop)(κ:SortKind)
structure Rn (a0:List qJ)(lo:Nat)(st:qY):Prop where
 ex:∃runs rest,(qN st).toList=runs.flatten++rest/\runs.flatten.length=lo/\(∀r∈runs,r.Pairwise (Le key)/\0<r.length)/\Mt 0 runs (qU st).toList
 perm:(qN st).toList.Perm a0
 k:kindOf st=κ
 f:failedOf st=none
end
section
variable  {prog:qX}{w:rO}{A:r6}{E:qw->qy->Prop}{s:qy}{O:vG}{key:qJ->O.α}{U:qJ->Prop}{κ:SortKind}
theorem hG (C:Cmp prog w A s O key U κ){a0:List qJ}{lo i:Nat}{st:qY}{Q:Bool->qY->Prop}(hu:∀p∈a0,U p)(R:Rn key κ a0 lo st)(hi:i+1<(qU st).size)
  (h:∀st',Rn key κ a0 lo st'->(qU st').size+1=(qU st).size->(qN st').toList.drop lo=(qN st).toList.drop lo->Q true st'):wpS (rD prog w) A E s (mAt i) Q st:=by
 obtain ⟨runs,rest,ea,el,er,em⟩:=R.ex
 obtain ⟨R1,X,Y,R2,L1,w1,w2,L2,e1,e2,e3,m1,m2⟩:=Mt.split i em (by rw[qF];exact hi)
 subst e1
 rw[uN] at e2 m2
 have hx:=er X (by simp)
 have hy:=er Y (by simp)
 have ga:(qU st)[i]? = some (R1.flatten.length,X.length,w1):=by
  rw[<- qL,e2, <- e3,show L1.length=L1.length+0 by lia,iM];rfl
 have gb:(qU st)[i+1]? = some (R1.flatten.length+X.length,Y.length,w2):=by
  rw[<- qL,e2, <- e3,iM];rfl
 refine oP C (P:=R1.flatten) (X:=X) (Y:=Y) (S:=R2.flatten++rest) R.k R.f (by rw[ea];simp) (λp hp=>hu p (R.perm.mem_iff.mp hp)) ga gb hx.2 hy.2 hx.1 hy.1 λst' M pm sm ar pd kd fl =>?_
 have lm:M.length=X.length+Y.length:=by rw[pm.length_eq,qC]
 have ep:(qU st').toList=L1++(R1.flatten.length,X.length+Y.length,w1) :: L2:=by
  rw[pd,Array.toList_eraseIdxIfInBounds,vg,e2, <- e3]
  exact jZ _ _ _ _ _
 refine h st' ⟨⟨R1++M :: R2,rest,?_,?_,λr hr =>?_,?_⟩,?_,kd,fl⟩ ?_ ?_
 ·rw[ar];simp
 ·rw[<- el];simp[lm];lia
 ·rcases qH.mp hr with q | q
  ·exact er r (by simp[q])
  ·rcases rU.mp q with q | q
   ·rw[q];exact ⟨sm,by have:=hx.2;lia⟩
   ·exact er r (by simp[q])
 ·rw[ep]
  refine Mt.append m1 ⟨by rw[uN],lm.symm,?_⟩
  rw[uN,lm, <- x6]
  exact m2
 ·rw[ar]
  refine List.Perm.trans ?_ R.perm
  rw[ea,show (R1++X :: Y :: R2).flatten++rest=R1.flatten++((X++Y)++(R2.flatten++rest)) by simp]
  exact sZ _ (tF _ pm)
 ·rw[<- qF, <- qF,ep,e2]
  simp only[qC,rG]
  lia
 ·have l1:(R1++M :: R2).flatten.length=lo:=by rw[<- el];simp[lm];lia
  have q1:(qN st').toList=(R1++M :: R2).flatten++rest:=by rw[ar];simp
  rw[q1,ea, <- l1,vx,l1, <- el,vx]
theorem Rn.sa {a0:List qJ}{lo:Nat}{st st':qY}(R:Rn key κ a0 lo st)(sa:SA lo st st'):Rn key κ a0 lo st':=by
 obtain ⟨runs,rest,ea,el,er,em⟩:=R.ex
 have et:(qN st').toList.take lo=runs.flatten:=by
  have e1:(qN st').toList.take lo=(qN st).toList.take lo:=by
   refine List.ext_getElem? λi =>?_
   rw[td,td]
   split
   ·rw[qL,qL];exact sa.pre i (by assumption)
   ·rfl
  rw[e1,ea, <- el,List.take_left]
 refine ⟨⟨runs,(qN st').toList.drop lo,by rw[<- et,tG],el,er,by rw[sa.p];exact em⟩,(vh.mp sa.perm).trans R.perm,sa.k.trans R.k,sa.f.trans R.f⟩
theorem j4 {xs:Array qJ}{lo n:Nat}(h:Up key xs lo n):((xs.toList.drop lo).take n).Pairwise (Le key):=by
 refine vv.mpr λi j hi hj hij =>?_
 have get:∀k (hk:k<((xs.toList.drop lo).take n).length),key ((xs.toList.drop lo).take n)[k]=kk key xs (lo+k)/\k<n:=λk hk=>by
  have hk':=hk
  rw[rX] at hk'
  refine ⟨?_,by lia⟩
  have e:((xs.toList.drop lo).take n)[k]? = xs[lo+k]? := by
   rw[td,if_pos (by lia),uz,qL]
  rw[qS hk] at e
  unfold kk
  rw[<- e];rfl
 obtain ⟨e1,l1⟩:=get i hi
 obtain ⟨e2,l2⟩:=get j hj
 show O.kle (key _) (key _)
 rw[e1,e2]
 exact h _ _ (by lia) (by lia) (by lia)
theorem Rn.push {a0:List qJ}{lo n:Nat}{st:qY}(R:Rn key κ a0 lo st)(hn:0<n)(hz:lo+n<=(qN st).size)(hs:(((qN st).toList.drop lo).take n).Pairwise (Le key)) :
  Rn key κ a0 (lo+n) (SortSt.mk' (kindOf st) (qN st) ((qU st).push (lo,n,0)) (gallopOf st) (failedOf st)):=by
 obtain ⟨runs,rest,ea,el,er,em⟩:=R.ex
 have ed:(qN st).toList.drop lo=rest:=by rw[ea, <- el,vx]
 rw[ed] at hs
 have lr:n<=rest.length:=by
  have:=congrArg List.length ea
  rw[qF,qC,el] at this
  lia
 have lt:(rest.take n).length=n:=by rw[rX];lia
 refine ⟨⟨runs++[rest.take n],rest.drop n,?_,?_,λr hr =>?_,?_⟩,R.perm,R.k,R.f⟩
 ·show (qN st).toList=_
  rw[ea];simp
 ·simp[lt,el]
 ·rcases qH.mp hr with q | q
  ·exact er r q
  ·have e:r=rest.take n:=by simpa using q
   rw[e];exact ⟨hs,by lia⟩
 ·show Mt 0 _ ((qU st).push (lo,n,0)).toList
  rw[tw]
  exact Mt.append em ⟨by show lo=_;lia,lt.symm,trivial⟩
theorem Rn.mod {a0:List qJ}{lo:Nat}{st:qY}(R:Rn key κ a0 lo st)(i:Nat)(f:Nat×Nat×Nat->Nat×Nat×Nat)(hf:∀p,(f p).1=p.1/\(f p).2.1=p.2.1):Rn key κ a0 lo (SortSt.mk' (kindOf st) (qN st) ((qU st).modify i f) (gallopOf st) (failedOf st)):=by
 obtain ⟨runs,rest,ea,el,er,em⟩:=R.ex
 refine ⟨⟨runs,rest,ea,el,er,?_⟩,R.perm,R.k,R.f⟩
 show Mt 0 runs ((qU st).modify i f).toList
 rw[Array.toList_modify]
 exact Mt.modify f hf i em
theorem oQ {c:Prop}[Decidable c]{n:Nat}(h:1<n):(if c then n-2-1 else n-2)+1<n:=by split <;> omega
theorem fS:∀{runs:List (List qJ)},(∀r∈runs,0<r.length)->runs.length<=runs.flatten.length
 | [],_=>qz _
 | r :: rs,h=>by
  have h1:=h r rk
  have h2:=fS λq hq=>h q (qZ _ hq)
  rw[tq,qC,rG]
  lia
theorem k8 (C:Cmp prog w A s O key U κ){a0:List qJ}{st:qY}{Q:Unit->qY->Prop}(hu:∀p∈a0,U p)(ha:(qN st).toList=a0)(hp:qU st = #[])(hk:kindOf st=κ)(hf:failedOf st=none)(h1:1<=a0.length)
  (h:∀st',(qN st').toList.Perm a0->(qN st').toList.Pairwise (Le key)->failedOf st'=none->Q () st'):wpS (rD prog w) A E s nE Q st:=by
 rw[k7]
 refine qG (vQ ?_)
 dsimp only
 have sz0:(qN st).size=a0.length:=by rw[<- qF,ha]
 have szR:∀{lo:Nat} {st':qY},Rn key κ a0 lo st'->(qN st').size=(qN st).size:=λR=>by rw[<- qF,R.perm.length_eq,sz0]
 have uR:∀{lo:Nat} {st':qY},Rn key κ a0 lo st'->∀p∈(qN st').toList,U p:=λR p hp=>hu p (R.perm.mem_iff.mp hp)
 have R0:Rn key κ a0 0 st:=⟨⟨[],a0,by rw[ha];rfl,rfl,λr hr=>(by cases hr),by rw[hp];exact trivial⟩,by rw[ha],hk,hf⟩
 refine qG (sV (rR (I:=λx c st'=>∃lo,c=(none,lo)/\x<=lo/\lo<=(qN st).size/\Rn key κ a0 lo st') (Q:=λc st'=>c=(none,(qN st).size)/\Rn key κ a0 (qN st).size st') ?step ?fin ⟨0,rfl,qz _,sC _,R0⟩) ?post)
 case fin =>
  rintro c st' ⟨lo,rfl,l1,l2,R⟩
  obtain rfl:lo=(qN st).size:=by lia
  exact ⟨rfl,R⟩
 case post =>
  rintro c st1 ⟨rfl,R⟩
  dsimp only
  have p0:(qU st1).size<=(qN st).size:=by
   obtain ⟨runs,rest,ea,el,er,em⟩:=R.ex
   have q:=em.length
   rw[qF] at q
   have:=fS λr hr=>(er r hr).2
   lia
  refine qG (sV (rR (I:=λx c st'=>c=(none,())/\Rn key κ a0 (qN st).size st'/\((qU st').size<=1\/(qU st').size+x<=(qN st).size)) (Q:=λc st'=>c=(none,())/\Rn key κ a0 (qN st).size st'/\(qU st').size<=1) ?stepB ?finB ⟨rfl,R,.inr (by lia)⟩) ?postB)
  case finB =>
   rintro c st' ⟨rfl,R,q⟩
   exact ⟨rfl,R,by lia⟩
  case stepB =>
   rintro x c st' _ hx ⟨rfl,R,q⟩
   refine qG (vQ ?_)
   by_cases c1:(qU st').size<=1
   ·rw[if_pos c1]
    exact qK ⟨rfl,R,c1⟩
   rw[if_neg c1]
   refine qG (hG C hu R (oQ (by lia)) λst2 R2 s2 _ =>?_)
   simp only[vK,sJ,if_false]
   exact qK ⟨rfl,R2,by lia⟩
  case postB =>
   rintro c st' ⟨rfl,R,q⟩
   obtain ⟨runs,rest,ea,el,er,em⟩:=R.ex
   have lm:=em.length
   rw[qF] at lm
   have lr:=congrArg List.length ea
   rw[qF,szR R,qC,el] at lr
   have er0:rest=[]:=uB.mp (by lia)
   subst er0
   rw[rW] at ea
   match runs,er,lm,el,ea with
   | [],_,_,el,_=>simp at el;lia
   | [r],er,_,_,ea =>
    have e:(qN st').toList=r:=by rw[ea];simp
    exact qK (h st' R.perm (by rw[e];exact (er r (by simp)).1) R.f)
   | _ :: _ :: _,_,lm,_,_=>simp at lm;lia
 case step =>
  rintro x c st1 _ hx ⟨lo,rfl,l1,l2,R⟩
  dsimp only
  by_cases cl:lo≥(qN st).size
  ·rw[if_pos cl]
   obtain rfl:lo=(qN st).size:=by lia
   exact qK ⟨rfl,R⟩
  rw[if_neg cl]
  have s1:=szR R
  refine qG (mP C R.k (uR R) (by lia) (by lia) λn st2 n1 n2 sa2 up2 =>?_)
  dsimp only
  have R2:=R.sa sa2
  have s2:=szR R2
  by_cases cm:n<mrn (qN st).size (qN st).size 0
  case' pos =>
   rw[if_pos cm]
   refine qG (wx (uJ ⟨rfl,?_⟩))
   obtain ⟨fo,e⟩:∃fo,fo=min ((qN st).size-lo) (mrn (qN st).size (qN st).size 0):=⟨_,rfl⟩
   rw[<- e]
   refine qG (kZ C R2.k (uR R2) (by lia) (by lia) up2 λst3 sa3 up3 =>?_)
   simp only[vK,sJ,if_false]
   have R3:=R2.sa sa3
   have f0:0<fo:=by lia
   have f1:lo+fo<=(qN st).size:=by lia
  case' neg =>
   rw[if_neg cm]
   obtain ⟨fo,e⟩:∃fo,fo=n:=⟨_,rfl⟩
   subst e
   obtain ⟨st3,e3⟩:∃st3,st3=st2:=⟨_,rfl⟩
   subst e3
   have R3:=R2
   have up3:=up2
   have f0:0<fo:=n1
   have f1:lo+fo<=(qN st).size:=by lia
  all_goals
   have srt:=j4 up3
   have s3:=szR R3
   refine qG (vQ ?_)
   cases hbk:(qU st3).back? with
   | none =>
    dsimp only
    exact qG (tD (qK ⟨lo+fo,rfl,by lia,f1,R3.push f0 (by lia) srt⟩))
   | some t =>
    obtain ⟨t1,t2,t3⟩:=t
    dsimp only
    refine qG (sV (rR (I:=λ_ c st'=>c=(none,())/\Rn key κ a0 lo st'/\(qN st').toList.drop lo=(qN st3).toList.drop lo) (Q:=λc st'=>c=(none,())/\Rn key κ a0 lo st'/\(qN st').toList.drop lo=(qN st3).toList.drop lo) ?stepC ?finC ⟨rfl,R3,rfl⟩) ?postC)
    case finC=>exact λc st' q=>q
    case stepC =>
     rintro z c st4 _ _ ⟨rfl,R4,d4⟩
     refine qG (vQ ?_)
     by_cases p1:(qU st4).size>1
     ·rw[if_pos p1]
      have lt:(qU st4).size-2<(qU st4).size:=by lia
      have e:(qU st4)[(qU st4).size-2]? = some (qU st4)[(qU st4).size-2]:=by simp[lt]
      rw[e]
      dsimp only
      split
      ·exact qK ⟨rfl,R4,d4⟩
      ·refine qG (hG C hu R4 (by lia) λst5 R5 _ d5 =>?_)
       simp only[vK,sJ,if_false]
       exact qK ⟨rfl,R5,d5.trans d4⟩
     ·rw[if_neg p1]
      exact qK ⟨rfl,R4,d4⟩
    case postC =>
     rintro c st4 ⟨rfl,R4,d4⟩
     dsimp only
     have s4:=szR R4
     refine qG (tD (qG (tD (qK ⟨lo+fo,rfl,by lia,f1,?_⟩))))
     refine Rn.push ?_ f0 ?_ ?_
     ·refine Rn.mod R4 _ _ ?_
      exact λp=>⟨rfl,rfl⟩
     ·show lo+fo<=(qN st4).size
      lia
     ·show (((qN st4).toList.drop lo).take fo).Pairwise (Le key)
      rw[d4]
      exact srt
end
open PySem PyProof.Rows
structure jl (prog:qX)(w:rO)(s:qy)(vs:List qw)(O:vG)(key:qw->O.α):Prop where
 ok:2<=vs.length->∀(A:r6) (h6:Heap),(∀b o,s.heap.get? b=some o->h6.get? b=some o)->∃κ,(∀(Q:SortKind->qy->Prop) (E:qw->qy->Prop),Q κ { s with heap:=h6 }->rH (rD prog w) A (keyKind' vs.toArray) Q E { s with heap:=h6 }) ∧
  Cmp prog w A { s with heap:=h6 } O (λp=>key p.1) (λp=>p.1=p.2/\p.1∈vs) κ
section
variable  {prog:qX}{w:rO}{A:r6}{E:qw->qy->Prop}{s:qy}{O:vG}{key:qw->O.α}
theorem zs:∀vs:List qw,(vs.zip vs).map (·.2)=vs
 | []=>rfl
 | v :: vs=>by rw[wU,rz,zs vs]
theorem hI {l:List qJ}{vs:List qw}(h:l.Perm (vs.zip vs)):(l.map (·.2)).Perm vs/\∀p∈l,p.1=p.2/\p.1∈vs:=by
 have e:=zs vs
 refine ⟨by have:=h.map (·.2);rw[e] at this;exact this,λp hp =>?_⟩
 have m:=h.mem_iff.mp hp
 obtain ⟨i,hi⟩:=rJ.mp m
 rw[vq] at hi
 have e1:=hi.1.symm.trans hi.2
 exact ⟨rE e1,qV hi.1⟩
theorem fA {a:Addr}{vs:List qw}{n:Nat}{P:Fin->qy->Prop}(ho:s.heap.get? a=some (seqObj "list" vs.toArray n))(hz:vs.length<=qD)
    (hc:2<=vs.length->∀h6,(∀b o,b≠a->s.heap.get? b=some o->h6.get? b=some o)->∃κ,(∀(Q:SortKind->qy->Prop) (E:qw->qy->Prop),Q κ { s with heap:=h6 }->rH (rD prog w) A (keyKind' vs.toArray) Q E { s with heap:=h6 }) ∧
      Cmp prog w A { s with heap:=h6 } O (λp=>key p.1) (λp=>p.1=p.2/\p.1∈vs) κ)
    (h:∀out:List qw,out.Perm vs->out.Pairwise (λx y=>O.kle (key x) (key y))->P (.done (.ret .none)) { s with heap:=sortedHeap s.heap a vs out.toArray }):rH (rD prog w) A (Builtin.«list.sort» ⟨[.ref a],[]⟩) P E s:=by
  rw[list_sort_plain]
  have ha:a<s.heap.objs.size:=qP ho
  refine qA (xu ho rfl ?_)
  refine qA (w9 ho rfl ?_ (by rw[qx];exact hz) (sC _))
  obtain ⟨e1,ho1⟩:∃e1,(s.heap.update a (tV λ_ => #[])).get? a=some (seqObj "list" #[] e1):=⟨_,get?_update_seq ho (λ_ => #[])⟩
  refine qA (seqEpoch_at ho1 rfl (qA (wpAny_newTuple ?_ (by exact hz))))
  refine qA (xb ?_ (sC _))
  refine uh ?_
  generalize hH:((s.heap.update a (tV λ_ => #[])).push (seqObj "tuple" vs.toArray 0)).push (seqObj "list" #[] 0)=h6
  have kp:∀b o,b≠a->s.heap.get? b=some o->h6.get? b=some o:=λb o nb e=>by
    rw[<- hH]
    refine qB _ (qB _ ?_)
    rw[wJ _ _ _ _ nb]
    exact e
  have ho6:h6.get? a=some (seqObj "list" #[] e1):=by
    rw[<- hH]
    exact qB _ (qB _ ho1)
  have eH:∀out:List qw,sortedHeap s.heap a vs out.toArray=h6.update a (tV λ_=>out.toArray):=λout=>by rw[<- hH];rfl
  have go:∀st':qY,(qN st').toList.Perm (vs.zip vs)->(qN st').toList.Pairwise (λp q=>O.kle (key p.1) (key q.1))->failedOf st'=none →
      rH (rD prog w) A (do
        let sorted:=(qN st').map (·.2)
        let touched:=(← seqEpoch a) != e1
        Builtin.List.listUpdate (.ref a) λ_=>sorted
        if let some e:=failedOf st' then rule "list.sort.comparison-raised";throw e
        if touched then rule "list.sort.modified";raiseError "ValueError" "list modified during sort"
        ret .none) P E { s with heap:=h6 }:=by
    intro st' pm ps hf
    obtain ⟨z1,z2⟩:=hI pm
    have em:(qN st').map (·.2)=((qN st').toList.map (·.2)).toArray:=by
      apply vT.mp
      rw[Array.toList_map]
    dsimp only
    refine qA (seqEpoch_at ho6 rfl ?_)
    refine qA (w9 ho6 rfl ?_ (sC _) (by rw[Array.size_map, <- qF,pm.length_eq,xG,wg];lia))
    rw[hf]
    simp only[bne_self_eq_false,sJ,if_false]
    refine qR ?_
    rw[em, <- eH]
    refine h _ z1 (vA.mpr (ps.imp_of_mem λ{p q} hp hq le =>?_))
    rw[<- (z2 p hp).1, <- (z2 q hq).1]
    exact le
  by_cases h2:vs.toArray.size<2
  · rw[if_pos h2,if_pos h2]
    refine qA (qR ?_)
    dsimp only
    rw[StateT.run_pure]
    refine qA (qR ?_)
    refine go (SortSt.mk' general' (vs.toArray.zip vs.toArray) #[] 7 none) (by show (vs.toArray.zip vs.toArray).toList.Perm _;simp) ?_ rfl
    rw[qx] at h2
    have et:(vs.toArray.zip vs.toArray).toList=vs.zip vs:=by simp
    show (vs.toArray.zip vs.toArray).toList.Pairwise (λ(p q:qJ)=>O.kle (key p.1) (key q.1))
    rw[et]
    have short:∀us:List qw,us.length<2->(us.zip us).Pairwise (λ(p q:qJ)=>O.kle (key p.1) (key q.1)):=λus hu=>by
      match us,hu with
      | [],_=>exact List.Pairwise.nil
      | [v],_=>exact tj _ _
      | _ :: _ :: _,hu=>simp only[rG] at hu;lia
    exact short vs h2
  · rw[if_neg h2,if_neg h2]
    rw[qx] at h2
    obtain ⟨κ,k1,C⟩:=hc (by lia) h6 kp
    refine qA (k1 _ _ ?_)
    have et:(vs.toArray.zip vs.toArray).toList=vs.zip vs:=by simp
    refine qA (sT (k8 C (E:=E) (a0:=vs.zip vs) (st:=SortSt.mk' κ (vs.toArray.zip vs.toArray) #[] 7 none)
      (Q:=λ_ st'=>(qN st').toList.Perm (vs.zip vs)/\(qN st').toList.Pairwise (Le λ(p:qJ)=>key p.1)/\failedOf st'=none)
      (hI (vt _)).2 et rfl rfl rfl (by rw[xG,wg];lia) λst' a1 a2 a3=>⟨a1,a2,a3⟩) ?_ λ_ _ e=>e)
    rintro ⟨⟨⟩,st'⟩ s' ⟨rfl,hp,hs,hf⟩
    exact go st' hp hs hf
def hJ (prog:qX)(w:rO)(s:qy)(v:qw)(vs:List qw):Prop :=
 ∀(A:r6) (E:qw->qy->Prop) (R:List qw->qy->Prop),(∀h1,(∀b o,s.heap.get? b=some o->h1.get? b=some o)->s.heap.objs.size<=h1.objs.size->R vs { s with heap:=h1 })->rH (rD prog w) A (collect v) R E s
theorem iN {v:qw}{vs:List qw}{Q:qw->qy->Prop}(hv:hJ prog w s v vs)(hz:vs.length<=qD)(C:jl prog w s vs O key)
  (h:∀(h':Heap) (p:Addr) (out:List qw) (n:Nat),(∀b o,s.heap.get? b=some o->h'.get? b=some o)->s.heap.objs.size<=p->h'.get? p=some (seqObj "list" out.toArray n)->out.Perm vs->out.Pairwise (λx y=>O.kle (key x) (key y))->Q (.ref p) { s with heap:=h' }) :
  rH (rD prog w) A (call (.builtin "sorted") [v]) Q E s:=by
 refine Calls.call_function_entry kind_sorted plain_sorted entry_sorted (args_sorted1 _) ?_
 unfold Builtin.«sorted»
 refine qA (m:=checkCount "sorted" 1 1 _) (qR ?_)
 refine qA (hv _ _ _ λh1 k1 z1=>qA (xb ?_ hz))
 have hoL:(h1.push (seqObj "list" vs.toArray 0)).get? h1.objs.size=some (seqObj "list" vs.toArray 0):=q8 _ rfl
 have kL:∀b o,s.heap.get? b=some o->(h1.push (seqObj "list" vs.toArray 0)).get? b=some o:=λb o e=>qB _ (k1 b o e)
 refine qA (uh (vW slot_list_sort ⟨_,hoL,rfl⟩ entry_list_sort (fA (key:=key) (O:=O) hoL hz (λh2 h6 k6 =>?_) λout pm ps=>⟨_,rfl,?_⟩) (args_list_sort _)))
 ·exact C.ok h2 _ h6 λb o e=>k6 b o (rM (qM (qP e) z1)) (kL b o e)
 ·obtain ⟨n,en⟩:=sortedHeap_at (out:=out.toArray) hoL
  refine qR ⟨_,rfl,h _ _ out n (λb o e =>?_) z1 en pm ps⟩
  have lt:=qM (qP e) z1
  rw[sortedHeap_old (rM lt) (by rw[size_push'];exact Nat.lt_succ_of_lt lt)]
  exact kL b o e
theorem gE {l:Addr}{o:Obj}{vs:List qw}{n:Nat}(ho:s.heap.get? l=some o)(hc:o.cls = .type "list" \/ o.cls = .type "tuple")(hd:o.data = .seq vs.toArray n)(hz:vs.length<=qD):hJ prog w s (.ref l) vs:=by
  intro A E R h
  unfold collect
  refine qA (wpAny_runValue (tN entry_proto_collect' ?_))
  show rH _ _ (do again (.builtin "list.__iadd__" ⟨[<- newList [],.ref l],[]⟩)) _ _ s
  refine qA (xb (qR ⟨wV _ (by decide +kernel),tN entry_list_iadd' ?_⟩))
  show rH _ _ (ue (.ref s.heap.objs.size) (.ref l) (.ref s.heap.objs.size)) _ _ { s with heap:=s.heap.push (seqObj "list" #[] 0) }
  unfold ue
  have ho':(s.heap.push (seqObj "list" #[] 0)).get? l=some o:=qB _ ho
  have cond:∀T,o.cls = .type T->(T = "list" \/ T = "tuple")->rH (rD prog w) A (typeOf (.ref l)) (λt s'=>t = .type T/\s'={ s with heap:=s.heap.push (seqObj "list" #[] 0) }) E { s with heap:=s.heap.push (seqObj "list" #[] 0) }:=λT e _=>ud (T:=T) ⟨o,ho',e⟩ ⟨rfl,rfl⟩
  obtain ⟨T,eT,hT⟩:∃T,o.cls = .type T/\(T = "list" \/ T = "tuple"):=by
    rcases hc with hc | hc
    · exact ⟨_,hc,.inl rfl⟩
    · exact ⟨_,hc,.inr rfl⟩
  refine qA (ud (T:=T) ⟨o,ho',eT⟩ ?_)
  rw[if_pos (by rcases hT with rfl | rfl <;> simp)]
  refine qA (xu ho' hd ?_)
  refine qA (xu (xs := #[]) (n:=0) (q8 _ rfl) rfl ?_)
  rw[if_neg (by simp)]
  refine qA (w9 (xs := #[]) (n:=0) (q8 _ rfl) rfl ?_ (sC _) (by show (#[]++vs.toArray).size<=qD+1;simp only[ug,qx,xD];lia))
  refine qR ?_
  show rH (rD prog w) A (do
      let o ← load s.heap.objs.size
      match o.data with
      | .seq xs _=>pure xs.toList
      | _=>unsupported "internal:collect") R E { s with heap:=(s.heap.push (seqObj "list" #[] 0)).update s.heap.objs.size (tV (· ++ vs.toArray)) }
  refine qA (xY (get?_update_seq (q8 _ rfl) _) ?_)
  show rH _ _ (pure ((#[]:Array qw)++vs.toArray).toList) R E _
  rw[show ((#[]:Array qw)++vs.toArray).toList=vs by simp]
  refine qR (h _ (λb ob e =>?_) ?_)
  · rw[wJ _ _ _ _ (rM (qP e))]
    exact qB _ e
  · rw[Heap.size_update,size_push']
    exact Nat.le_succ _
end
open PySem PyProof.Rows
theorem lex_irrefl:∀a,HT.lexLt a a=false
 | []=>rfl
 | x :: xs=>by rw[HT.cj,if_pos rfl];exact lex_irrefl xs
theorem lex_trans:∀a b c,HT.lexLt a b=true->HT.lexLt b c=true->HT.lexLt a c=true
 | [],[],_,h,_=>by cases h
 | [],_ :: _,[],_,h=>by cases h
 | [],_ :: _,_ :: _,_,_=>rfl
 | _ :: _,[],_,h,_=>by cases h
 | _ :: _,_ :: _,[],_,h=>by cases h
 | x :: xs,y :: ys,z :: zs,h1,h2=>by
  rw[HT.cj] at *
  by_cases e1:x=y
  ·subst e1
   rw[if_pos rfl] at h1
   by_cases e2:x=z
   ·rw[if_pos e2] at h2 ⊢
    exact lex_trans xs ys zs h1 h2
   ·rw[if_neg e2] at h2 ⊢
    exact h2
  ·rw[if_neg e1] at h1
   have l1:=of_decide_eq_true h1
   by_cases e2:y=z
   ·subst e2
    rw[if_neg e1]
    exact h1
   ·rw[if_neg e2] at h2
    have l2:=of_decide_eq_true h2
    rw[if_neg (by omega)]
    exact decide_eq_true (by omega)
theorem cU:∀a b,HT.lexLt a b=false->HT.lexLt b a=false->a=b
 | [],[],_,_=>rfl
 | [],_ :: _,h,_=>by cases h
 | _ :: _,[],_,h=>by cases h
 | x :: xs,y :: ys,h1,h2=>by
  rw[HT.cj] at *
  by_cases e:x=y
  ·subst e
   rw[if_pos rfl] at h1 h2
   rw[cU xs ys h1 h2]
  ·rw[if_neg e] at h1
   rw[if_neg (uv e)] at h2
   have a1:=of_decide_eq_false h1
   have a2:=of_decide_eq_false h2
   omega
theorem mQ (a b c:List Int)(h:HT.lexLt a c=true):HT.lexLt a b=true\/HT.lexLt b c=true:=by
 cases h1:HT.lexLt a b with
 | true=>exact .inl rfl
 | false =>
  right
  cases h2:HT.lexLt b a with
  | true=>exact lex_trans b a c h2 h
  | false=>rw[<- cU a b h1 h2];exact h
def lexOrd:vG where
 α:=List Int
 blt:=HT.lexLt
 irrefl:=lex_irrefl
 trans:=lex_trans
 negTrans:=mQ
 total:=cU
def intOf:qw->Int
 | .int i _=>i
 | _=>0
section
variable  {prog:qX}{w:rO}{A:r6}{E:qw->qy->Prop}{s:qy}
def cu (h:Heap)(v:qw):List Int:=match v with
 | .ref p=>match h.get? p with
  | some o=>match o.data with
   | .seq xs _=>xs.toList.map intOf
   | _=>[]
  | none=>[]
 | _=>[]
def cv (h:Heap)(v:qw)(ns:List Int):Prop:=∃p o xs n,v = .ref p/\h.get? p=some o/\o.cls = .type "tuple" /\ o.data = .seq xs n/\vb xs.toList ns
theorem ints_map:∀{vs:List qw} {ns:List Int},vb vs ns->vs.map intOf=ns
 | _,_,.nil=>rfl
 | _,_,.cons n t r=>by rw[rz,ints_map r];rfl
theorem cv.ints {h:Heap}{v:qw}{ns:List Int}(x:cv h v ns):cu h v=ns:=by
 obtain ⟨p,o,xs,n,rfl,e,_,d,r⟩:=x
 unfold cu
 dsimp only
 rw[e]
 dsimp only
 rw[d]
 exact ints_map r
theorem cv.keeps {h h':Heap}{v:qw}{ns:List Int}(x:cv h v ns)(k:∀b o,h.get? b=some o->h'.get? b=some o):cv h' v ns:=by
 obtain ⟨p,o,xs,n,rfl,e,r⟩:=x
 exact ⟨p,o,xs,n,rfl,k _ _ e,r⟩
theorem hR {fin:Bool}{Q:Bool->qy->Prop}:∀{us ws:List qw} {ns ms:List Int} (i:Nat),vb us ns->vb ws ms->(fin=true↔(decide (ns.length<ms.length)=true))->Q (HT.lexLt ns ms) s →
  PySem.W.KatLex prog w A true fin Q (us.zip ws) i s
 | _,_,_,_,i,.nil,.nil,hf,q=>by
  refine wj ?_
  have e:fin=false:=by cases fin with
   | false=>rfl
   | true=>have:=hf.mp rfl;simp at this
  rw[e];exact q
 | _,_,_,_,i,.nil,.cons _ _ _,hf,q=>by
  refine wj ?_
  have e:fin=true:=hf.mpr (by simp)
  rw[e];exact q
 | _,_,_,_,i,.cons _ _ _,.nil,hf,q=>by
  refine wj ?_
  have e:fin=false:=by cases fin with
   | false=>rfl
   | true=>have:=hf.mp rfl;simp at this
  rw[e];exact q
 | _,_,_,_,i,.cons (ns:=ns) a t r,.cons (ns:=ms) c u r',hf,q=>by
  rw[wU]
  refine PySem.W.kat_cons (wpAny_eqBool_int ?_)
  rw[HT.cj] at q
  by_cases e:a=c
  ·rw[if_pos e] at q
   rw[beq_iff_eq.mpr e]
   exact PySem.W.kat_yes (hR (i+1) r r' (by rw[hf];simp) q)
  ·rw[if_neg e] at q
   rw[beq_eq_false_iff_ne.mpr e]
   refine PySem.W.kat_no ?_
   by_cases i0:(true && i == 0)=true
   ·rw[i0]
    exact oneLt_int q
   ·rw[xj.mpr i0,oneLt'_eq]
    simp only[sJ,if_false]
    refine qA (HT.kD _ _ a t c u prog w _ _ ?_)
    exact tx q
theorem e7 {h:Heap}:∀{vs:List qw},(∀v∈vs,∃ns,cv h v ns/\ns≠[])->∃fs,PySem.W.KatTups h vs fs/\fs.length=vs.length/\∀f∈fs,∃i t,f = .int i t
 | [],_=>⟨[],trivial,rfl,λf hf=>by cases hf⟩
 | v :: vs,hv=>by
  obtain ⟨fs,t,l,hf⟩:=e7 λu hu=>hv u (qZ _ hu)
  obtain ⟨ns,⟨p,o,xs,n,rfl,e,c,d,r⟩,ne⟩:=hv v rk
  have hx:∃i t,xs[0]? = some (.int i t):=by
   rw[<- qL]
   generalize xs.toList=l at r
   cases r with
   | nil=>exact absurd rfl ne
   | cons i t r=>exact ⟨i,t,rfl⟩
  obtain ⟨i,t',hx⟩:=hx
  exact ⟨.int i t' :: fs,yc e c d hx t,by rw[rG,rG,l],λf hf'=>by
   rcases rU.mp hf' with q | q
   ·exact ⟨i,t',q⟩
   ·exact hf f q⟩
theorem gF {vs:List qw}(hv:∀v∈vs,∃ns,cv s.heap v ns/\ns≠[]):jl prog w s vs lexOrd (cu s.heap):=by
 refine ⟨λh2 A h6 k6=>⟨tuples' true,λQ E q =>?_,⟨λE st x y Q hk hx hy q =>?_⟩⟩⟩
 ·obtain ⟨fs,t,l,hf⟩:=e7 (h:=h6) (vs:=vs) λv hv'=>by
   obtain ⟨ns,i,ne⟩:=hv v hv'
   exact ⟨ns,i.keeps k6,ne⟩
  refine PySem.W.kat_kind (T :=.type "int") t (by lia) (λf hf' =>?_) rfl q
  obtain ⟨i,t',rfl⟩:=hf f hf'
  exact yb rfl
 ·obtain ⟨ns,i1,_⟩:=hv _ hx.2
  obtain ⟨ms,i2,_⟩:=hv _ hy.2
  have q':Q (some (HT.lexLt (cu s.heap x.1) (cu s.heap y.1))) st:=q
  rw[i1.ints,i2.ints] at q'
  obtain ⟨p1,o1,xs1,n1,e1,g1,c1,d1,r1⟩:=i1.keeps k6
  obtain ⟨p2,o2,xs2,n2,e2,g2,c2,d2,r2⟩:=i2.keeps k6
  rw[lt'_eq]
  refine qG (vQ ?_)
  rw[hk,e1,e2]
  have l1:=r1.length
  have l2:=r2.length
  refine qG (wx (wpAny_attempt (PySem.W.kat_lt g1 d1 g2 d2 (hR 0 r1 r2 ?_ ⟨rfl,?_⟩))))
  ·rw[<- l1, <- l2,qF,qF]
  ·exact qK q'
end
end Srt
namespace L2
open PySem PySem.Spec PyProof.Rows
theorem iO {α β:Type}{f:α -> β}:∀{l:List β} {m:List α},l.Perm (m.map f)->∃m':List α,m'.Perm m/\l=m'.map f:=by
 intro l m h
 generalize hk:m.map f=k at h
 induction h generalizing m with
 | nil =>
  have:m=[]:=List.map_eq_nil_iff.mp hk
  exact ⟨[],by rw[this],rfl⟩
 | cons x _ ih =>
  match m,hk with
  | y :: m,hk =>
   rw[rz] at hk
   injection hk with h1 h2
   obtain ⟨m',p,e⟩:=ih h2
   exact ⟨y :: m',p.cons y,by rw[rz, <- e,h1]⟩
  | [],hk=>cases hk
 | swap x y l =>
  match m,hk with
  | a :: b :: m,hk =>
   rw[rz,rz] at hk
   injection hk with h1 h2
   injection h2 with h2 h3
   exact ⟨b :: a :: m,List.Perm.swap a b m,by rw[rz,rz,h1,h2,h3]⟩
  | [],hk=>cases hk
  | [_],hk=>simp at hk
 | trans _ _ ih1 ih2 =>
  obtain ⟨m',p,e⟩:=ih2 hk
  obtain ⟨m'',p',e'⟩:=ih1 e.symm
  exact ⟨m'',p'.trans p,e'⟩
theorem gG:∀{ns:List Int} {us:List qw},Vals (ns.map V.int) us->vb us ns:=λr=>intsAre_of r
theorem fT:∀{α:Type} {f:α -> Addr} {ps:List α} {us:List qw},Vals (ps.map λx=>V.ref (f x)) us->us=ps.map λx=>qW (f x)
 | _,_,[],_,r=>by cases r;rfl
 | _,f,p :: ps,_,r=>by
  cases r with
  | cons h t=>rw[rz, <- fT t,show _=qW (f p) from h]
theorem fU {α:Type}{f:α -> Addr}:∀{ps:List α},Vals (ps.map λx=>V.ref (f x)) (ps.map λx=>qW (f x))
 | [] =>.nil
 | p :: ps =>.cons rfl fU
section
variable  {X:Cx}
theorem Inv.k9 {pins:List (Addr×Obj)}{σ:St}{H:Hp}{s:qy}{p:Addr}{ys:List V}(I:Inv X pins σ H s)(h:SqL X.K H p ys\/SqT X.K H p ys) :
  ∃(its:List qw) (o:Obj) (n:Nat),Vals ys its/\s.heap.get? p=some o/\(o.cls = .type "list" \/ o.cls = .type "tuple")/\o.data = .seq its.toArray n/\ys.length<=qD:=by
 rcases h with h | h
 ·obtain ⟨its,r,⟨o,n,e,c,_,d⟩,z⟩:=I.list h
  exact ⟨its,o,n,r,e,.inl c,d,z⟩
 ·obtain ⟨its,r,⟨o,e,c,n,d⟩,z⟩:=I.tuple h
  exact ⟨its,o,n,r,e,.inr c,d,z⟩
theorem Inv.newList {pins:List (Addr×Obj)}{σ:St}{H:Hp}{s:qy}{h':Heap}{p:Addr}{ys:List V}{its:List qw}{n:Nat}(I:Inv X pins σ H s)(k:∀b o,s.heap.get? b=some o->h'.get? b=some o)(hp:s.heap.objs.size<=p)
  (e:h'.get? p=some { cls :=.type "list",data :=.seq its.toArray n }) (r:Vals ys its) (hz:ys.length<=qD):Inv X pins σ (upd H p (.lst ys)) { s with heap:=h' } :=
 I.laid (t':=s.toks) k hp ⟨hz,its,n,r,e⟩
theorem ba:bM X (.builtin "sorted") (λxs H Q=>∃(p:Addr) (ts:List (Addr×List Int)),xs=[.ref p]/\(SqL X.K H p (ts.map λt =>.ref t.1)\/SqT X.K H p (ts.map λt =>.ref t.1))/\(∀t∈ts,SqT X.K H t.1 (t.2.map V.int)/\t.2≠[]) ∧
  ∀(l:Addr) (out:List (Addr×List Int)),H l=none->out.Perm ts->out.Pairwise (λa b=>HT.lexLt b.2 a.2=false)->Q (.ref l) (upd H l (.lst (out.map λt =>.ref t.1)))):=by
 intro pins s σ H xs us Q I r h
 obtain ⟨p,ts,rfl,hs,ht,q⟩:=h
 obtain ⟨u,rfl,ru⟩:=vals1 r
 cases (show u=qW p from ru)
 obtain ⟨its,o,n,rv,e,c,d,z⟩:=I.k9 hs
 have ei:=fT rv
 have lz:its.length<=qD:=by rw[<- rv.length];exact z
 have tup:∀t∈ts,Srt.cv s.heap (qW t.1) t.2:=λt hm=>by
  obtain ⟨jts,jr,⟨jo,je,jc,jn,jd⟩,_⟩:=I.tuple (ht t hm).1
  exact ⟨t.1,jo,_,jn,rfl,je,jc,jd,by simpa using gG jr⟩
 have hv:∀v∈its,∃ns,Srt.cv s.heap v ns/\ns≠[]:=λv hv=>by
  rw[ei] at hv
  obtain ⟨t,hm,rfl⟩:=sj.mp hv
  exact ⟨t.2,tup t hm,(ht t hm).2⟩
 refine Srt.iN (Srt.gE e c d lz) lz (Srt.gF hv) λh' l out m k hl el pm ps =>?_
 rw[ei] at pm
 obtain ⟨out',pm',rfl⟩:=iO pm
 refine ⟨.ref l,_,I.newList k hl el fU (by rw[qu,pm'.length_eq, <- qu (f:=λt:Addr×List Int=>V.ref t.1)];exact z),rfl,q l _ (I.hok.fresh hl) pm' ?_⟩
 refine (vA.mp ps).imp_of_mem λ{a b} ha hb le =>?_
 have le':HT.lexLt (Srt.cu s.heap (qW b.1)) (Srt.cu s.heap (qW a.1))=false:=le
 rw[(tup a (pm'.mem_iff.mp ha)).ints,(tup b (pm'.mem_iff.mp hb)).ints] at le'
 exact le'
end
open PySem PySem.Spec PyProof.Rows
def SB (r:Addr)(H H':Hp):Prop:=∀b u,b≠r->H b=some u->H' b=some u
theorem SB.refl (r:Addr)(H:Hp):SB r H H:=λ_ _ _ h=>h
theorem SB.trans {r:Addr}{H H1 H2:Hp}(a:SB r H H1)(b:SB r H1 H2):SB r H H2:=λc u n h=>b c u n (a c u n h)
theorem aF.sb {r:Addr}{H H':Hp}(a:aF H H'):SB r H H':=λc u _ h=>a c u h
theorem SB.put {r:Addr}{H:Hp}(o:HO):SB r H (upd H r o):=λc u n h=>by rw[az n];exact h
theorem SB.new {r p:Addr}{H:Hp}(h:H p=none)(o:HO):SB r H (upd H p o):=aF.sb (af h o)
def Lf (r:Addr)(H:Hp):Prop:=∃n:Int,H r=some (.lst [.int n])
theorem Lf.same {r:Addr}{H H':Hp}(a:Lf r H)(s:aF H H'):Lf r H':=by obtain ⟨n,e⟩:=a;exact ⟨n,s _ _ e⟩
theorem Lf.ne {r b:Addr}{H:Hp}(a:Lf r H)(h:H b=none):b≠r:=by
 obtain ⟨n,e⟩:=a
 exact uv (ax e h)
theorem Lf.neT {r b:Addr}{H:Hp}{xs:List V}(a:Lf r H)(h:H b=some (.tup xs)):b≠r:=by
 obtain ⟨n,e⟩:=a
 exact nq h e (by intro z;cases z)
def Tp (H H':Hp):Prop:=∀b xs,H b=some (.tup xs)->H' b=some (.tup xs)
theorem aF.tp {H H':Hp}(a:aF H H'):Tp H H':=λc u h=>a c _ h
theorem SB.tp {r:Addr}{H H':Hp}(a:SB r H H')(l:Lf r H):Tp H H':=λc u h=>a c _ (l.neT h) h
def mnI (a b:Int):Int:=if b<a then b else a
def mxI (a b:Int):Int:=if b>a then b else a
def nrm (a b:Int):List Int:=[mnI a b,mxI a b]
theorem fb (a b:Int):nrm a b=nrm b a:=by
 have h1:mnI a b=mnI b a:=by unfold mnI;split <;> split <;> lia
 have h2:mxI a b=mxI b a:=by unfold mxI;split <;> split <;> lia
 unfold nrm
 rw[h1,h2]
def hU (a b:List Int):Prop:=HT.lexLt b a=false
theorem cb:∀{l m:List (List Int)},l.Perm m->l.Pairwise hU->m.Pairwise hU->l=m
 | [],m,p,_,_=>(List.Perm.nil_eq p)
 | a :: l,[],p,_,_=>absurd p.length_eq (by simp)
 | a :: l,b :: m,p,h1,h2=>by
  have e:a=b:=by
   have ha:a∈b :: m:=p.mem_iff.mp rk
   have hb:b∈a :: l:=p.mem_iff.mpr rk
   rcases rU.mp ha with z | z
   ·exact z
   rcases rU.mp hb with y | y
   ·exact y.symm
   have q1:=(tH.mp h1).1 b y
   have q2:=(tH.mp h2).1 a z
   exact Srt.cU a b q2 q1
  subst e
  rw[cb ((List.perm_cons a).mp p) (tH.mp h1).2 (tH.mp h2).2]
open PySem PySem.Spec PyProof.Rows
section
variable  {X:Cx}{tg:Expr}
end
theorem fc {X:Cx}{K:qv}{x y:Str}{i j k:Nat}{p p' pos:Pos}(hN:X.N.Nodup)(hi:X.N[i]? = some x)(hj:X.N[j]? = some y)(hx:Loc X.env.scope x)(hy:Loc X.env.scope y)(hc:X.calm=true:=by rfl)(h:X.K=K:=by rfl)
  (hf:X.fn x=true\/X.env.scope.names.lookup x=some .local:=by first | exact .inl rfl | exact .inr rfl) (hg:X.fn y=true\/X.env.scope.names.lookup y=some .local:=by first | exact .inl rfl | exact .inr rfl):PG X (.Tuple [.Name x p,.Name y p'] k pos) (kM K i j):=by
 subst h
 exact iz hc (bX (aW hN hi hx hf) (bX (aW hN hj hy hg) gq))
open PySem PySem.Spec PyProof.Rows
section
variable  {X:Cx}
def tBMT (r:V->List V->Hp->VK->Prop)(to:TE)(t:TA):TE:=λσ H Q=>to σ H λx H1=>(∃p xs,x = .ref p/\H1 p=some (.tup xs))/\t σ H1 λxs H2=>r x xs H2 Q
theorem lb {o e:Expr}{es:List Expr}{to:TE}{t:TA}{name:Str}{apos cpos:Pos}{id:String}{r:V->List V->Hp->VK->Prop}(slot:Slot "tuple" name id)(hty:typeOf (.builtin id)=pure (.type "method_descriptor"))(hm:MtR X id r)(ho:PE X o to)(ha:PA X (e :: es) t)
  (hbase:attributeBase o name X.env (eval o X.env)=eval o X.env:=by rfl)
  (hfew:((u0 cpos (rL (e :: es) X.env)).all (λx => !x.1) && (backToKw cpos (keywordEach [] X.env)).all (λx=>x.1.isSome)
   && decide ((e :: es).length+([]:List Keyword).length+(if ([]:List Keyword).isEmpty then 0 else 1)<30))=true:=by rfl)
  (hline:(apos.endLine == cpos.line)=true:=by rfl) (hs:rL (e :: es) X.env=(false,eval e X.env) :: rL es X.env:=by rfl) (hplain:(u0 cpos (rL es X.env)).any (·.1)=false:=by rfl) :
  PE X (.Call (.Attribute o name apos) (e :: es) [] cpos) (tBMT r to t):=by
 intro pins s σ H Q I h
 refine v7 hbase hfew hline rfl (thn (ho pins s σ H _ I h) λv s1 ⟨x,H1,I1,r1,ty,q1⟩ =>?_)
 obtain ⟨p,xs,rfl,hp⟩:=ty
 cases (show v=qW p from r1)
 obtain ⟨_,its,_,ob,e1,⟨c1,d1⟩,n,s1'⟩:=(show aX X.prog X.w H1 s1.heap p (.tup xs) from I1.hok p _ hp)
 refine ⟨"tuple",id,PySem.F.plainAttrs_tuple,slot,hty,⟨ob,e1,c1⟩,λa e=>by cases e;exact ⟨ob,e1,d1⟩,?_⟩
 have hA:=ha cpos pins s1 σ H1 _ I1 q1
 rw[hs] at hA ⊢
 refine vZ (by show (false || (u0 cpos (rL es X.env)).any (·.1))=false;rw[hplain] <;> rfl) (uV ?_)
 exact thn hA λus s2 ⟨vs,H2,I2,r2,q2⟩=>hm pins s2 σ H2 (.ref p) vs _ us Q I2 rfl r2 q2
theorem fV:∀{ns:List Int} {xs:List qw} {prog:qX} {w:rO},vb xs ns->ItemsAre (intKind prog w) ns xs
 | _,_,_,_,.nil =>.nil
 | _,_,_,_,.cons n t r =>.cons (intKind_is _ _ _ _) (fV r)
theorem Inv.tkA {pins:List (Addr×Obj)}{σ:St}{H:Hp}{s:qy}(I:Inv X pins σ H s){b:Addr}{ns:List Int}(h:SqT X.K H b (ns.map V.int))(prog:qX)(w:rO):IsTupleKey (intKind prog w) s.heap ns b:=by
 obtain ⟨its,r,⟨o,e,c,n,d⟩,_⟩:=I.tuple h
 exact ⟨o,_,n,e,c,d,fV (by simpa using intsAre_of r)⟩
theorem Inv.eqT {pins:List (Addr×Obj)}{σ:St}{H:Hp}{s:qy}(I:Inv X pins σ H s){A:r6}(hu:A.units<cLine){a b:Addr}{ns ms:List Int}(h1:SqT X.K H a (ns.map V.int))(h2:SqT X.K H b (ms.map V.int)):uK A s (.ref a) (.ref b) (decide (ns=ms)) :=
 λprog w E Q q=>wpAny_eqBool_tuple hu (I.tkA h1 prog w) (I.tkA h2 prog w) q
theorem bF:∀{ps:List (Addr×List Int)} {us:List qw},Vals (ps.map λx=>V.ref x.1) us->us=ps.map λx=>qW x.1
 | [],_,r=>by cases r;rfl
 | p :: ps,_,r=>by
  cases r with
  | cons h t=>rw[rz, <- bF t,show _=qW p.1 from h]
noncomputable def bE (ts:List (Addr×List Int))(m:List Int):qw->Bool:=λv=>decide (∃t∈ts,v = .ref t.1/\t.2=m)
theorem bg {pins:List (Addr×Obj)}{σ:St}{H:Hp}{s:qy}(I:Inv X pins σ H s){ts:List (Addr×List Int)}(ht:∀t∈ts,SqT X.K H t.1 (t.2.map V.int)){m:List Int}{t:Addr×List Int}(hm:t∈ts):bE ts m (.ref t.1)=decide (t.2=m):=by
 unfold bE
 by_cases e:t.2=m
 ·rw[decide_eq_true e,decide_eq_true ⟨t,hm,rfl,e⟩]
 ·rw[decide_eq_false e,decide_eq_false]
  rintro ⟨t',m',e1,e2⟩
  injection e1 with e1
  have:=I.fE (ht t hm) (by rw[e1];exact ht t' m')
  have inj:Function.Injective V.int:=λa b h=>by injection h
  have:t.2=t'.2:=(List.map_inj_right (λx y h=>inj h)).mp this
  exact e (this.trans e2)
theorem fg {pins:List (Addr×Obj)}{σ:St}{H:Hp}{s:qy}(I:Inv X pins σ H s){ts:List (Addr×List Int)}(ht:∀t∈ts,SqT X.K H t.1 (t.2.map V.int)){m:List Int}:∀us:List (Addr×List Int),(∀t∈us,t∈ts)->(us.map λt=>qW t.1).countP (bE ts m)=(us.map (·.2)).count m
 | [],_=>rfl
 | u :: us,h=>by
  rw[rz,rz,List.countP_cons,List.count_cons,fg I ht us (λt hm=>h t (qZ _ hm)),bg I ht (h u rk)]
  by_cases e:u.2=m
  ·rw[decide_eq_true e,e];simp
  ·rw[decide_eq_false e];simp[e]
theorem gH {pins:List (Addr×Obj)}{σ:St}{H:Hp}{s:qy}(I:Inv X pins σ H s){ts:List (Addr×List Int)}(ht:∀t∈ts,SqT X.K H t.1 (t.2.map V.int)){m:List Int}:∀us:List (Addr×List Int),(∀t∈us,t∈ts)->(us.map λt=>qW t.1).any (bE ts m)=decide (m∈us.map (·.2))
 | [],_=>by simp
 | u :: us,h=>by
  rw[rz,rz,vJ,gH I ht us (λt hm=>h t (qZ _ hm)),bg I ht (h u rk)]
  by_cases e:u.2=m
  ·rw[decide_eq_true e,e];simp
  ·rw[decide_eq_false e,x8]
   have:(m∈u.2 :: us.map (·.2))↔m∈us.map (·.2):=by
    rw[rU]
    exact ⟨λh=>h.elim (λh=>absurd h.symm e) id,.inr⟩
   exact decide_eq_decide.mpr this.symm
theorem iP (hu:X.A.units+8<cLine):MtR X "tuple.count" (λx vs H Q=>∃(p b:Addr) (ts:List (Addr×List Int)) (m:List Int),x = .ref p/\vs=[.ref b]/\H p=some (.tup (ts.map λt =>.ref t.1))/\(∀t∈ts,H t.1=some (.tup (t.2.map V.int)))/\H b=some (.tup (m.map V.int))/\Q (.int ((ts.map (·.2)).count m:Nat)) H):=by
 intro pins s σ H x vs v us Q I rx rv h
 obtain ⟨p,b,ts,m,rfl,rfl,hp,ht,hb,q⟩:=h
 cases rx
 obtain ⟨u,rfl,ru⟩:=vals1 rv
 cases (show u=qW b from ru)
 have ht':∀t∈ts,SqT X.K H t.1 (t.2.map V.int):=λt hm=>SqT.of (ht t hm)
 obtain ⟨z,its,r,ob,e1,⟨c1,d1⟩,n,s1⟩:=(show aX X.prog X.w H s.heap p (.tup _) from I.hok p _ hp)
 have ei:=bF r
 obtain ⟨cls,dd,data,sl⟩:=ob
 simp only at c1 s1
 subst c1 s1
 refine u5 vB ⟨_,e1,rfl⟩ PySem.F.entry_tuple_count (PySem.F.args_tuple_count_2 _ _) (SeqAt.tuple_countAt p its.toArray n dd sl (.ref b) (bE ts m)) ⟨e1,λy hy =>?_,?_⟩
 ·have hy':y∈its:=by simpa using hy
  rw[ei] at hy'
  obtain ⟨t,hm,rfl⟩:=sj.mp hy'
  rw[bg I ht' hm]
  exact I.eqT (by show X.A.units+1<cLine;lia) (ht' t hm) (SqT.of hb)
 ·rw[show its.toArray.toList=its from rfl,ei,fg I ht' ts (λt h=>h)]
  exact ⟨.int _,H,I.tok _,⟨_,rfl⟩,q⟩
theorem mR (hu:X.A.units+8<cLine):OpR X (tJ .In) (λx y H Q=>∃(p b:Addr) (ts:List (Addr×List Int)) (m:List Int),x = .ref b/\y = .ref p/\H p=some (.tup (ts.map λt =>.ref t.1))/\(∀t∈ts,H t.1=some (.tup (t.2.map V.int)))/\H b=some (.tup (m.map V.int))/\Q (.bl (decide (m∈ts.map (·.2)))) H):=by
 intro pins s σ H x y v u Q I rx ry h
 obtain ⟨p,b,ts,m,rfl,rfl,hp,ht,hb,q⟩:=h
 cases rx
 cases ry
 have ht':∀t∈ts,SqT X.K H t.1 (t.2.map V.int):=λt hm=>SqT.of (ht t hm)
 obtain ⟨its,r,pl,hz⟩:=I.tuple (SqT.of (K:=X.K) hp)
 have ei:=bF r
 refine SeqAt.in_tupleAt (bE ts m) pl (λy hy =>?_) ⟨.bl _,H,I,rfl,?_⟩
 ·have hy':y∈its:=by simpa using hy
  rw[ei] at hy'
  obtain ⟨t,hm,rfl⟩:=sj.mp hy'
  rw[bg I ht' hm]
  exact I.eqT (by show X.A.units+1<cLine;omega) (ht' t hm) (SqT.of hb)
 ·rw[show its.toArray.any (bE ts m)=its.any (bE ts m) by simp,ei,gH I ht' ts (λt h=>h)]
  exact q
theorem dY:fillsNumberSlot (.type "tuple") "mul" = pure false :=
 PySem.fillsNumberSlot_seq (id := "tuple.__mul__") (r:=some (.builtin "tuple.__rmul__")) uH.lookup (by decide +kernel) vL.lookup (by decide +kernel)
theorem gI:seqRepeat? (.type "tuple")=pure (some (.builtin "tuple.__mul__")):=by
 unfold seqRepeat?
 rw[xB (T := "tuple") (name := "__mul__") (id := "tuple.__mul__") uH.lookup (by decide +kernel),xB (T := "tuple") (name := "__rmul__") (id := "tuple.__rmul__") vL.lookup (by decide +kernel)]
 rfl
theorem dh (its:List qw):∀(m:Nat) (acc:List qw),List.foldl (λx1 x2=>x1++x2) acc.toArray (rB m its.toArray)=(acc++(rB m its).flatten).toArray
 | 0,acc=>by simp
 | m+1,acc=>by
  rw[tQ,xF,tQ,tq]
  have:=dh its m (acc++its)
  rw[rC] at this
  rw[<- this]
  simp
theorem fW {xs:List V}{us:List qw}(r:Vals xs us):∀k:Nat,Vals (rB k xs).flatten (rB k us).flatten
 | 0 =>.nil
 | k+1=>by
  rw[tQ,tQ,tq,tq]
  exact r.append (fW r k)
theorem fi (a:Int)(t:Tok)(l:Addr)(items:Array qw)(n:Nat)(dd:Option Addr)(sl:Array (Option qw)) :
  Meets (Builtin.«int.__rmul__» ⟨[.int a t,.ref l],[]⟩) (λ_ R s=>s.heap.get? l=some { cls :=.type "tuple",dict:=dd,data :=.seq items n,slots:=sl }/\R (.ok (.ret .notImplemented)) s) :=
 .of_wp λprog w A R s h=>by obtain ⟨hp,g,d,tk,os⟩:=s;obtain ⟨hl,h⟩:=h;wp_walk;exact ⟨_,rfl,h⟩
theorem eG (p:Addr)(items:Array qw)(n:Nat)(dd:Option Addr)(sl:Array (Option qw))(k:Int)(t:Tok) :
  Meets (Builtin.«tuple.__mul__» ⟨[.ref p,.int k t],[]⟩) (λA R s=>s.heap.get? p=some { cls :=.type "tuple",dict:=dd,data :=.seq items n,slots:=sl }/\2<=k/\k<2 ^ 62/\items.size*k.toNat<=qD/\(items.isEmpty=true->R (.ok (.ret (.ref p))) s) ∧
   (items.isEmpty=false->R (.ok (.ret (.ref s.heap.objs.size))) { s with heap:=s.heap.push { cls :=.type "tuple",data :=.seq ((rB k.toNat items).foldl (· ++ ·) #[]) } })) :=
 .of_wp λprog w A R s h=>by
  obtain ⟨hp,g,d,tk,os⟩:=s;obtain ⟨hl,h1,h2,hz,ha,hb⟩:=h
  have hT:Shared.TypeIs ⟨hp,g,d,tk,os⟩ (.ref p) "tuple" :=⟨_,hl,rfl⟩
  wp_walk using wpAny_loadPart' hl,ud hT
  rw[if_neg (by simp;lia)]
  show rH _ _ (Builtin.Tuple.tupleItemsOf (.ref p) >>= _) _ _ _
  refine qA (wpAny_tupleItemsOf hl rfl ?_)
  cases he:items.isEmpty with
  | true =>
   simp only[Bool.true_or,if_true]
   unfold Builtin.Tuple.tupleIsExact
   refine qA (qA (ud hT (qR ?_)))
   rw[if_pos (by decide)]
   exact qA (uJ (qR ⟨_,rfl,ha he⟩))
  | false =>
   have k1:(k == 1)=false:=by rw[beq_eq_false_iff_ne];lia
   have k0:decide (k<=0)=false:=decide_eq_false (by lia)
   simp only[k1,k0,x3,sJ,if_false]
   have hn:((items.size:Int)*k)=((items.size*k.toNat:Nat):Int):=by
    rw[Int.natCast_mul,Int.toNat_of_nonneg (by lia)]
   have zl:(qD:Int)<=(2 ^ 63-1)/8:=by rw[xK];decide
   rw[if_neg (by rw[hn];lia)]
   have tm:Builtin.Tuple.tupleTooMany ((items.size:Int)*k)=false:=by
    unfold Builtin.Tuple.tupleTooMany
    exact decide_eq_false (by rw[hn];lia)
   rw[tm]
   simp only[sJ,if_false]
   unfold Builtin.Tuple.tupleExact
   have hsz:((rB k.toNat items).foldl (λx1 x2=>x1++x2) #[]).size<=qD:=by
    have e0:items=items.toList.toArray:=by simp
    have:=dh items.toList k.toNat []
    rw[<- e0] at this
    have e1:(#[]:Array qw)=([]:List qw).toArray:=rfl
    rw[e1,this,qx,uA,len_rep,qF,Nat.mul_comm]
    exact hz
   refine qA (sU ?_ hsz)
   exact qR ⟨_,rfl,hb he⟩
theorem mS:OpR X (binaryOp .Mult) (λx y H Q=>∃(p:Addr) (k:Int) (xs:List V),x = .ref p/\y = .int k/\H p=some (.tup xs)/\2<=k/\k<2 ^ 62/\xs.length*k.toNat<=qD/\(xs=[]->Q (.ref p) H)/\(xs≠[]->∀l,H l=none->Q (.ref l) (upd H l (.tup (rB k.toNat xs).flatten)))):=by
 intro pins s σ H x y v u Q I rx ry h
 obtain ⟨p,k,xs,rfl,rfl,hp,h1,h2,hz,q1,q2⟩:=h
 cases rx
 obtain ⟨t,rfl⟩:=ry
 obtain ⟨z,its,r,ob,e1,⟨c1,d1⟩,n,s1⟩:=(show aX X.prog X.w H s.heap p (.tup _) from I.hok p _ hp)
 obtain ⟨cls,dd,data,sl⟩:=ob
 simp only at c1 s1
 subst c1 s1
 have ll:=r.length
 refine wpAny_binaryOp_repeat_ref (T := "tuple") (U := "int") (by decide) ⟨_,e1,rfl⟩ (λs'=>xZ s' k t) dY PySem.F.fills_int_mul wk gI PySem.F.slot_int_index.lookup
  (u5 wk (xZ s k t) PySem.F.entry_int_rmul (PySem.F.args_int_rmul_2 _ _) (fi k t p its.toArray n dd sl)
   ⟨e1,rfl,⟨_,e1,rfl⟩,u5 uH ⟨_,e1,rfl⟩ PySem.F.entry_tuple_mul (PySem.F.args_tuple_mul_2 _ _) (eG p its.toArray n dd sl k t) ⟨e1,h1,h2,by rw[qx, <- ll];exact hz,λhe =>?_,λhe =>?_⟩⟩)
 ·have:xs=[]:=by
   have:its=[]:=by simpa using he
   rw[this] at ll
   exact uB.mp ll
  exact ⟨.ref p,H,I,rfl,q1 this⟩
 ·have:xs≠[]:=by
   intro e
   rw[e] at ll
   have:its=[]:=uB.mp ll.symm
   rw[this] at he
   simp at he
  have fr:=dh its k.toNat []
  rw[uA] at fr
  have fr':List.foldl (λx1 x2=>x1++x2) #[] (rB k.toNat its.toArray)=(rB k.toNat its).flatten.toArray:=fr
  rw[fr']
  refine ⟨.ref s.heap.objs.size,_,I.laid (t':=s.toks) (o :=.tup (rB k.toNat xs).flatten) (λb ob q=>qB _ q) (qz _) ?_,rfl,q2 this _ (I.hok.fresh (qz _))⟩
  exact ⟨by rw[len_rep,Nat.mul_comm];exact hz,_,fW r k.toNat,bQ.new _ _⟩
end
end L2
namespace HT
open PySem PySem.Spec PyProof.Rows
section
variable  {prog:qX}{w:rO}{A:r6}{E:qw->qy->Prop}{s:qy}
theorem da {t sl:Addr}{items:Array qw}{vl vu:qw}{lo hi:Option Int}{Q:qw->qy->Prop}(ht:IsTup s.heap t items)(hs:s.heap.IsSliceOf sl vl vu .none)(pl:IsPart vl lo)(pu:IsPart vu hi)
  (hw:sIx items.size 0 lo=0/\sIx items.size items.size hi=items.size) (h:Q (.ref t) s):rH (rD prog w) A (getItem (.ref t) (.ref sl)) Q E s:=by
 obtain ⟨os,hos,hcs,hds⟩:=id hs
 have hTs:s.TypeIs (.ref sl) "slice" :=⟨os,hos,hcs⟩
 unfold getItem
 try with_reducible refine uh ?_
 first | refine qA (qR ?_) | skip
 refine qA (xp ht.typeIs (by decide) ?_)
 refine qA (vP (name:=Str.ofString "__getitem__") ht.typeIs rP
  (vW rP ht.typeIs entry_tuple_getitem ?_ (w6 _ _)))
 show rH _ _ (Builtin.Tuple.tupleItemsOf (.ref t) >>= _) _ _ s
 refine qA (tupleItemsOf_ ht ?_)
 refine qA (ud hTs ?_)
 rw[if_pos (by decide)]
 refine qA (b8 hs pl pu ?_)
 show rH _ _ (if (((sIx items.size 0 lo:Nat):Int) == 0 && (1:Int) == 1 && (sIx items.size items.size hi-sIx items.size 0 lo) == items.size)=true then _ else _) _ _ s
 rw[hw.1,hw.2,if_pos (by simp)]
 unfold Builtin.Tuple.tupleIsExact
 refine qA (qA (ud ht.typeIs (qR ?_)))
 rw[if_pos (by decide)]
 exact qA (uJ (qR ⟨_,rfl,qR h⟩))
end
end HT
namespace L2
open PySem PySem.Spec PyProof.Rows
section
variable  {X:Cx}
theorem mU:SlR X (λx lo hi H Q=>∃a xs,x = .ref a/\SqT X.K H a xs/\((HT.sIx xs.length 0 lo=0/\HT.sIx xs.length xs.length hi=xs.length)->Q (.ref a) H) ∧
  (¬ (HT.sIx xs.length 0 lo=0/\HT.sIx xs.length xs.length hi=xs.length)->∀p,H p=none->Q (.ref p) (upd H p (.tup (dg xs lo hi))))):=by
 intro pins s σ H x v vl vu lo hi sl Q I rx hs pl pu h
 obtain ⟨a,xs,rfl,hx,q1,q2⟩:=h
 by_cases hw:HT.sIx xs.length 0 lo=0/\HT.sIx xs.length xs.length hi=xs.length
 ·cases rx
  obtain ⟨its,r,ht,hz⟩:=I.tuple hx
  have hlen:its.toArray.size=xs.length:=by rw[qx];exact r.length.symm
  refine ⟨"tuple",_,rP.lookup,ht.typeIs,?_⟩
  exact HT.da ht hs pl pu (by rw[hlen];exact hw) ⟨.ref a,H,I,rfl,q1 hw⟩
 ·exact oj pins s σ H _ v vl vu lo hi sl Q I rx hs pl pu ⟨a,xs,rfl,hx,hw,q2 hw⟩
theorem hV:bM X (.type "range") (λxs H Q=>∃n:Int,xs=[.int n]/\∀a,H a=none->Q (.ref a) (upd H a (.rng 0 n))):=by
 intro pins s σ H xs us Q I r h
 obtain ⟨n,rfl,q⟩:=h
 obtain ⟨u,rfl,⟨t,rfl⟩⟩:=vals1 r
 refine call_range_1 ?_
 exact ⟨.ref s.heap.objs.size,_,I.laid (o :=.rng 0 n) (λb ob q=>qB _ q) (qz _) ⟨_,_,_,q8 _ rfl⟩,rfl,q _ (I.hok.fresh (qz _))⟩
end
section
variable  {prog:qX}{w:rO}{A:r6}{E:qw->qy->Prop}{s:qy}
theorem fB {R:List qw->qy->Prop}{r:Addr}{n:Nat}{t u v:Tok}(hh:A.handled=none)(hr:IsRange s.heap r 0 n 1 t u v)(hn:n<=2 ^ 24)
    (h:∀(h1:Heap) (tk:Nat) (vs:List qw),vs.length=n->(∀(i:Nat) (x:qw),vs[i]? = some x->∃t,x = .int i t)->(∀b o,s.heap.get? b=some o->h1.get? b=some o)->R vs { s with heap:=h1,toks:=tk }) :
    rH (rD prog w) A (collect (.ref r)) R E s:=by
  have hlt:r<s.heap.objs.size:=qP (show s.heap.get? r=some _ from hr)
  unfold collect
  refine qA (wpAny_runValue (tN PySem.F.entry_proto_collect ?_))
  rw[um PySem.F.plain_proto_collect _]
  show rH _ A.in1 (newList [] >>= λl=>again (.builtin "list.__iadd__" ⟨[l,.ref r],[]⟩)) _ _ s
  refine qA (sU ?_)
  refine qR ⟨xc vM _,tN PySem.F.entry_list_iadd ?_⟩
  rw[um vM _]
  show rH _ A.in1 (ue (.ref s.heap.objs.size) (.ref r) (.ref s.heap.objs.size)) _ _ { s with heap:=s.heap.push { cls :=.type "list",data :=.seq ([]:List qw).toArray } }
  have hr1:IsRange (s.heap.push { cls :=.type "list",data :=.seq ([]:List qw).toArray }) r 0 n 1 t u v:=qB _ hr
  have rs:Builtin.Range.rangeSize 0 (n:Int) 1=(n:Int):=by
    rw[rangeSize_one]
    split <;> lia
  have hlen24:n<=16777216:=hn
  have hS0:(s.heap.push { cls :=.type "list",data :=.seq ([]:List qw).toArray }).get? s.heap.objs.size=some { cls :=.type "list",data :=.seq #[] 0 }:=q8 _ rfl
  refine wpAny_extend_range (A:=A) (R:=λres s'=>match res with
      | .ok (.ret v)=>rH (rD prog w) A (match v with | .ref a=>(do match (← load a).data with | .seq xs _=>pure xs.toList | _=>unsupported "internal:collect") | _=>unsupported "internal:collect") R E s'
      | .ok _=>False
      | .error e=>E e s') (s:={ s with heap:=s.heap.push { cls :=.type "list",data :=.seq ([]:List qw).toArray } }) hh hr1 (small_one (by lia) (by lia) (by lia) (by lia)) rs hn s.heap.objs.size (.ref s.heap.objs.size) 0 hS0 λh' tk acc' c' kk hS' hacc =>?_
  show rH _ A (load s.heap.objs.size >>= _) _ _ { s with heap:=h',toks:=tk }
  refine qA (xY hS' ?_)
  refine qR (h h' tk acc'.toList (by rw[qF];exact hacc.1) (λi x hx =>?_) λb o e=>kk b o (rM (qP e)) (qB _ e))
  rw[qL] at hx
  obtain ⟨t',e⟩:=hacc.2 i x hx
  exact ⟨t',by rw[e];simp⟩
theorem cA (r:Addr)(n:Nat)(t u v:Tok)(hn:n<=1000) :
  Meets (Builtin.«tuple.__new__» ⟨[.type "tuple",.ref r],[]⟩)
   (λA R s=>A.handled=none/\IsRange s.heap r 0 n 1 t u v/\∀(h':Heap) (tk:Nat) (vs:List qw),vs.length=n->(∀(i:Nat) (x:qw),vs[i]? = some x->∃t,x = .int i t)->(∀b o',s.heap.get? b=some o'->h'.get? b=some o')->R (.ok (.ret (.ref h'.objs.size))) { s with heap:=h'.push { cls :=.type "tuple",data :=.seq vs.toArray },toks:=tk }) :=
 .of_wp λprog w A R s h=>by
  obtain ⟨hp,g,d,tk,os⟩:=s;obtain ⟨hh,ht,h⟩:=h
  have hsub:=sub_tuple_self
  have hinit:=init_tuple_lookup
  have hmh:=madeHere_tuple
  have hT:Shared.TypeIs ⟨hp,g,d,tk,os⟩ (.ref r) "range" :=⟨_,ht,rfl⟩
  wp_walk using ud hT,fB (by simpa using hh) ht (by lia)
  intro h' tk' vs lv hv hk
  show rH _ _ (Builtin.Tuple.tupleExact vs.toArray >>= λv=>ret v) _ _ _
  unfold Builtin.Tuple.tupleExact
  refine qA (sU ?_ (by show vs.toArray.size<=qD;rw[qx,lv];exact small hn))
  exact qR ⟨_,rfl,h h' tk' vs lv hv hk⟩
end
section
variable  {X:Cx}
theorem iQ:∀{vs:List qw},(∀(i:Nat) (x:qw),vs[i]? = some x->∃t,x=vH i t)->Vals ((sN vs.length).map λi=>V.int (i:Nat)) vs:=by
 suffices h:∀(vs:List qw) (k:Nat),(∀(i:Nat) (x:qw),vs[i]? = some x->∃t,x=vH ((i+k:Nat):Int) t)->Vals ((List.range' k vs.length).map λi=>V.int (i:Nat)) vs by
  intro vs hv
  have:=h vs 0 hv
  rw[List.range_eq_range']
  exact this
 intro vs
 induction vs with
 | nil=>intro k _;exact .nil
 | cons x vs ih =>
  intro k hv
  rw[rG,vU,rz]
  refine .cons ?_ (ih (k+1) λi y hy =>?_)
  ·obtain ⟨t,e⟩:=hv 0 x rfl
   exact ⟨t,by rw[e,uN]⟩
  ·obtain ⟨t,e⟩:=hv (i+1) y (by rw[List.getElem?_cons_succ];exact hy)
   exact ⟨t,by rw[e,show i+1+k=i+(k+1) by lia]⟩
theorem hW (hh:X.A.handled=none):bM X (.type "tuple") (λxs H Q=>∃(a:Addr) (n:Nat),xs=[.ref a]/\H a=some (.rng 0 n)/\n<=1000/\∀l,H l=none->Q (.ref l) (upd H l (.tup ((sN n).map λi=>V.int (i:Nat))))):=by
 intro pins s σ H xs us Q I r h
 obtain ⟨a,n,rfl,ha,hn,q⟩:=h
 obtain ⟨u,rfl,ru⟩:=vals1 r
 cases (show u=qW a from ru)
 obtain ⟨t,u,v,e⟩:=(show aX X.prog X.w H s.heap a (.rng 0 n) from I.hok a _ ha)
 refine callType_new PySem.F.called_tuple (by decide) (PySem.F.typeCall_tuple_1 _) (PySem.F.newCall_tuple_1 _) (λobj=>PySem.F.args_object_init_2 obj _) PySem.F.entry_tuple_new
  (cA a n t u v hn) ⟨by simpa using hh,e,λh' tk vs lv hv k=>⟨⟨_,q8 _ rfl,rfl⟩,?_⟩⟩
 have I1:Inv X pins σ H { s with heap:=h',toks:=tk }:=I.kept k
 have rv:=iQ hv
 rw[lv] at rv
 exact ⟨.ref h'.objs.size,_,I1.laid (o :=.tup ((sN n).map λi=>V.int (i:Nat))) (λb ob q=>qB _ q) (qz _) ⟨by rw[qu,List.length_range];exact small hn,vs,rv,bQ.new _ _⟩,rfl,q _ (I1.hok.fresh (qz _))⟩
end
open PySem PyProof.Rows
section
variable  {X:Cx}
def oR (ns ms:List Int)(j:Nat):Bool:=ns.getD j 0 == ms.getD j 0
theorem lh {ns ms:List Int}(h:ns.length=ms.length):((sN ns.length).all λj=>oR ns ms j)=decide (ns=ms):=by
 rw[t7,decide_eq_true_iff,uq]
 constructor
 ·intro hh
  refine List.ext_getElem h λj h1 h2 =>?_
  have:=hh j (uL.mpr h1)
  unfold oR at this
  rw[rT,rT,qS h1,qS h2] at this
  exact of_decide_eq_true (by simpa using this)
 ·rintro rfl j _
  exact beq_self_eq_true _
theorem intAt {ns:List Int}{us:List qw}(r:Vals (ns.map V.int) us){j:Nat}(h:j<us.toArray.size):∃t,us.toArray[j] = .int (ns.getD j 0) t:=by
 have l:=r.length
 rw[qu] at l
 rw[qx] at h
 have e1:(ns.map V.int)[j]? = some (.int (ns.getD j 0)):=by
  rw[rK,rT,qS (by lia)]
  rfl
 obtain ⟨u,g1,q1⟩:=r.get e1
 have f1:us.toArray[j]=u:=by simp[qI] at g1;obtain ⟨_,g⟩:=g1;simpa using g
 rw[f1]
 exact q1
theorem mV {k:Nat}(hr:bI k X.A):OpR X (tJ .NotEq) (λx y H Q=>∃(a b:Addr) (ns ms:List Int),x = .ref a/\y = .ref b/\SqL X.K H a (ns.map V.int)/\SqL X.K H b (ms.map V.int)/\Q (.bl (!decide (ns=ms))) H):=by
 intro pins s σ H x y v u Q I rx ry h
 obtain ⟨a,b,ns,ms,rfl,rfl,h1,h2,q⟩:=h
 cases (show v=qW a from rx)
 cases (show u=qW b from ry)
 obtain ⟨its,r1,⟨⟨c1,d1,da1,sl1⟩,n1,e1,k1,_,k3⟩,_⟩:=I.list h1
 obtain ⟨its2,r2,⟨⟨c2,d2,da2,sl2⟩,n2,e2,g1,_,g3⟩,_⟩:=I.list h2
 simp only at k1 k3 g1 g3
 subst k1 k3 g1 g3
 have l1:=r1.length
 have l2:=r2.length
 rw[qu] at l1 l2
 have hu:=hr.un
 have hu1:X.A.units<cLine:=by lia
 by_cases hl:ns.length=ms.length
 ·refine v8 (op :=.NotEq) ⟨_,e1,rfl⟩ ⟨_,e2,rfl⟩ F.slot_list_ne xH (xC _ _) (SeqAt.list_neAt a b its.toArray its2.toArray n1 n2 d1 d2 sl1 sl2 (by rw[qx,qx];lia) (oR ns ms)) ⟨e1,e2,?_,?_⟩ hu1
  ·intro j h1 h2
   obtain ⟨t1,g1⟩:=intAt r1 h1
   obtain ⟨t2,g2⟩:=intAt r2 h2
   rw[g1,g2]
   exact vk _ t1 _ t2
  ·have ez:its.toArray.size=ns.length:=by rw[qx];lia
   rw[ez,lh hl]
   exact ⟨(λz=>nomatch z),⟨.bl _,H,I,rfl,q⟩⟩
 ·have ne:ns≠ms:=λz=>hl (by rw[z])
  rw[decide_eq_false ne] at q
  refine v8 (op :=.NotEq) ⟨_,e1,rfl⟩ ⟨_,e2,rfl⟩ F.slot_list_ne xH (xC _ _) (SeqAt.list_ne_lengthsAt a b its.toArray its2.toArray n1 n2 d1 d2 sl1 sl2 (by simp;lia)) ⟨e1,e2,?_⟩ hu1
  exact ⟨(λz=>nomatch z),⟨.bl true,H,I,rfl,q⟩⟩
end
end L2
namespace L2.Rem
open PySem PySem.SeqAt PySem.MeetsSeq
open AutoSeq1 (wpAny_loadPart')
theorem mW (l:Addr)(items:Array qw)(n:Nat)(x:qw)(e:qw->Bool)(j:Nat)(hj:j<items.size)(hit:e items[j]=true)(k:Nat)(hs1:items.size<=qD) :
  ∀i:Nat,j-i=k->i<=j->(∀m (hm:m<items.size),i<=m->m<j->e items[m]=false)->Meets (Builtin.«list.remove.loop» ⟨[.ref l,x,rawInt i],[]⟩)
   (λA R s=>(s.heap.get? l=some { cls :=.type "list",dict:=none,data :=.seq items n,slots := #[] }/\∀y,y∈items->EqAt A.in1 s y x (e y))/\R (.ok (.ret .none)) { s with heap:=s.heap.update l (tV λxs=>xs.eraseIdxIfInBounds j) }):=by
 induction k with
 | zero =>
  rintro i hk hij hno prog w A R ⟨hp,g,d,tk,os⟩ ⟨⟨hl,he⟩,h⟩
  obtain rfl:i=j:=by lia
  wp_walk using wpAny_loadPart' hl
  rw[show items[((i:Nat):Int).toNat]? = some items[i] by simp[hj]]
  refine qA (he _ (vC hj) prog w _ _ ?_)
  rw[hit]
  wp_walk using (wpAny_updateSeq hl rfl (hz:=hs1) (_hz':=rn (size_erased items i) (uf hs1))),wpAny_loadPart' hl
  simpa using h
 | succ k ih =>
  rintro i hk hij hno prog w A R ⟨hp,g,d,tk,os⟩ ⟨⟨hl,he⟩,h⟩
  have lt:i<items.size:=by lia
  wp_walk using wpAny_loadPart' hl
  rw[show items[((i:Nat):Int).toNat]? = some items[i] by simp[lt]]
  refine qA (he _ (vC lt) prog w _ _ ?_)
  rw[hno i lt (qz _) (by lia)]
  wp_walk
  rw[show ((i:Int)+1)=((i+1:Nat):Int) by push_cast;rfl]
  exact ⟨xc plain_remove_loop _,tN entry_remove_loop (by
   rw[um plain_remove_loop _]
   exact ih (i+1) (by lia) (by lia) (λm hm h1 h2=>hno m hm (by lia) h2) prog w A R _ ⟨⟨hl,he⟩,h⟩)⟩
theorem mX (l:Addr)(items:Array qw)(n:Nat)(x:qw)(e:qw->Bool)(j:Nat)(hj:j<items.size)(hit:e items[j]=true)(hno:∀m (hm:m<items.size),m<j->e items[m]=false)(hs1:items.size<=qD) :
  Meets (Builtin.«list.remove» ⟨[.ref l,x],[]⟩)
   (λA R s=>(s.heap.get? l=some { cls :=.type "list",dict:=none,data :=.seq items n,slots := #[] }/\∀y,y∈items->EqAt A.in1 s y x (e y))/\R (.ok (.ret .none)) { s with heap:=s.heap.update l (tV λxs=>xs.eraseIdxIfInBounds j) }):=by
 rintro prog w A R ⟨hp,g,d,tk,os⟩ ⟨⟨hl,he⟩,h⟩
 wp_walk using wpAny_loadPart' hl
 exact ⟨xc plain_remove_loop _,tN entry_remove_loop (by
  rw[um plain_remove_loop _]
  exact mW l items n x e j hj hit _ hs1 0 rfl (sC _) (λm hm _ h2=>hno m hm h2) prog w A R _ ⟨⟨hl,he⟩,h⟩)⟩
end L2.Rem
namespace L2
open PySem PySem.Spec PyProof.Rows
section
variable  {X:Cx}
theorem fj {α:Type}[BEq α][LawfulBEq α]{m:α}:∀{l:List α},m∈l->∃j,l[j]? = some m/\(∀i<j,∀x,l[i]? = some x->x≠m)/\l.erase m=l.eraseIdx j
 | [],h=>by cases h
 | x :: l,h=>by
  by_cases e:x=m
  ·subst e
   exact ⟨0,rfl,λi hi=>by lia,by simp⟩
  ·obtain ⟨j,h1,h2,h3⟩:=fj (l:=l) (by rcases rU.mp h with z | z;exact absurd z.symm e;exact z)
   refine ⟨j+1,by simpa using h1,λi hi y hy =>?_,?_⟩
   ·cases i with
    | zero =>
     have:x=y:=by simpa using hy
     rw[<- this];exact e
    | succ i=>exact h2 i (by lia) y (by simpa using hy)
   ·rw[wB (by simpa using e),h3]
    rfl
def p6:V->List V->Hp->VK->Prop:=λx vs H Q=>∃(l b:Addr) (ts:List (Addr×List Int)) (m:List Int),x = .ref l/\vs=[.ref b]/\H l=some (.lst (ts.map λt =>.ref t.1))/\(∀t∈ts,H t.1=some (.tup (t.2.map V.int)))/\H b=some (.tup (m.map V.int))/\m∈ts.map (·.2) ∧
 ∀us:List (Addr×List Int),us.map (·.2)=(ts.map (·.2)).erase m->(∀u∈us,u∈ts)->Q .non (upd H l (.lst (us.map λt =>.ref t.1)))
theorem iR (hu:X.A.units+8<cLine):MtM X "list.remove" p6:=by
 intro pins s σ H x vs v us Q I rx rv h
 obtain ⟨l,b,ts,m,rfl,rfl,hH,ht,hb,hm,q⟩:=h
 cases rx
 obtain ⟨ub,rfl,rb⟩:=vals1 rv
 cases (show ub=qW b from rb)
 have ht':∀t∈ts,SqT X.K H t.1 (t.2.map V.int):=λt hm=>SqT.of (ht t hm)
 obtain ⟨z,its,n,r,hl,e⟩:=I.oz hH
 have ei:=bF r
 obtain ⟨j,j1,j2,j3⟩:=fj hm
 have lt:j<ts.length:=by
  have:=(qI.mp j1).1
  rwa [qu] at this
 have li:its.length=ts.length:=by rw[ei,qu]
 have kat:∀(i:Nat) (hi:i<its.toArray.size),∃t∈ts,its.toArray[i]=qW t.1/\(ts.map (·.2))[i]? = some t.2:=λi hi=>by
  rw[qx] at hi
  obtain ⟨t,et⟩:∃t,ts[i]? = some t:=⟨_,qS (show i<ts.length by lia)⟩
  refine ⟨t,qV et,?_,?_⟩
  ·have:its[i]? = some (qW t.1):=by rw[ei,rK,et];rfl
   simp[qI] at this
   obtain ⟨_,g⟩:=this
   simpa using g
  ·rw[rK,et];rfl
 refine u5 vD ⟨_,e,rfl⟩ PySem.F.entry_list_remove (PySem.F.args_list_remove_2 _ _) (Rem.mX l its.toArray n (.ref b) (bE ts m) j (by rw[qx];lia) ?_ ?_ (by rw[qx,li];have:=r.length;rw[qu] at this;rw[qu] at z;lia)) ⟨⟨e,?_⟩,?_⟩
 ·obtain ⟨t,ht2,e1,e2⟩:=kat j (by rw[qx];lia)
  rw[e1,bg I ht' ht2]
  rw[j1] at e2
  rw[decide_eq_true (rE e2).symm]
 ·intro i hi hij
  obtain ⟨t,ht2,e1,e2⟩:=kat i hi
  rw[e1,bg I ht' ht2,decide_eq_false (j2 i hij _ e2)]
 ·intro y hy
  have hy':y∈its:=by simpa using hy
  rw[ei] at hy'
  obtain ⟨t,hm2,rfl⟩:=sj.mp hy'
  rw[bg I ht' hm2]
  exact I.eqT (by show X.A.units+1<cLine;lia) (ht' t hm2) (SqT.of hb)
 ·have ra:Vals ((ts.eraseIdx j).map λt=>V.ref t.1) (its.eraseIdx j):=by
   rw[ei]
   have g:∀(l:List (Addr×List Int)) (n:Nat),Vals ((l.eraseIdx n).map λt=>V.ref t.1) ((l.map λt=>qW t.1).eraseIdx n):=by
    intro l
    induction l with
    | nil=>intro n;exact .nil
    | cons a l ih =>
     intro n
     cases n with
     | zero =>
      have:∀l:List (Addr×List Int),Vals (l.map λt=>V.ref t.1) (l.map λt=>qW t.1):=by
       intro l
       induction l with
       | nil=>exact .nil
       | cons a l ih=>exact .cons rfl ih
      exact this l
     | succ n=>exact .cons rfl (ih n)
   exact g ts j
  have le:(ts.eraseIdx j).length<=ts.length:=by rw[List.length_eraseIdx];split <;> lia
  refine ⟨.non,_,I.oy (its':=its.eraseIdx j) hH e ?_ ra (by rw[qu] at z ⊢;lia),rfl,q (ts.eraseIdx j) ?_ λu hu=>List.mem_of_mem_eraseIdx hu⟩
  ·apply vT.mp
   unfold Array.eraseIdxIfInBounds
   rw[dif_pos (by rw[qx];lia)]
   simp
  ·rw[j3]
   have g:∀(l:List (Addr×List Int)) (n:Nat),(l.eraseIdx n).map (·.2)=(l.map (·.2)).eraseIdx n:=by
    intro l
    induction l with
    | nil=>intro n;rfl
    | cons a l ih =>
     intro n
     cases n with
     | zero=>rfl
     | succ n=>show a.2 :: _=a.2 :: _;rw[ih n]
   exact g ts j
end
open PySem PySem.Spec PyProof.Rows
section
variable  {X:Cx}
def p7 (K:qv):R2:=λx y H Q=>∃a b xs ys,x = .ref a/\y = .ref b/\SqT K H a xs/\SqT K H b ys/\ys≠[]/\xs.length+ys.length<=qD/\(xs=[]->Q (.ref b) H)/\(xs≠[]->∀p,H p=none->Q (.ref p) (upd H p (.tup (xs++ys))))
theorem lj:OpR X (binaryOp .Add) (p7 X.K):=by
 intro pins s σ H x y v u Q I rx ry h
 obtain ⟨a,b,xs,ys,rfl,rfl,ha,hb,hy,hz,q1,q2⟩:=h
 by_cases hx:xs=[]
 ·cases rx
  cases ry
  obtain ⟨its,r1,p1,_⟩:=I.tuple ha
  obtain ⟨its2,r2,p2,_⟩:=I.tuple hb
  obtain ⟨⟨c1,d1,da1,s1⟩,o1,k1,n1,g1⟩:=id p1
  obtain ⟨⟨c2,d2,da2,s2⟩,o2,k2,n2,g2⟩:=id p2
  simp only at k1 g1 k2 g2
  subst k1 g1 k2 g2
  have e0:its=[]:=r1.dy.mpr hx
  exact vo ⟨_,o1,rfl⟩ ⟨_,o2,rfl⟩ uS vO tX tP (tL _ _)
   (tuple_addW0 a b its.toArray its2.toArray n1 n2 d1 d2 s1 s2 (by simp[e0])) ⟨o1,o2,⟨.ref b,H,I,rfl,q1 hx⟩⟩
 ·exact i7 pins s σ H _ _ v u Q I rx ry ⟨a,b,xs,ys,rfl,rfl,ha,hb,hx,hz,λz=>absurd z hy,λ_=>q2 hx⟩
end
open PySem PySem.Spec PyProof.Rows
section
variable  {X:Cx}
def jm (K:qv):R2:=λx y H Q=>∃a b xs ys,x = .ref a/\y = .ref b/\SqT K H a xs/\SqT K H b ys/\xs.length+ys.length<=qD/\(xs=[]->Q (.ref b) H)/\(ys=[]->Q (.ref a) H)/\(xs≠[]->ys≠[]->∀p,H p=none->Q (.ref p) (upd H p (.tup (xs++ys))))
theorem lp:OpR X (binaryOp .Add) (jm X.K):=by
 intro pins s σ H x y v u Q I rx ry h
 obtain ⟨a,b,xs,ys,rfl,rfl,ha,hb,hz,q1,q2,q3⟩:=h
 by_cases hx:xs=[]
 ·cases rx
  cases ry
  obtain ⟨its,r1,p1,_⟩:=I.tuple ha
  obtain ⟨its2,r2,p2,_⟩:=I.tuple hb
  obtain ⟨⟨c1,d1,da1,s1⟩,o1,k1,n1,g1⟩:=id p1
  obtain ⟨⟨c2,d2,da2,s2⟩,o2,k2,n2,g2⟩:=id p2
  simp only at k1 g1 k2 g2
  subst k1 g1 k2 g2
  have e0:its=[]:=r1.dy.mpr hx
  exact vo ⟨_,o1,rfl⟩ ⟨_,o2,rfl⟩ uS vO tX tP (tL _ _)
   (tuple_addW0 a b its.toArray its2.toArray n1 n2 d1 d2 s1 s2 (by simp[e0])) ⟨o1,o2,⟨.ref b,H,I,rfl,q1 hx⟩⟩
 ·exact i7 pins s σ H _ _ v u Q I rx ry ⟨a,b,xs,ys,rfl,rfl,ha,hb,hx,hz,q2,λhy=>q3 hx hy⟩
theorem jm.one {K:qv}{H:Hp}{Q:VK}{a b:Addr}{xs ys:List V}(ha:H a=some (.tup xs))(hb:H b=some (.tup ys))(hz:xs.length+ys.length<=qD)(q:∀p H',aF H H'->H' p=some (.tup (xs++ys))->Q (.ref p) H'):jm K (.ref a) (.ref b) H Q:=by
 refine ⟨a,b,xs,ys,rfl,rfl,SqT.of ha,SqT.of hb,hz,λz =>?_,λz =>?_,λ_ _ p hp=>q p _ (af hp _) ag⟩
 ·subst z;exact q b H (aF.refl _) hb
 ·subst z;exact q a H (aF.refl _) (by rw[rW];exact ha)
end
open PySem PySem.Spec PyProof.Rows
section
variable  {X:Cx}
def EqS (K:qv)(H:Hp):Nat->V->V->Prop
 | 0,x,y=>(∃i,x = .int i/\y = .int i)\/(∃i,x = .str i/\y = .str i)\/∃a,x = .ref a/\y = .ref a
 | n+1,x,y=>(∃i,x = .int i/\y = .int i)\/(∃i,x = .str i/\y = .str i)\/(∃a,x = .ref a/\y = .ref a)\/∃a b xs ys,x = .ref a/\y = .ref b/\((SqT K H a xs/\SqT K H b ys)\/(SqL K H a xs/\SqL K H b ys))/\Paired (EqS K H n) xs ys
theorem cV {K:qv}{H:Hp}{n:Nat}{s:qy}{A:r6}{xs ys:List V}{us vs:List qw}(p:Paired (EqS K H n) xs ys)(r1:Vals xs us)(r2:Vals ys vs)
  (ih:∀x y u v,EqS K H n x y->RelV x u->RelV y v->uK A s u v true):∀j (h1:j<us.toArray.size) (h2:j<vs.toArray.size),uK A s us.toArray[j] vs.toArray[j] true:=λj h1 h2=>by
 rw[qx] at h1 h2
 have l1:=r1.length
 have l2:=r2.length
 have e1:xs[j]? = some xs[j]:=qS (by omega)
 have e2:ys[j]? = some ys[j]:=qS (by omega)
 obtain ⟨u,g1,q1⟩:=r1.get e1
 obtain ⟨v,g2,q2⟩:=r2.get e2
 have f1:us.toArray[j]=u:=by simp[qI] at g1;obtain ⟨_,g⟩:=g1;simpa using g
 have f2:vs.toArray[j]=v:=by simp[qI] at g2;obtain ⟨_,g⟩:=g2;simpa using g
 rw[f1,f2]
 exact ih _ _ u v (cO p e1 e2) q1 q2
theorem dE {A:r6}{s:qy}{x y:V}{u v:qw}(h:(∃i,x = .int i/\y = .int i)\/(∃i,x = .str i/\y = .str i)\/∃a,x = .ref a/\y = .ref a)(ru:RelV x u)(rv:RelV y v):uK A s u v true:=by
 rcases h with ⟨i,rfl,rfl⟩ | ⟨i,rfl,rfl⟩ | ⟨a,rfl,rfl⟩
 ·obtain ⟨t,rfl⟩:=(show ∃t,u=vH i t from ru)
  obtain ⟨t',rfl⟩:=(show ∃t,v=vH i t from rv)
  have:=vk (A:=A) (s:=s) i t i t'
  rw[beq_self_eq_true] at this
  exact this
 ·obtain ⟨t,rfl⟩:=(show ∃t,u=Value.str i t from ru)
  obtain ⟨t',rfl⟩:=(show ∃t,v=Value.str i t from rv)
  have:=wO (A:=A) (s:=s) i t i t'
  rw[show (i == i)=true by simp] at this
  exact this
 ·cases (show u=qW a from ru)
  cases (show v=qW a from rv)
  exact wa _
theorem iS {pins:List (Addr×Obj)}{σ:St}{H:Hp}{s:qy}(I:Inv X pins σ H s):∀(n:Nat) (A:r6) (x y:V) (u v:qw),A.units+n<cLine->EqS X.K H n x y->RelV x u->RelV y v->uK A s u v true
 | 0,A,x,y,u,v,_,h,ru,rv=>dE h ru rv
 | n+1,A,x,y,u,v,hA,h,ru,rv=>by
  rcases h with h | h | h | ⟨a,b,xs,ys,rfl,rfl,hs,p⟩
  ·exact dE (.inl h) ru rv
  ·exact dE (.inr (.inl h)) ru rv
  ·exact dE (.inr (.inr h)) ru rv
  ·cases (show u=qW a from ru)
   cases (show v=qW b from rv)
   by_cases hab:a=b
   ·subst hab;exact wa _
   refine SeqAt.EqAt.of_refs hab ?_
   have ih:∀x y u v,EqS X.K H n x y->RelV x u->RelV y v->uK A.in1 s u v true:=λx y u v h1 h2 h3=>iS I n A.in1 x y u v (by show A.units+1+n<cLine;lia) h1 h2 h3
   have pl:=u3 p
   rcases hs with ⟨h1,h2⟩ | ⟨h1,h2⟩
   ·obtain ⟨its,r1,p1,_⟩:=I.tuple h1
    obtain ⟨its2,r2,p2,_⟩:=I.tuple h2
    have q:=xk (e:=λ_=>true) (show s.heap.IsTuple a its.toArray from p1) (show s.heap.IsTuple b its2.toArray from p2) (by lia) (cV p r1 r2 ih)
    have ez:its.toArray.size=its2.toArray.size:=by rw[qx,qx, <- r1.length, <- r2.length,pl]
    rw[all_true,ez,beq_self_eq_true] at q
    exact q
   ·obtain ⟨its,r1,p1,_⟩:=I.list h1
    obtain ⟨its2,r2,p2,_⟩:=I.list h2
    have q:=SeqAt.RcAt.lists (e:=λ_=>true) p1.isList p2.isList (by rw[qx,qx, <- r1.length, <- r2.length,pl]) (by lia) (cV p r1 r2 ih)
    rw[all_true] at q
    exact q
theorem mY {k:Nat}(hr:bI k X.A):OpR X (tJ .NotEq) (λx y H Q=>∃a b xs ys,x = .ref a/\y = .ref b/\SqT X.K H a xs/\SqT X.K H b ys/\Paired (EqS X.K H 20) xs ys/\Q (.bl false) H):=by
 intro pins s σ H x y v u Q I rx ry h
 obtain ⟨a,b,xs,ys,rfl,rfl,h1,h2,p,q⟩:=h
 cases (show v=qW a from rx)
 cases (show u=qW b from ry)
 obtain ⟨its,r1,p1,_⟩:=I.tuple h1
 obtain ⟨its2,r2,p2,_⟩:=I.tuple h2
 have l1:=r1.length
 have l2:=r2.length
 have pl:=u3 p
 have hu:=hr.un
 have hu1:X.A.units<cLine:=by lia
 have R:=SeqAt.RcNeAt.tuples (A:=X.A) (e:=λ_=>true) (show s.heap.IsTuple a its.toArray from p1) (show s.heap.IsTuple b its2.toArray from p2) hu1 (cV p r1 r2 λx y u v h1 h2 h3=>iS I 20 _ x y u v (by show X.A.units+1+_<cLine;lia) h1 h2 h3)
 rw[qx,qx, <- l1, <- l2,pl,wg,beq_self_eq_true,all_true] at R
 exact R _ _ _ _ ⟨.bl false,H,I,rfl,q⟩
theorem mZ {k:Nat}(hr:bI k X.A):OpR X (tJ .Eq) (λx y H Q=>∃a b xs ys,x = .ref a/\y = .ref b/\SqT X.K H a xs/\SqT X.K H b ys/\Paired (EqS X.K H 20) xs ys/\Q (.bl true) H):=by
 intro pins s σ H x y v u Q I rx ry h
 obtain ⟨a,b,xs,ys,rfl,rfl,h1,h2,p,q⟩:=h
 cases (show v=qW a from rx)
 cases (show u=qW b from ry)
 obtain ⟨its,r1,p1,_⟩:=I.tuple h1
 obtain ⟨its2,r2,p2,_⟩:=I.tuple h2
 have l1:=r1.length
 have l2:=r2.length
 have pl:=u3 p
 have hu:=hr.un
 have hu1:X.A.units<cLine:=by lia
 have R:=xk (A:=X.A) (e:=λ_=>true) (show s.heap.IsTuple a its.toArray from p1) (show s.heap.IsTuple b its2.toArray from p2) hu1 (cV p r1 r2 λx y u v h1 h2 h3=>iS I 20 _ x y u v (by show X.A.units+1+_<cLine;lia) h1 h2 h3)
 rw[all_true,qx,qx, <- l1, <- l2,pl,beq_self_eq_true] at R
 exact R _ _ _ _ ⟨.bl true,H,I,rfl,q⟩
end
end L2
namespace L2.RvT
open PySem PyProof.Rows
open Sem (wp)
section
variable  {prog:qX}{w:rO}{A:r6}{E:qw->qy->Prop}{s:qy}
end
section
variable  {prog:qX}{w:rO}{A:r6}{E:qw->qy->Prop}{s:qy}
end
end L2.RvT
namespace L2
open PySem PySem.Spec PyProof.Rows
section
variable  {X:Cx}
theorem jq:SlR X (λx lo hi H Q=>∃a xs,x = .ref a/\H a=some (.tup xs)/\∀p2 H2,aF H H2->H2 p2=some (.tup (dg xs lo hi))->Q (.ref p2) H2):=by
 intro pins s σ H x v vl vu lo hi sl Q I rx hs pl pu h
 obtain ⟨a,xs,rfl,ep,key⟩:=h
 refine mU pins s σ H _ v vl vu lo hi sl Q I rx hs pl pu ⟨a,xs,rfl,SqT.of ep,λz=>key a H (aF.refl _) ?_,λ_ p2 hp2=>key p2 _ (af hp2 _) ag⟩
 unfold dg
 rw[z.1,z.2,uM,xr,List.take_length]
 exact ep
theorem cE:OpR X (binaryOp .Add) (λx y H Q=>∃a b xs ys,x = .ref a/\y = .ref b/\H a=some (.tup xs)/\H b=some (.tup ys)/\xs.length+ys.length<=qD/\∀p H',aF H H'->H' p=some (.tup (xs++ys))->Q (.ref p) H'):=by
 intro pins s σ H x y v u Q I rx ry h
 obtain ⟨a,b,xs,ys,rfl,rfl,ha,hb,hz,q⟩:=h
 exact lp pins s σ H _ _ v u Q I rx ry (jm.one ha hb hz q)
end
open PySem PySem.Spec PyProof.Rows SeqAt
theorem fC (l:Addr)(items:Array qw)(n:Nat)(dd:Option Addr)(sl:Array (Option qw))(x:qw)(e:qw->Bool)(j:Nat)(hj:j<items.size)(hit:e items[j]=true)(hno:∀m (hm:m<items.size),m<j->e items[m]=false) :
  Meets (Builtin.«tuple.index» ⟨[.ref l,x],[]⟩)
   (λA R s=>s.heap.get? l=some { cls :=.type "tuple",dict:=dd,data :=.seq items n,slots:=sl }/\(∀y,y∈items->EqAt A.in1 s y x (e y))/\R (.ok (.ret (.int j s.toks))) { s with toks:=s.toks+1 }) :=
 .of_wp λprog w A R s h=>by
  obtain ⟨hl,he,h⟩:=h
  unfold Builtin.«tuple.index»
  refine qA (wpAny_of_eq (a:=(qW l,[x])) rfl ?_)
  refine qA (PyProof.Rows.tupleItemsOf_ (⟨_,hl,rfl,_,rfl⟩:IsTup s.heap l items) ?_)
  dsimp only
  refine qA (qR (qA (qR ?_)))
  rw[wg,wu]
  refine qA (wpAny_forIn_list _ (λrest b s'=>s'=s/\b=(none,())/\∃i,rest=List.range' i (items.size-i)/\i<=j) _ ?_ ?_ _ _ ⟨rfl,rfl,0,?_,sC _⟩)
  ·rintro k rest b s' ⟨rfl,rfl,i,er,hi⟩
   rw[show items.size-i=(items.size-(i+1))+1 by lia,vU] at er
   injection er with e1 e2
   subst e1
   have hk:k<items.size:=by lia
   rw[Array.getElem?_eq_getElem hk]
   refine qA (he _ (vC hk) prog w _ _ ?_)
   by_cases z:k=j
   ·subst z
    rw[hit]
    refine qA (qA (wpAny_mkInt (qR (qR ?_))))
    exact qR ⟨_,rfl,h⟩
   ·rw[hno k hk (by lia)]
    exact qR ⟨rfl,rfl,k+1,e2,by lia⟩
  ·rintro b s' ⟨rfl,rfl,i,er,hi⟩
   rw[show items.size-i=(items.size-(i+1))+1 by lia,vU] at er
   cases er
  ·simp[Std.Legacy.Range.size]
section
variable  {X:Cx}
end
open PySem PySem.Spec PyProof.Rows
section
variable  {X:Cx}
end
theorem fX {K:qv}{p:Addr}{ts:List (Addr×V×V)}{k l:Nat}{tc:TT}{te:TE}{τ:St}{H:Hp}{Q:VK}(Pv:Nat->List V->Hp->Prop)(hkl:k≠l)(h0:Pv 0 [] H)(hz:ts.length<=qD)
  (hl:∀i ys H,i<=ts.length->Pv i ys H->SqT K H p (ts.map λt =>.ref t.1)/\∀t∈ts,SqT K H t.1 [t.2.1,t.2.2])
  (hs:∀i t ys H,ts[i]? = some t->ys.length<=i->Pv i ys H->nD k l tc te τ Pv i t.2.1 t.2.2 ys H)
  (hd:∀ys H,ys.length<=ts.length->Pv ts.length ys H->∀r,H r=none->Q (.ref r) (upd H r (.lst ys))):fM (Itt K p) (kM K k l) tc te τ Q H:=by
 refine ⟨λi m σ ys H=>m=ts.length-i/\i<=ts.length/\(∀a b,(σ.set k (some a)).set l (some b)=(τ.set k (some a)).set l (some b))/\ys.length<=i/\Pv i ys H,⟨ts.length,by simp,sC _,λ_ _=>rfl,qz _,h0⟩,?_⟩
 rintro i m σ ys H ⟨rfl,hi,hτ,hy,pv⟩
 obtain ⟨q,qt⟩:=hl i ys H hi pv
 have ln:(ts.map λt:Addr×V×V=>V.ref t.1).length=ts.length:=qu _
 by_cases hlt:i<ts.length
 ·have et:ts[i]? = some ts[i]:=qS hlt
  have em:(ts.map λt:Addr×V×V=>V.ref t.1)[i]? = some (.ref ts[i].1):=by rw[rK,et];rfl
  refine .inr ⟨⟨_,_,q,em⟩,λx H' y =>?_⟩
  obtain ⟨e,y⟩:=y
  subst e
  have ex:=y _ q
  rw[em] at ex
  cases ex
  have st:=qt ts[i] (uu hlt)
  refine ⟨ts[i].1,_,rfl,st,rfl,_,_,rfl,_,_,rfl,rfl,?_⟩
  rw[hτ]
  have hσ:∀a b,((((τ.set k (some ts[i].2.1)).set l (some ts[i].2.2)).set k (some a)).set l (some b))=(τ.set k (some a)).set l (some b):=λa b=>by
   rw[x5 _ _ (uv hkl),ux,ux]
  refine hs i ts[i] ys _ et hy pv _ _ (λy4 H4 p4=>⟨by lia,ts.length-(i+1),by lia,rfl,hlt,hσ,by rw[qC,sW];lia,p4⟩) λH3 p3=>⟨ts.length-(i+1),by lia,rfl,hlt,hσ,by lia,p3⟩
 ·have e:i=ts.length:=by lia
  subst e
  exact .inl ⟨⟨_,q,by rw[ln];exact qz _⟩,by lia,hd ys H hy pv⟩
open PySem PySem.Spec PyProof.Rows
section
variable  {X:Cx}
theorem iT (hu:X.A.units+8<cLine):OpR X (tJ .NotIn) (λx y H Q=>∃(p b:Addr) (ts:List (Addr×List Int)) (m:List Int),x = .ref b/\y = .ref p/\H p=some (.tup (ts.map λt =>.ref t.1))/\(∀t∈ts,H t.1=some (.tup (t.2.map V.int)))/\H b=some (.tup (m.map V.int))/\Q (.bl (!decide (m∈ts.map (·.2)))) H):=by
 intro pins s σ H x y v u Q I rx ry h
 obtain ⟨p,b,ts,m,rfl,rfl,hp,ht,hb,q⟩:=h
 cases rx
 cases ry
 have ht':∀t∈ts,SqT X.K H t.1 (t.2.map V.int):=λt hm=>SqT.of (ht t hm)
 obtain ⟨its,r,pl,hz⟩:=I.tuple (SqT.of (K:=X.K) hp)
 have ei:=bF r
 refine wH (bE ts m) pl (λy hy =>?_) ⟨.bl _,H,I,rfl,?_⟩
 ·have hy':y∈its:=by simpa using hy
  rw[ei] at hy'
  obtain ⟨t,hm,rfl⟩:=sj.mp hy'
  rw[bg I ht' hm]
  exact I.eqT (by show X.A.units+1<cLine;lia) (ht' t hm) (SqT.of hb)
 ·rw[show its.toArray.any (bE ts m)=its.any (bE ts m) by simp,ei,gH I ht' ts (λt h=>h)]
  exact q
theorem js {k:List Int}:∀{ns:List (List Int)} {m:Nat} (h:m<ns.length),m<ns.idxOf k->ns[m]≠k
 | [],m,h,_=>absurd h (Nat.not_lt_zero _)
 | n :: ns,0,_,l=>by
  intro z
  rw[show n=k from z,uZ] at l
  exact absurd l (sE _)
 | n :: ns,m+1,h,l=>by
  rw[List.getElem_cons_succ]
  refine js (by simpa using h) ?_
  by_cases z:n=k
  ·rw[z,uZ] at l;lia
  ·rw[xI,beq_false_of_ne z,cond_false] at l;lia
theorem iU (hu:X.A.units+8<cLine):MtR X "tuple.index" (λx vs H Q=>∃(p b:Addr) (ts:List (Addr×List Int)) (m:List Int),x = .ref p/\vs=[.ref b]/\H p=some (.tup (ts.map λt =>.ref t.1))/\(∀t∈ts,H t.1=some (.tup (t.2.map V.int)))/\H b=some (.tup (m.map V.int))/\m∈ts.map (·.2)/\Q (.int ((ts.map (·.2)).idxOf m:Nat)) H):=by
 intro pins s σ H x vs v us Q I rx rv h
 obtain ⟨p,b,ts,m,rfl,rfl,hp,ht,hb,hk,q⟩:=h
 cases rx
 obtain ⟨u,rfl,ru⟩:=vals1 rv
 cases (show u=qW b from ru)
 have ht':∀t∈ts,SqT X.K H t.1 (t.2.map V.int):=λt hm=>SqT.of (ht t hm)
 obtain ⟨z,its,r,ob,e1,⟨c1,d1⟩,n,s1⟩:=(show aX X.prog X.w H s.heap p (.tup _) from I.hok p _ hp)
 have ei:=bF r
 subst ei
 have hj:(ts.map (·.2)).idxOf m<(ts.map (·.2)).length:=vE.mpr hk
 rw[qu] at hj
 obtain ⟨cls,dd,data,sl⟩:=ob
 simp only at c1 s1
 subst c1 s1
 have ky:∀(i:Nat) (hi:i<ts.length),bE ts m (qW ts[i].1)=decide (ts[i].2=m):=λi hi=>bg I ht' (uu hi)
 refine u5 vF ⟨_,e1,rfl⟩ PySem.F.entry_tuple_index (PySem.F.args_tuple_index_2 _ _) (fC p (ts.map λt=>qW t.1).toArray n dd sl (.ref b) (bE ts m) ((ts.map (·.2)).idxOf m) (by simpa using hj) ?_ ?_) ⟨e1,λy hy =>?_,⟨.int _,H,I.tok _,⟨_,rfl⟩,q⟩⟩
 ·have:((ts.map λt=>qW t.1).toArray[(ts.map (·.2)).idxOf m]'(by simpa using hj))=qW ts[(ts.map (·.2)).idxOf m].1:=by simp
  rw[this,ky _ hj,decide_eq_true]
  have:=List.getElem_idxOf (xs:=ts.map (·.2)) (x:=m) (by rw[qu];exact hj)
  rw[List.getElem_map] at this
  exact this
 ·intro j hjs hlt
  have hj2:j<ts.length:=by simpa using hjs
  have:((ts.map λt=>qW t.1).toArray[j]'hjs)=qW ts[j].1:=by simp
  rw[this,ky _ hj2,decide_eq_false]
  have:=js (k:=m) (ns:=ts.map (·.2)) (m:=j) (by rw[qu];exact hj2) hlt
  simpa using this
 ·have hy':y∈ts.map λt=>qW t.1:=by simpa using hy
  obtain ⟨t,hm,rfl⟩:=sj.mp hy'
  rw[bg I ht' hm]
  exact I.eqT (by show X.A.units+1<cLine;lia) (ht' t hm) (SqT.of hb)
end
open PySem PySem.Spec PySem.W PyProof.Rows
theorem aX.ex {P:qX}{w:rO}{H:Hp}{h:Heap}{a:Addr}{o:HO}(x:aX P w H h a o):∃u,h.get? a=some u:=by
 cases o with
 | lst xs=>obtain ⟨_,_,_,_,e⟩:=x;exact ⟨_,e⟩
 | tup xs=>obtain ⟨_,_,_,_,e,_⟩:=x;exact ⟨_,e⟩
 | dK kvs=>obtain ⟨_,_,_,_,o,_,_,e,_⟩:=x;exact ⟨_,e⟩
 | dT kvs=>obtain ⟨_,_,_,_,o,_,_,e,_⟩:=x;exact ⟨_,e⟩
 | set S n=>obtain ⟨o,_,_,_,e,_⟩:=x;exact ⟨_,e⟩
 | ins C dx fs=>obtain ⟨_,_,_,e,_⟩:=x;exact ⟨_,e⟩
 | own y=>obtain ⟨_,e⟩:=x;exact ⟨_,e⟩
 | xd fs=>obtain ⟨_,⟨_,_,_,e,_⟩,_⟩:=x;exact ⟨_,e⟩
 | rng lo hi=>obtain ⟨_,_,_,e⟩:=x;exact ⟨_,e⟩
 | frz ob u=>obtain ⟨e,_⟩:=x;exact ⟨_,e⟩
 | tbl ps=>exact ⟨_,show h.get? a=some _ from x⟩
 | met f y=>exact ⟨_,show h.get? a=some _ from x⟩
 | ext φ=>obtain ⟨_,⟨_,e⟩,_⟩:=x;exact ⟨_,e⟩
theorem HOk.noth {P:qX}{w:rO}{H:Hp}{h:Heap}{a:Addr}(x:HOk P w H h)(e:h.get? a=none):H a=none:=by
 cases q:H a with
 | none=>rfl
 | some o =>
  obtain ⟨u,z⟩:=(x a o q).ex
  rw[e] at z;cases z
theorem HOk.hide {P:qX}{w:rO}{H:Hp}{h:Heap}{l:List Addr}(x:HOk P w H h)(n:∀b∈l,H b=none):HOk P w H (hideAll h l):=λa o e =>
 (x a o e).gf (λb u hb q=>vR _ q λm=>by
  have z:=n b m
  rcases hb with rfl | hb
  ·rw[e] at z;cases z
  ·rw[hb] at z;cases z) (λ_ q=>q) λ_ _ q=>q
structure Fly (P:qX)(w:rO)(outer:List Env)(H H':Hp)(h:Heap)(B:Heap)(ea:Addr)(cls a0:qw)(h':Heap):Prop where
 fl:Heap.FlyingW B outer ea cls a0 h'
 un:Un (frs outer) [] H H' h h'
 ok:HOk P w H' B
 cov:∀b o,h.get? b=some o->H b=none->b∉frs outer->B.get? b=some o
 all:∀b o,h.get? b=some o->b∉frs outer->∃u,B.get? b=some u
section
variable  {P:qX}{w:rO}{outer:List Env}{H H':Hp}{h B h' h2:Heap}{ea:Addr}{cls a0:qw}
theorem Fly.no (F:Fly P w outer H H' h B ea cls a0 h'):H' ea=none:=F.ok.noth F.fl.2.1
theorem Fly.hok (F:Fly P w outer H H' h B ea cls a0 h'):HOk P w H' h':=F.ok.kept F.fl.1
theorem Fly.new (F:Fly P w outer H H' h B ea cls a0 h'):h.get? ea=none:=by
 cases q:h.get? ea with
 | none=>rfl
 | some o =>
  by_cases m:ea∈frs outer
  ·obtain ⟨_,o',ho',hd⟩:=F.fl.2.2.1.mem m
   obtain ⟨oe,vs,he,_,hde,_⟩:=F.fl.first
   rw[he] at ho';cases ho'
   exact absurd hde (hd vs)
  ·obtain ⟨u,z⟩:=F.all ea o q m
   rw[F.fl.2.1] at z;cases z
theorem Fly.step {l:List Env}(F:Fly P w outer H H' h B ea cls a0 h')(f2:Heap.FlyingW B l ea cls a0 h2)(hs:∀b∈frs outer,∀o,h'.get? b=some o->∃sl,h2.get? b=some { o with slots:=sl }):Un (frs outer) [] H H' h h2 where
 keep:=λb o q n m _=>f2.1 _ _ (F.cov b o q n m)
 slot:=λb o q n m x=>by
  obtain ⟨sl,e⟩:=F.un.slot b o q n m x
  obtain ⟨sl',e'⟩:=hs b m _ e
  exact ⟨sl',e'⟩
 free:=F.un.free
 there:=λb o q x=>by
  by_cases m:b∈frs outer
  ·obtain ⟨o',e⟩:=F.un.there b o q x
   obtain ⟨sl',e'⟩:=hs b m _ e
   exact ⟨_,e'⟩
  ·obtain ⟨u,e⟩:=F.all b o q m
   exact ⟨u,f2.1 _ _ e⟩
 tups:=F.un.tups
 frzs:=F.un.frzs
 tbls:=F.un.tbls
theorem Fly.slots (F:Fly P w outer H H' h B ea cls a0 h')(k:h'.UpToSlots h2):∀b∈frs outer,∀o,h'.get? b=some o->∃sl,h2.get? b=some { o with slots:=sl }:=λb m o e=>by
 obtain ⟨_,o',ho',hd⟩:=F.fl.2.2.1.mem m
 rw[e] at ho';cases ho'
 exact k b o e hd
theorem Fly.on (F:Fly P w outer H H' h B ea cls a0 h')(f2:Heap.FlyingW B outer ea cls a0 h2)(k:h'.UpToSlots h2):Fly P w outer H H' h B ea cls a0 h2 :=
 ⟨f2,F.step f2 (F.slots k),F.ok,F.cov,F.all⟩
end
def CX1 (P:qX)(w:rO):CXT:=λouter H s E e s'=>∃ea cls a0 B H',e = .ref ea/\s'.os=s.os/\AllBare s'.gens/\Fly P w outer H H' s.heap B ea cls a0 s'.heap/\E cls none H'
section
variable  {X:Cx}{pins:List (Addr×Obj)}{σ:St}{H H':Hp}{s:qy}{B h':Heap}{ea:Addr}{cls a0:qw}
theorem Inv.land {s':qy}(I:Inv X pins σ H s)(os:s'.os=s.os)(g:AllBare s'.gens)(F:Fly X.prog X.w X.stack H H' s.heap B ea cls a0 s'.heap):Inv X pins σ H' s' :=
 I.nu os F.un F.hok g (λb z=>absurd z (by simp))
theorem Fly.made {M:Model}{E:qw->qy->Prop}{Q:Unit->qy->Prop}{s':qy}{vs:List qw}(I:Inv X pins σ H s)(hst:X.stack=X.env :: X.outer)(hfr:X.env.frame=some X.env.locals)(hex:X.ex=[])
  (hx:Heap.MadeExcOf s.heap s'.heap ea cls vs) (hQ:∀h2 B a0,Fly X.prog X.w X.outer X.H₀ H X.s₀.heap B ea cls a0 h2->Q () { s' with heap:=h2 }):rH M X.A (leaving X.env (.ref ea)) Q E s':=by
 have ff:=I.stack
 have hin:∀env∈X.stack,∀b,env.frame=some b->b∈frs X.stack:=λenv he b hb=>vj.mpr ⟨env,he,hb⟩
 have ff':=funFrames_hide ff hin
 have fh:∀b∈frs X.stack,H b=none:=I.gj
 have F0:∀h2 t,Heap.FlyingW (hideAll s.heap (frs X.stack)) X.outer ea cls (.ref t) h2->s'.heap.UpToSlots h2->Fly X.prog X.w X.outer X.H₀ H X.s₀.heap (hideAll s.heap (frs X.stack)) ea cls (.ref t) h2:=λh2 t f2 k=>by
  have nL:∀b o,X.s₀.heap.get? b=some o->b≠X.env.locals:=λb o q z=>absurd (qM (qP q) (z ▸ I.ok.above)) (sE _)
  have nst:∀b,b∉X.fs->b≠X.env.locals->b∉frs X.stack:=λb n1 n2 m=>by
   rw[hst] at m
   unfold frs at m
   rw[tO,hfr] at m
   rcases rU.mp m with z | z
   ·exact n2 z
   ·exact n1 z
  have sub:∀b∈X.fs,b∈frs X.stack:=λb m=>by
   rw[hst];unfold frs;rw[tO,hfr];exact qZ _ m
  have nx:∀b,b∉X.ex:=λb m=>by rw[hex] at m;cases m
  have sl:∀b∈frs X.stack,∀o,s.heap.get? b=some o->∃sl,h2.get? b=some { o with slots:=sl }:=λb m o e=>by
   obtain ⟨_,o',ho',hd⟩:=ff.mem m
   rw[e] at ho';cases ho'
   exact k b o (hx.keeps _ _ e) hd
  refine ⟨f2,⟨λb o q n m _ =>?_,λb o q n m _ =>?_,λb o q n _=>I.base.free b o q n (nx b),λb o q _ =>?_,I.base.tups,I.base.frzs,I.base.tbls⟩,I.hok.hide fh,λb o q n m =>?_,λb o q m =>?_⟩
  ·exact f2.1 _ _ (vR _ (I.base.keep b o q n m (nx b)) (nst b m (nL b o q)))
  ·obtain ⟨s1,e⟩:=I.base.slot b o q n m (nx b)
   obtain ⟨s2,e'⟩:=sl b (sub b m) _ e
   exact ⟨s2,e'⟩
  ·obtain ⟨o',e⟩:=I.base.there b o q (nx b)
   by_cases m:b∈frs X.stack
   ·obtain ⟨s2,e'⟩:=sl b m _ e
    exact ⟨_,e'⟩
   ·exact ⟨o',f2.1 _ _ (vR _ e m)⟩
  ·exact vR _ (I.base.keep b o q n m (nx b)) (nst b m (nL b o q))
  ·obtain ⟨o',e⟩:=I.base.there b o q (nx b)
   exact ⟨o',vR _ e (nst b m (nL b o q))⟩
 rw[hst] at ff'
 refine wpAny_leaves_madeW (base:=hideAll s.heap (frs (X.env :: X.outer))) (by rw[I.ok.frames,hst]) hfr (λb o q=>of_hideAll _ q) ff' hx λh2 t f2 _ _ k =>?_
 rw[<- hst] at f2
 exact hQ h2 _ _ (F0 h2 t f2 k)
end
open PySem PySem.Spec PySem.W PyProof.Rows
theorem Fun.okX {P:qX}{w:rO}{K:qv}{mg:Str->Option qw}{base:Heap}{x qual:Str}{st:Stmt}{f:Addr}{fd:sA}{N ps:List Str}{k:Nat}{sp:Sp}(F:Fun K x qual st f fd)(S:aT N ps (ao st))(len:∀vs H Q E,sp vs H Q E->vs.length=ps.length)
  (hb:∀(cdv:qw) (A:r6) (outer:List Env) (s:qy) (H:Hp) (vs:List V) (Q:VK) (E:XK),bI k (A.deeper (envOfC qual (ao st) s.heap.objs.size f cdv))->sp vs H Q E →
   ∃t,PSs (gY (CX1 P w) P w K mg base N qual (ao st) f cdv A outer s H E) (bz st) t/\t { nx:=λ_ H'=>Q .non H',rt:=Q } (start N vs) H):bu P w K mg base (CX1 P w) (k+1) f fd ps sp:=by
 obtain ⟨oc,od,kV,doc,pm,an,cdv,ct,osl,rfl,lk,hcd⟩:=F.ex
 exact nC lk hcd S len λA outer s H vs Q E hr hsp=>hb cdv A outer s H vs Q E hr hsp
structure iV (P:qX)(w:rO)(K:qv)(mg:Str->Option qw)(base:Heap)(k:Nat)(x:Str)(ps:List Str)(sp:Sp):Prop where
 ex:∃f fd,bu P w K mg base (CX1 P w) k f fd ps sp/\mg x=some (.ref f)/\PySem.W.keepIn K (.ref f)=true/\Binds K fd ps []
theorem iV.calm {P:qX}{w:rO}{K:qv}{mg:Str->Option qw}{base:Heap}{k:Nat}{x:Str}{ps:List Str}{sp sp':Sp}(c:iV P w K mg base k x ps sp)(h:∀vs H Q E,sp' vs H Q E->sp vs H Q E0):Cal P w K mg base k x ps sp':=by
 obtain ⟨f,fd,F,m,kp,b⟩:=c.ex
 refine ⟨f,fd,⟨λvs H Q E q=>F.len vs H Q E0 (h _ _ _ _ q),λA outer s H args us vs Q E hr he hb hv hs=>vn (F.run A outer s H args us vs Q E0 hr he hb hv (h _ _ _ _ hs)) λr s' z =>?_⟩,m,kp,b⟩
 cases r with
 | error e =>
  obtain ⟨_,_,_,_,_,_,_,_,_,z⟩:=z
  exact z.elim
 | ok fl=>cases fl <;> exact z
section
variable  {P:qX}{w:rO}{K:qv}{mg:Str->Option qw}{base:Heap}{N:List Str}{qual:Str}{sc:Scope}{f:Addr}{cdv:qw}{A:r6}{outer:List Env}{s₀:qy}{H₀:Hp}{E:XK}
def p8 (X:Cx)(E:XK):Prop:=∀(pins:List (Addr×Obj)) (σ:St) (H:Hp) (s:qy) (h':Heap) (ea:Addr) (cls:qw) (vs:List qw),Inv X pins σ H s->Heap.MadeExcOf s.heap h' ea cls vs->E cls none H->X.xe (.ref ea) { s with heap:=h' }
theorem nG:p8 (gY (CX1 P w) P w K mg base N qual sc f cdv A outer s₀ H₀ E) E:=λpins σ H s h' ea cls vs I hx q=>by
 exact Fly.made (s':={ s with heap:=h' }) I rfl rfl rfl hx λh2 B a0 F2=>⟨ea,cls,a0,B,H,rfl,I.os,I.bare,F2,q⟩
end
abbrev hX:List qw:=[.type "ValueError",.type "Exception",.type "BaseException",.type "object"]
structure ExC (K:qv)(mg:Str->Option qw)(x:Str)(C:Addr):Prop where
 ex:excIn K C hX "ValueError.__new__" = true
 mg:mg x=some (.ref C)
theorem oS {K:qv}{h:Heap}{C:Addr}{bs:List qw}{nid:String}(X:K.In h)(q:excIn K C bs nid=true) :
  ∃bm N nm q bs' hd sn sub ab col dd k0 k1 k2 k3 k5 mN,h.get? C=some (excClassObj nm q C N bs' bm hd sn sub ab col dd k0 k1 k2 k3 k5 nid)/\h.Ns N mN/\mN "__init__" = none/\OwnTail h bs bm:=by
 unfold excIn at q
 split at q
 ·rename_i d1 c1 sl1 l1
  split at q
  ·rename_i C1 b1 j0 j1 j2 j3 n1 j5 m1 s1
   simp only[rZ,beq_iff_eq,Bool.not_eq_true'] at q
   obtain ⟨⟨⟨⟨⟨rfl,rfl⟩,q1⟩,q2⟩,q3⟩,q4⟩:=q
   obtain ⟨a1,a2,a3,a4,a5,a6,a7,a8,a9,a10,a11⟩:=c1
   dsimp only at m1 q1 q3 q4
   subst m1 q1
   obtain ⟨ll⟩:=sl1
   simp only at s1
   subst s1
   exact ⟨b1,a4,a1,a5,a2,a6,a7,a8,a9,a10,d1,j0,j1,j2,j3,j5,_,X _ _ l1,.of_isNs (isNs_of_in X q3),nsMap_none_of_in X q3 q4,tail_of_in X q2⟩
  ·cases q
 ·cases q
def oT (E:XK)(cls:qw)(t:TA):TS:=λ_ σ H=>t σ H λvs H1=>vs.length<=qD/\E cls none H1
theorem hZ {X:Cx}{E:XK}{C:Addr}{x:Str}{e:Expr}{es:List Expr}{t:TA}{np cpos pos:Pos}(O:p8 X E)(hc:ExC X.K X.mg x C)(hh:X.A.handled=none)(hg:Gl X x)(ha:PA X (e :: es) t)
  (hdb:(x == ("__debug__" : Str))=false:=by decide) (he:rL (e :: es) X.env=(false,eval e X.env) :: rL es X.env:=by rfl) (hpl:(u0 cpos (rL es X.env)).any (·.1)=false:=by rfl) :
  PS X (.Raise (some (.Call (.Name x np) (e :: es) [] cpos)) none pos) (oT E (.ref C) t):=by
 intro pins s σ H D I h
 obtain ⟨bm,N,nm,q,bs',hd,sn,sub,ab,col,dd,k0,k1,k2,k3,k5,mN,hC,hN,hni,T⟩:=oS I.mod.kin hc.ex
 have hpl':(u0 cpos (rL (e :: es) X.env)).any (·.1)=false:=by
  rw[he]
  show (false || (u0 cpos (rL es X.env)).any (·.1))=false
  rw[hpl];rfl
 refine wpAny_Raise_call_subT (nm:=nm) (q:=q) (N:=N) (bs:=bs') (bm:=bm) (hdct:=hd) (sn:=sn) (sub:=sub) (ab:=ab) (col:=col) (dd:=dd) (k0:=k0) (k1:=k1) (k2:=k2) (k3:=k3) (k5:=k5) (mN:=mN)
  wC (T.hasType wC.hasBase) hh hpl' hni (dt I hg hc.mg ⟨rfl,?_⟩ hdb)
 have hs:=ha cpos pins s σ H _ I h
 rw[he] at hs ⊢
 refine uV (sT hs (λus s2 ⟨vs,H1,I1,r,z,qE⟩=>⟨rfl,by rw[<- r.length];exact z,I1.bk _ _ hC,hN.keeps I1.bk,T.keeps I1.bk,λh' ea hx=>O pins σ H1 s2 h' ea _ _ I1 hx qE⟩) λ_ _ y=>y)
open PySem PySem.Spec PySem.W PyProof.Rows
abbrev Cx.mark (X:Cx)(ea:Addr):Cx:={ X with A:=X.A.mark (some (.ref ea)),calm:=false,xe:=λ_ _=>False }
section
variable  {X:Cx}{pins:List (Addr×Obj)}{σ:St}{H H':Hp}{s s':qy}{B h':Heap}{ea:Addr}{cls a0:qw}
theorem Inv.mark (I:Inv X pins σ H s)(ea:Addr):Inv (X.mark ea) pins σ H s :=
 ⟨⟨I.ok.mod,I.ok.kind,I.ok.glob,I.ok.blt,I.ok.above,I.ok.inj,I.ok.has,I.ok.cab,(λz=>Bool.noConfusion z),I.ok.frames,I.ok.stk,I.ok.exf,I.ok.bs,I.ok.bsz,I.ok.noex,I.ok.exfs,I.ok.funs,I.ok.frf⟩,I.os,I.bare,I.base,I.loc,I.cell,I.free,I.freeC,I.pin,I.hok,I.len⟩
theorem Inv.unmark (ok:X.Ok)(I:Inv (X.mark ea) pins σ H s):Inv X pins σ H s:=⟨ok,I.os,I.bare,I.base,I.loc,I.cell,I.free,I.freeC,I.pin,I.hok,I.len⟩
def dZ (ea:Addr)(cls:qw):HO :=.ext λh=>∃o,h.get? ea=some o/\o.cls=cls
theorem HOk.exc {P:qX}{w:rO}{h:Heap}(x:HOk P w H h)(hn:H ea=none)(hc:∃o,h.get? ea=some o/\o.cls=cls):HOk P w (upd H ea (dZ ea cls)) h:=λb u e=>by
 by_cases z:b=ea
 ·subst z
  rw[ag] at e
  cases e
  refine ⟨hc,?_,λh1 h2 p k =>?_⟩
  ·obtain ⟨o,q,_⟩:=hc;exact ⟨o,q⟩
  ·obtain ⟨o,q,c⟩:=p;exact ⟨o,k o q,c⟩
 ·rw[az z] at e
  exact (x b u e).gf (λ_ _ _ q=>q) (λc q=>by rw[az (ax q hn)];exact q) λc xs q=>by rw[az (ax q hn)];exact q
theorem Inv.exc (I0:Inv X pins σ H s)(I:Inv X pins σ H' s')(F:Fly X.prog X.w X.stack H H' s.heap B ea cls a0 s'.heap):Inv X pins σ (upd H' ea (dZ ea cls)) s':=by
 have nn:=F.new
 have hn:=F.no
 have ne:∀b o,s.heap.get? b=some o->b≠ea:=λb o q z=>by rw[z,nn] at q;cases q
 have nh:∀b u,H' b=some u->b≠ea:=λb u q=>ax q hn
 refine ⟨I.ok,I.os,I.bare,⟨I.base.keep,I.base.slot,λb o q n m =>?_,I.base.there,λb xs q =>?_,λb o u q =>?_,λb ps q =>?_⟩,I.loc,I.cell,?_,λx c e =>?_,λp hp =>?_,I.hok.exc hn F.fl.there,I.len⟩
 ·obtain ⟨o',e⟩:=I0.base.there b o q m
  rw[az (ne b o' e)];exact I.base.free b o q n m
 ·have:=I.base.tups b xs q
  rw[az (nh b _ this)];exact this
 ·have:=I.base.frzs b o u q
  rw[az (nh b _ this)];exact this
 ·obtain ⟨mo,this⟩:=I.base.tbls b ps q
  exact ⟨mo,by rw[az (nh b _ this)];exact this⟩
 ·obtain ⟨m,⟨o,_,_,ho,_⟩,_⟩:=I0.loc
  rw[az (ne _ o ho)];exact I.free
 ·obtain ⟨v,o,ho,_⟩:=I0.cell x c e
  rw[az (ne _ o ho)];exact I.freeC x c e
 ·obtain ⟨e,n,n1,n2,d⟩:=I.pin p hp
  obtain ⟨e0,_⟩:=I0.pin p hp
  exact ⟨e,by rw[az (ne _ _ e0)];exact n,n1,n2,d⟩
theorem Inv.gone {i:Nat}{x:Str}{m:Str->Option qw}{v:Option qw}{tk:Nat}(I:Inv X pins σ H s)(hN:X.N.Nodup)(hi:X.N[i]? = some x)(hn:s.heap.Ns X.env.locals m)(hl:∀(j:Nat) (y:Str) (v:V),X.N[j]? = some y->σ[j]? = some (some v)->Vis X.env.scope y->∃u,RelV v u/\Look X.env s.heap m y u)
  (hn':h'.Ns X.env.locals (λy=>if y=x then v else m y)) (hs:Heap.SameBut X.env.locals s.heap h'):Inv X pins (σ.set i none) H { s with heap:=h',toks:=tk }:=by
 obtain ⟨oL,_,_,hoL,_⟩:=id hn
 have cne:=I.cne
 have lt:∀b o,X.s₀.heap.get? b=some o->b≠X.env.locals:=λb o e=>rM (qM (qP e) I.ok.above)
 refine ⟨I.ok,I.os,I.bare,⟨λb o e n hb hx =>?_,λb o e n hb hx =>?_,I.base.free,λb o e hx =>?_,I.base.tups,I.base.frzs,I.base.tbls⟩,⟨_,hn',λj y v' e1 e2 e3 =>?_⟩,λy c e =>?_,I.free,I.freeC,λp hp =>?_,λb ob e =>?_,by simpa using I.len⟩
 ·exact (hs.2 b (lt b o e)).trans (I.base.keep b o e n hb hx)
 ·obtain ⟨sl,e1⟩:=I.base.slot b o e n hb hx
  exact ⟨sl,(hs.2 b (lt b o e)).trans e1⟩
 ·obtain ⟨o',e1⟩:=I.base.there b o e hx
  exact ⟨o',(hs.2 b (lt b o e)).trans e1⟩
 ·by_cases hj:j=i
  ·subst hj
   have:j<σ.length:=by rw[I.len];exact (qI.mp hi).1
   rw[tW this] at e2
   cases e2
  ·rw[uU (uv hj)] at e2
   obtain ⟨u',r',q⟩:=hl j y v' e1 e2 e3
   refine ⟨u',r',?_⟩
   rcases q with ⟨k,e⟩ | ⟨k,c,e,z⟩
   ·have:y≠x:=λe=>hj (eM hN e1 (e ▸ hi))
    exact .inl ⟨k,by simp[this,e]⟩
   ·exact .inr ⟨k,c,e,z.sameBut hs (cne y c e)⟩
 ·obtain ⟨w',z⟩:=I.cell y c e
  exact ⟨w',z.sameBut hs (cne y c e)⟩
 ·obtain ⟨e,n,ne,nf,d⟩:=I.pin p hp
  exact ⟨(hs.2 p.1 ne).trans e,n,ne,nf,d⟩
 ·have fr:=I.free
  refine (I.hok b ob e).gf (λc w' hc q=>(hs.2 c ?_).trans q) (λ_ q=>q) λ_ _ q=>q
  rintro rfl
  rcases hc with rfl | hc
  ·rw[fr] at e;cases e
  ·rw[fr] at hc;cases hc
end
abbrev EXt:=qw->St->Hp->Prop
def XP (X:Cx)(pins:List (Addr×Obj))(EX:EXt)(e:qw)(s':qy):Prop :=
 ∃σ H s ea cls a0 B H',Inv X pins σ H s/\e = .ref ea/\s'.os=s.os/\AllBare s'.gens/\Fly X.prog X.w X.stack H H' s.heap B ea cls a0 s'.heap/\EX cls σ H'
def PSx (X:Cx)(sts:List Stmt)(t:EXt->TS):Prop :=
 ∀(pins:List (Addr×Obj)) (s:qy) (σ:St) (H:Hp) (D:Ends) (EX:EXt),Inv X pins σ H s->t EX D σ H->rH (rD X.prog X.w) X.A (execs sts X.env) (SP X pins D) (XP X pins EX) s
def oU (X:Cx)(st:Stmt)(t:EXt->TS):Prop :=
 ∀(pins:List (Addr×Obj)) (s:qy) (σ:St) (H:Hp) (D:Ends) (EX:EXt),Inv X pins σ H s->t EX D σ H->rH (rD X.prog X.w) X.A (exec st X.env) (SP X pins D) (XP X pins EX) s
section
variable  {X:Cx}{pos:Pos}
theorem gJ {st:Stmt}{t:EXt->TS}(h1:oU X st t):PSx X [st] t:=by
 intro pins s σ H D EX I h
 refine vV (thn (h1 pins s σ H D EX I h) λf s1 q =>?_)
 cases f with
 | next=>exact uE q
 | ret v=>exact q
 | brk=>exact q
 | cont=>exact q
theorem oV {c:Expr}{a b:List Stmt}{tc:TT}{ta tb:EXt->TS}(hc:PT X.nox c tc)(ha:PSx X a ta)(hb:PSx X b tb):oU X (.If c a b pos) (λEX D σ H=>tc σ H λk H1=>if k=true then ta EX D σ H1 else tb EX D σ H1):=by
 intro pins s σ H D EX I h
 refine wpAny_If (sT (hc pins s σ H _ (I.eE _) h) (λd s1 ⟨H1,I1,q1⟩ =>?_) λ_ _ z=>False.elim z)
 cases d with
 | true=>exact ha pins s1 σ H1 D EX I1.bK q1
 | false=>exact hb pins s1 σ H1 D EX I1.bK q1
theorem p9 {k:Nat}{f:Addr}{fd:sA}{ps:List Str}{sp:Sp}{pins:List (Addr×Obj)}{σ:St}{H:Hp}{s:qy}{Q:VK}{EX:EXt}{us:List qw}{vs:List V}(F:bu X.prog X.w X.K X.mg X.base (CX1 X.prog X.w) k f fd ps sp)(hr:bI k X.A)(hb:Binds X.K fd ps [])
  (I:Inv X pins σ H s) (r:Vals vs us) (h:sp vs H Q λcls _ H'=>EX cls σ H'):rH (rD X.prog X.w) X.A (call (.ref f) us) (EP X pins σ Q) (XP X pins EX) s:=by
 have hl:us.length=ps.length:=by rw[<- r.length];exact F.len _ _ _ _ h
 have hb':=hb s us I.kIn (by rw[rW];exact hl)
 rw[rW] at hb'
 refine wpAny_call (vn (F.run X.A X.stack s H ⟨us,[]⟩ us vs Q _ hr I.pQ hb' r h) λr s' hq =>?_)
 cases r with
 | error e =>
  obtain ⟨ea,cls,a0,B,H2,rfl,os,g,F2,q⟩:=hq
  exact ⟨σ,H,s,ea,cls,a0,B,H2,I,rfl,os,g,F2,q⟩
 | ok fl =>
  cases fl with
  | ret u=>exact I.after hq
  | next=>exact False.elim hq
  | brk=>exact False.elim hq
  | cont=>exact False.elim hq
theorem ev_x {j k:Nat}{x:Str}{ps:List Str}{sp:Sp}{e:Expr}{es:List Expr}{t:TA}{p:Pos}{pins:List (Addr×Obj)}{σ:St}{H:Hp}{s:qy}{Q:VK}{EX:EXt}(C:iV X.prog X.w X.K X.mg X.base k x ps sp)(hr:bI j X.A)(hj:k<=j)(hg:Gl X x)(ha:PA X.nox (e :: es) t)
  (hdb:(x == ("__debug__" : Str))=false) (he:rL (e :: es) X.env=(false,eval e X.env) :: rL es X.env) (hpl:(u0 pos (rL es X.env)).any (·.1)=false)
  (I:Inv X pins σ H s) (h:t σ H λvs H1=>sp vs H1 Q λcls _ H2=>EX cls σ H2):rH (rD X.prog X.w) X.A (eval (.Call (.Name x p) (e :: es) [] pos) X.env) (EP X pins σ Q) (XP X pins EX) s:=by
 obtain ⟨f,fd,F,m,kp,b⟩:=C.ex
 refine uG (dt I hg m ?_ hdb)
 refine wN (h₀:=X.base) I.ok.mod.kin kp (sT (ha pos pins s σ H _ (I.eE _) h) (λus s1 ⟨vs,H1,I1,r,q⟩=>⟨I1.bK.kIn,?_⟩) λ_ _ z=>False.elim z) he hpl
 exact p9 F (hr.mono hj) b I1.bK r q
theorem ia {j k:Nat}{x:Str}{ps:List Str}{sp:Sp}{e:Expr}{es:List Expr}{t:TA}{p pos':Pos}(C:iV X.prog X.w X.K X.mg X.base k x ps sp)(hr:bI j X.A)(hj:k<=j)(hg:Gl X x)(ha:PA X.nox (e :: es) t)
  (hdb:(x == ("__debug__" : Str))=false:=by decide) (he:rL (e :: es) X.env=(false,eval e X.env) :: rL es X.env:=by rfl) (hpl:(u0 pos (rL es X.env)).any (·.1)=false:=by rfl) (hs:swapsWith (.Call (.Name x p) (e :: es) [] pos) none pos'.line X.env=pure false:=by rfl) :
  oU X (.Expr (.Call (.Name x p) (e :: es) [] pos) pos') (λEX D σ H=>t σ H λvs H1=>sp vs H1 (λ_ H2=>D.nx σ H2) λcls _ H2=>EX cls σ H2):=by
 intro pins s σ H D EX I h
 exact wpAny_Expr_any (thn (ev_x C hr hj hg ha hdb he hpl I h) λv s1 ⟨x,H1,I1,r1,q1⟩=>⟨σ,H1,I1,q1⟩) I.quiet hs
def tTry (K:qv)(i:Nat)(C:qw)(tb:EXt->TS)(th:TS):TS:=λD σ H =>
 tb (λcls σ1 H1=>exmOne K cls C=some true/\∀ea,H1 ea=none->th { nx:=λσ2 H2=>D.nx (σ2.set i none) H2,rt:=D.rt,bk:=λσ2 H2=>D.bk (σ2.set i none) H2,ct:=λσ2 H2=>D.ct (σ2.set i none) H2 } (σ1.set i (some (.ref ea))) (upd H1 ea (dZ ea cls))) D σ H
theorem oW {i:Nat}{n x:Str}{C:qw}{body:List Stmt}{b₀:Stmt}{suite:List Stmt}{tb:EXt->TS}{th:TS}{np hp:Pos}(hst:X.stack=X.env :: X.outer)(hfr:X.env.frame=some X.env.locals)
    (hN:X.N.Nodup) (hi:X.N[i]? = some n) (hx:X.env.scope.names.lookup n=some .local) (hg:Gl X x) (hm:X.mg x=some C) (hb:PSx X body tb) (hs:∀ea,PSs (X.mark ea) (b₀ :: suite) th) (hdb:(x == ("__debug__" : Str))=false:=by decide) :
    PS X (.Try body [.ExceptHandler (some (.Name x np)) (some n) (b₀ :: suite) hp] [] [] pos) (tTry X.K i C tb th):=by
  intro pins s σ H D I h
  refine wpAny_Try_except (sT (hb pins s σ H D _ I h) (λf s1 q =>?_) λe s1 hx1 =>?_)
  · cases f with
    | next=>exact uE q
    | ret v=>exact q
    | brk=>exact q
    | cont=>exact q
  obtain ⟨σ1,H1,s0,ea,cls,a0,B,H2,I1,rfl,os,g,F,hm2,q⟩:=hx1
  have fl:=F.fl
  have hfr':X.A.frames=some (X.env :: X.outer):=by rw[I1.ok.frames,hst]
  rw[hst] at fl
  refine wpAny_looks_onW hfr' hfr fl λh4 held4 k4 =>?_
  refine wpAny_landsW held4 λh5 f5 k5 =>?_
  rw[<- hst] at f5
  have F5:=F.on f5 (k4.trans k5)
  have I5:Inv X pins σ1 H2 { s1 with heap:=h5 }:=I1.land os g F5
  refine wpAny_handleBy_cons (codeAny_handlers_test ?_) (by intro z;cases z)
  refine dt (X:=X.mark ea) (I5.mark ea) hg hm ?_ hdb
  have LT:Looks (rD X.prog X.w) h5 (typeOf (.ref ea)) cls:=by
    obtain ⟨ob,hob,hc⟩:=f5.there
    subst hc
    exact (Looks.ld hob).andThen .now
  refine (exm_one (M:=rD X.prog X.w) I5.kIn LT hm2).here ?_
  refine codeAny_handlers_suite_as ?_
  refine lands_againW f5 λh6 f6 k6 =>?_
  have F6:=F5.on f6 k6
  have I6:Inv X pins σ1 H2 { s1 with heap:=h6 }:=I1.land os g F6
  have I7:=I1.exc I6 F6
  refine eN (v :=.ref ea) I7 hN hi (.inl hx) rfl (λs7 I8 =>?_) (.inr hx)
  have cls0:(X.env.scope.kind == .class || (X.env.scope.kind == .module && X.env.locals != X.env.globals))=false:=by rw[I.ok.kind];rfl
  have go:∀{σ2:St} {H3:Hp} {s8:qy} {Q:Unit->qy->Prop} {E:qw->qy->Prop},Inv (X.mark ea) pins σ2 H3 s8->(∀s9,Inv X pins (σ2.set i none) H3 s9->Q () s9)->rH (rD X.prog X.w) X.A (do bindName X.env n .none;unbindBehindTheSuite X.env n hp) Q E s8:=λ{σ2 H3 s8 Q E} J hQ=>by
    have J':Inv X pins σ2 H3 s8:=J.unmark I.ok
    obtain ⟨m,hn,hl⟩:=J'.loc
    exact wpAny_nameGoes_keeps hx hn cls0 λh9 v hn9 hs9=>hQ _ (J'.gone hN hi hn hl hn9 hs9)
  refine sT (hs ea pins s7 _ _ _ (I8.mark ea) (q ea F.no)) (λf s8 r =>?_) λ_ _ z=>False.elim z
  cases f with
  | next =>
    obtain ⟨σ2,H3,J,r⟩:=r
    exact go J λs9 J9=>⟨_,H3,J9,r⟩
  | brk =>
    obtain ⟨σ2,H3,J,r⟩:=r
    exact go J λs9 J9=>⟨_,H3,J9,r⟩
  | cont =>
    obtain ⟨σ2,H3,J,r⟩:=r
    exact go J λs9 J9=>⟨_,H3,J9,r⟩
  | ret u =>
    obtain ⟨v,σ2,H3,J,rv,r⟩:=r
    exact go J λs9 J9=>⟨v,_,H3,J9,rv,r⟩
end
open PySem PySem.Spec PySem.W PyProof.Rows
structure ExI (K:qv)(C:Addr):Prop where
 ga:findIn K (.ref C) "__getattribute__" = some (some (.builtin "BaseException.__getattribute__"))
 gt:findIn K (.ref C) "__getattr__" = some none
 cl:findIn K (.ref C) "__class__" = some (some (.builtin "object.__class__"))
 mo:subIn K (.ref C) (.type "object")=some true
 sb:subIn K (.ref C) (.type "BaseException")=some true
 it:(clsIn K C).isSome=true
section
variable  {K:qv}{prog:qX}{w:rO}{A:r6}{E:qw->qy->Prop}{h:Heap}{g:Array GenState}{d:Drawn}{t:Nat}{os:OsState}{a C:Addr}{o:Obj}
theorem oX {R:Result->qy->Prop}(X:K.In h)(Z:ExI K C)(hx:h.get? a=some o)(hc:o.cls = .ref C)(hq:R (.ok (.ret (.ref C))) ⟨h,g,d,t,os⟩) :
  xq (rD prog w) A (.call (.builtin "getset_descriptor.__get__") ⟨[.builtin "object.__class__",.ref a,.ref C],[]⟩) R ⟨h,g,d,t,os⟩:=by
 have hT5:(⟨h,g,d,t,os⟩:qy).TypeIs (.builtin "object.__class__") "getset_descriptor" := uO
 have L1:Looks (rD prog w) h (isSubtype (.ref C) (.type (".".intercalate ("object.__class__".cutAt '.').dropLast))) true:=by rw[F.owner_object_class];exact looks_subIn X Z.mo
 refine wG wW.plain F.entry_gs_get (wW.check _ _ _ _ _ _ _ _ hT5 (F.args_gs_get _ _ _) ?_)
 repeat (any_goals (first | assumption | (with_reducible refine uj hx ?_;rw[hc]) | with_reducible refine L1.at ?_ | wp_step))
 refine ⟨wV _ (by decide +kernel),tN F.entry_object_class ?_⟩
 unfold Builtin.«object.__class__»
 repeat (any_goals (first | assumption | (with_reducible refine uj hx ?_;rw[hc]) | wp_step))
theorem lq {tk:Tok}{Q:Fin->qy->Prop}(X:K.In h)(Z:ExI K C)(hx:h.get? a=some o)(hc:o.cls = .ref C)(hq:Q (.done (.ret (.ref C))) ⟨h,g,d,t,os⟩) :
  rH (rD prog w) A (Builtin.«object.__getattribute__» ⟨[.ref a,.str "__class__" tk],[]⟩) Q E ⟨h,g,d,t,os⟩:=by
 have hT5:(⟨h,g,d,t,os⟩:qy).TypeIs (.builtin "object.__class__") "getset_descriptor" := uO
 have f5:=uO
 have f6:=wW.lookup
 have f7:=F.slot_gs_set.lookup
 have L1:=xv (M:=rD prog w) X Z.cl
 repeat (any_goals (first | assumption | (with_reducible refine uj hx ?_;rw[hc]) | with_reducible refine L1.at ?_ | wp_step))
 refine oX X Z hx hc ?_
 repeat (any_goals (first | assumption | wp_step))
theorem lx {M:Model}{nv:qw}{Q:Unit->qy->Prop}(X:K.In h)(Z:ExI K C)(hx:h.get? a=some o)(hc:o.cls = .ref C)(hq:Q () ⟨h,g,d,t,os⟩):rH M A (checkBuiltinCall "BaseException.__getattribute__" ⟨[.ref a,nv],[]⟩) Q E ⟨h,g,d,t,os⟩:=by
 have k1:builtinKind "BaseException.__getattribute__" = some .slot:=by decide +kernel
 have k2:splitId "BaseException.__getattribute__" = some ("BaseException", "__getattribute__"):=by decide +kernel
 have L1:=looks_subIn (M:=M) X Z.sb
 have k3:=F.args_bexc_ga (.ref a) nv
 simp only[checkBuiltinCall,k1,k2]
 refine qA ?_
 unfold isInstance
 repeat (first | (with_reducible refine uj hx ?_;rw[hc]) | with_reducible refine L1.at ?_ | wp_step)
 exact hq
theorem m5 {Q:Option qw->qy->Prop}(X:K.In h)(Z:ExI K C)(hx:h.get? a=some o)(hc:o.cls = .ref C)(hq:Q (some (.ref C)) ⟨h,g,d,t+1,os⟩) :
  rH (rD prog w) A (getAttr? (.ref a) "__class__") Q E ⟨h,g,d,t,os⟩:=by
 have f3:=(wm).ga.bind (.ref a)
 have y2:(Value.builtin "BaseException.__getattribute__" == Value.builtin "object.__getattribute__")=false:=by decide +kernel
 have y1:(onTheHeap (qW C) && Value.builtin "BaseException.__getattribute__" == Value.builtin "object.__getattribute__")=false:=by rw[y2];rfl
 have L1:=xv (M:=rD prog w) X Z.ga
 have L2:=xv (M:=rD prog w) X Z.gt
 unfold getAttr? getAttrBy?
 repeat (any_goals (first | assumption | (with_reducible refine uj hx ?_;rw[hc]) | with_reducible refine L1.at ?_ | with_reducible refine L2.at ?_ | wp_step))
 refine wG (wm).ga.plain F.entry_bexc_ga (lx X Z hx hc (lq X Z hx hc ?_))
 repeat (any_goals (first | assumption | wp_step))
end
open PySem PySem.Spec PySem.W PyProof.Rows
theorem ib {K:qv}{a C:Addr}(Z:ExI K C):KitX K (.ref a) (.ref C) (λh=>∃o,h.get? a=some o/\o.cls = .ref C) where
 ty:=λM h _ p=>by
  obtain ⟨o,h1,h2⟩:=p
  exact h2 ▸ (Looks.ld h1).andThen .now
 it:=λ_ _ X _=>by
  have z:=Z.it
  unfold clsIn at z
  split at z
  ·rename_i c' d' cd' sl' ho
   intro A' Q' E' s' k q
   unfold isType loadHead
   exact qA (wpAny_loadPart (k _ _ (X _ _ ho)) (qR q))
  ·cases z
 ne:=λh tp dd its n sl X htp=>by
  have z:=Z.it
  refine xj.mpr λq =>?_
  have e:C=tp:=Value.ref.inj (beq_iff_eq.mp q)
  subst e
  unfold clsIn at z
  split at z
  ·rename_i c' d' cd' sl' ho
   have y:=(X _ _ ho).symm.trans htp
   cases y
  ·cases z
 ca:=λ{_ _ _ _ _ s} X p k=>by
  obtain ⟨h,g,d,t,os⟩:=s
  obtain ⟨o,h1,h2⟩:=p
  exact m5 X Z h1 h2 k
def m6:V->qw
 | .ref a =>.ref a
 | .ty n =>.type n
 | _ =>.none
def ic:V->Bool
 | .ref _=>true
 | .ty _=>true
 | _=>false
theorem jt {x:V}{u:qw}(h:ic x=true)(r:RelV x u):u=m6 x:=by
 cases x <;> first | exact r | cases h
section
variable  {X:Cx}
theorem dF {K:qv}(hK:X.K=K:=by rfl):bM X (.builtin "isinstance") (λxs H Q=>∃(ea C:Addr) (c:V) (b:Bool),xs=[.ref ea,c]/\H ea=some (dZ ea (.ref C))/\ExI K C/\ic c=true/\kitOne K (.ref C) (m6 c)=some b/\Q (.bl b) H):=by
 subst hK
 intro pins s σ H xs us Q I r h
 obtain ⟨ea,C,c,b,rfl,he,Z,hc,hk,q⟩:=h
 cases r with | cons r1 r2 =>
 cases r2 with | cons r2 r3 =>
 cases r3
 obtain rfl:=jt hc r2
 have r1:_=qW ea:=r1
 subst r1
 obtain ⟨p,_⟩:=I.hok ea _ he
 exact kia_one (ib Z) I.kIn p hk (by intro z;cases z) λtk=>⟨.bl b,H,I.tok tk,rfl,q⟩
theorem ie:∀{cs:List V} {us:List qw},(∀c∈cs,ic c=true)->Vals cs us->us=cs.map m6
 | _,_,_,.nil=>rfl
 | _,_,h,.cons r t=>by rw[rz, <- jt (h _ rk) r, <- ie (λc hc=>h c (qZ _ hc)) t]
theorem j6 {K:qv}(hK:X.K=K:=by rfl):bM X (.builtin "isinstance") (λxs H Q=>∃(ea C tp:Addr) (cs:List V) (b:Bool),xs=[.ref ea,.ref tp]/\H ea=some (dZ ea (.ref C))/\ExI K C/\H tp=some (.tup cs)/\(∀c∈cs,ic c=true)/\kitAny K (.ref C) (cs.map m6)=some b/\Q (.bl b) H):=by
 subst hK
 intro pins s σ H xs us Q I r h
 obtain ⟨ea,C,tp,cs,b,rfl,he,Z,ht,hc,hk,q⟩:=h
 cases r with | cons r1 r2 =>
 cases r2 with | cons r2 r3 =>
 cases r3
 have r2:_=qW tp:=r2
 subst r2
 have r1:_=qW ea:=r1
 subst r1
 obtain ⟨p,_⟩:=I.hok ea _ he
 obtain ⟨_,its,rt,o,ho,⟨hcl,hd⟩,n,hn⟩:=I.hok tp _ ht
 have e:=ie hc rt
 subst e
 obtain ⟨oc,od,odt,osl⟩:=o
 simp only at hcl hd hn
 subst hcl hd hn
 exact kia_tup (ib Z) I.kIn p ho hk (by intro z;cases z) λtk=>⟨.bl b,H,I.tok tk,rfl,q⟩
end
open PySem PySem.Spec PyProof.Rows
def bL (K:qv)(x:Str)(st:Stmt):Prop:=∃(f:Addr) (od an:Option Addr) (sl:Array (Option qw)) (oc kV dc pm cd ct:qw),rh K qT x=some (some (.ref f))/\K.lookup f=some ⟨oc,od,.func (PySem.W.fnOf x x (bN st) (bz st) (ao st) .none kV dc pm an cd ct),sl⟩/\PySem.W.codeIn K cd x=true/\PySem.W.keepIn K (.ref f)=true
theorem bL.mk {K:qv}{x:Str}{st:Stmt}{f:Addr}{od an:Option Addr}{sl:Array (Option qw)}{oc kV dc pm cd ct:qw}(a:rh K qT x=some (some (.ref f)))(l:K.lookup f=some ⟨oc,od,.func (PySem.W.fnOf x x (bN st) (bz st) (ao st) .none kV dc pm an cd ct),sl⟩)(c:PySem.W.codeIn K cd x=true)(k:PySem.W.keepIn K (.ref f)=true):bL K x st:=⟨_,_,_,_,_,_,_,_,_,_,a,l,c,k⟩
theorem bL.cal {K:qv}{x:Str}{st:Stmt}(hf:bL K x st)(P:qX)(w:rO)(base:Heap){h:Heap}{mg:Str->Option qw}(X:K.In h)(G:h.Ns qT mg){lv:Nat}{ps:List Str}{sp:Sp}(ok:∀{f:Addr} {fd:sA},Fun K x x st f fd->bu P w K mg base CX0 lv f fd ps sp)
  (hb:∀(kV doc pm:qw) (an:Option Addr) (cdv ct:qw) (us:List qw),us.length=ps.length->bindArgs (PySem.W.fnOf x x (bN st) (bz st) (ao st) .none kV doc pm an cdv ct) ⟨us,[]⟩=pure (ps.zip us)):Cal P w K mg base lv x ps sp:=by
 obtain ⟨f,od,an,sl,oc,kV,dc,pm,cd,ct,a,l,c,k⟩:=hf
 have F:=iF l c k
 exact ⟨_,_,ok F,rV X G a,k,F.binds hb⟩
open PySem PySem.Spec PyProof.Rows
theorem bL.qa {K:qv}{x:Str}{st:Stmt}(hf:bL K x st)(P:qX)(w:rO)(base:Heap){h:Heap}{mg:Str->Option qw}(X:K.In h)(G:h.Ns qT mg){lv:Nat}{ps:List Str}{sp:Sp}(ok:∀{f:Addr} {fd:sA},Fun K x x st f fd->bu P w K mg base (CX1 P w) lv f fd ps sp)
  (hb:∀(kV doc pm:qw) (an:Option Addr) (cdv ct:qw) (us:List qw),us.length=ps.length->bindArgs (PySem.W.fnOf x x (bN st) (bz st) (ao st) .none kV doc pm an cdv ct) ⟨us,[]⟩=pure (ps.zip us)):iV P w K mg base lv x ps sp:=by
 obtain ⟨f,od,an,sl,oc,kV,dc,pm,cd,ct,a,l,c,k⟩:=hf
 have F:=iF l c k
 exact ⟨_,_,ok F,rV X G a,k,F.binds hb⟩
end L2
set_option maxHeartbeats 800000
namespace K04
open PySem L2
def top (i:Nat):Stmt:=PySem.Challenge.pw_ringfell_k04_webs_cut_and_joined.main.body.getD i (.Pass ⟨0,0,0,0⟩)
abbrev ly:Stmt:=top 15
abbrev fk:Stmt:=top 16
abbrev ju:Stmt:=top 17
abbrev eD:Stmt:=top 18
abbrev cF:Stmt:=top 19
abbrev jv:Stmt:=top 20
abbrev ig:Stmt:=top 21
abbrev jw:Stmt:=top 23
abbrev lA:Stmt:=top 24
abbrev lB:Stmt:=top 25
abbrev lC:Stmt:=top 26
abbrev nH:Stmt:=top 27
abbrev lD:Stmt:=top 28
abbrev gK:Stmt:=top 29
abbrev lE:Stmt:=top 30
abbrev iW:Stmt:=top 31
abbrev dG:Stmt:=top 32
abbrev j7:Stmt:=top 33
structure Blt (mg:Str->Option qw):Prop where
 b_all:mg "all" = none
 b_bool:mg "bool" = none
 b_divmod:mg "divmod" = none
 b_int:mg "int" = none
 b_isinstance:mg "isinstance" = none
 b_len:mg "len" = none
 b_list:mg "list" = none
 b_max:mg "max" = none
 b_min:mg "min" = none
 b_range:mg "range" = none
 b_sorted:mg "sorted" = none
 b_str:mg "str" = none
 b_tuple:mg "tuple" = none
 b_ValueError:mg "ValueError" = none
theorem oY:rS "all" = some (.builtin "all"):=by decide +kernel
theorem pq:rS "divmod" = some (.builtin "divmod"):=by decide +kernel
theorem oZ:rS "int" = some (.type "int"):=by decide +kernel
theorem aq:rS "isinstance" = some (.builtin "isinstance"):=by decide +kernel
theorem o3:rS "len" = some (.builtin "len"):=by decide +kernel
theorem m7:rS "list" = some (.type "list"):=by decide +kernel
theorem iX:rS "max" = some (.builtin "max"):=by decide +kernel
theorem fm:rS "min" = some (.builtin "min"):=by decide +kernel
theorem lG:rS "range" = some (.type "range"):=by decide +kernel
theorem bG:rS "sorted" = some (.builtin "sorted"):=by decide +kernel
theorem bp:rS "tuple" = some (.type "tuple"):=by decide +kernel
theorem fD:rS "ValueError" = some (.type "ValueError"):=by decide +kernel
structure Cst (mg:Str->Option qw):Prop where
 c_MOST_TIES:∃t,mg "MOST_TIES" = some (.int 200 t)
theorem hu8 {A:r6}{k:Nat}(hr:bI k A):A.units+8<cLine:=wQ (u9 (by decide:8<=64) _) hr.units
abbrev qb:Stmt:=ly
abbrev lH:Stmt:=fk
abbrev qc:Stmt:=ju
abbrev qd:Stmt:=eD
abbrev qe:Stmt:=jv
abbrev nI:Stmt:=ig
abbrev lI:Stmt:=jw
abbrev nJ:Stmt:=lA
abbrev nK:Stmt:=lB
abbrev nM:Stmt:=lC
abbrev qf:Stmt:=nH
abbrev lJ:Stmt:=lD
structure Exs (K:qv)(mg:Str->Option qw)(c_WebError c_BadWeb c_NoStep c_NoText c_TooMany c_NoTie c_NoRing c_NotClear c_NotThree c_BadBoard c_NoRow c_NoBack:Addr):Prop where
 x_WebError:mg "WebError" = some (.ref c_WebError)
 x_BadWeb:mg "BadWeb" = some (.ref c_BadWeb)
 x_NoStep:mg "NoStep" = some (.ref c_NoStep)
 x_NoText:mg "NoText" = some (.ref c_NoText)
 x_TooMany:mg "TooMany" = some (.ref c_TooMany)
 x_NoTie:mg "NoTie" = some (.ref c_NoTie)
 x_NoRing:mg "NoRing" = some (.ref c_NoRing)
 x_NotClear:mg "NotClear" = some (.ref c_NotClear)
 x_NotThree:mg "NotThree" = some (.ref c_NotThree)
 x_BadBoard:mg "BadBoard" = some (.ref c_BadBoard)
 x_NoRow:mg "NoRow" = some (.ref c_NoRow)
 x_NoBack:mg "NoBack" = some (.ref c_NoBack)
 t_ex:PySem.W.excIn K c_TooMany hX "ValueError.__new__" = true
 t_i:ExI K c_TooMany
 t_m:PySem.W.exmOne K (.ref c_TooMany) (.ref c_WebError)=some true
 t_v:PySem.W.kitOne K (.ref c_TooMany) (.type "ValueError")=some true
 t_odd:PySem.W.kitAny K (.ref c_TooMany) [.ref c_BadBoard,.ref c_BadWeb,.ref c_NoBack,.ref c_NoRing,.ref c_NoRow,.ref c_NoStep,.ref c_NoText,.ref c_NotClear,.ref c_NotThree]=some false
 t_t:PySem.W.kitOne K (.ref c_TooMany) (.ref c_TooMany)=some true
 t_n:PySem.W.kitOne K (.ref c_TooMany) (.ref c_NoTie)=some false
 n_ex:PySem.W.excIn K c_NoTie hX "ValueError.__new__" = true
 n_i:ExI K c_NoTie
 n_m:PySem.W.exmOne K (.ref c_NoTie) (.ref c_WebError)=some true
 n_v:PySem.W.kitOne K (.ref c_NoTie) (.type "ValueError")=some true
 n_odd:PySem.W.kitAny K (.ref c_NoTie) [.ref c_BadBoard,.ref c_BadWeb,.ref c_NoBack,.ref c_NoRing,.ref c_NoRow,.ref c_NoStep,.ref c_NoText,.ref c_NotClear,.ref c_NotThree]=some false
 n_t:PySem.W.kitOne K (.ref c_NoTie) (.ref c_TooMany)=some false
 n_n:PySem.W.kitOne K (.ref c_NoTie) (.ref c_NoTie)=some true
def Eqv (H:Hp):Nat->V->V->Prop
 | 0,x,y=>∃i,x = .int i/\y = .int i
 | n+1,x,y=>(∃i,x = .int i/\y = .int i)\/∃a b xs ys,x = .ref a/\y = .ref b/\((H a=some (.tup xs)/\H b=some (.tup ys))\/(H a=some (.lst xs)/\H b=some (.lst ys)))/\ys.length<=1000/\Paired (Eqv H n) xs ys
theorem Eqv.same {H H':Hp}(s:aF H H'):∀{n:Nat} {x y:V},Eqv H n x y->Eqv H' n x y
 | 0,_,_,h=>h
 | n+1,_,_,h=>by
  rcases h with h | ⟨a,b,xs,ys,e1,e2,h,hz,p⟩
  ·exact .inl h
  ·refine .inr ⟨a,b,xs,ys,e1,e2,?_,hz,Paired.nT p λx y q=>Eqv.same s q⟩
   rcases h with ⟨h1,h2⟩ | ⟨h1,h2⟩
   ·exact .inl ⟨s _ _ h1,s _ _ h2⟩
   ·exact .inr ⟨s _ _ h1,s _ _ h2⟩
@[irreducible] def di (n:Nat):Sp:=λvs H Q _=>∃x y,vs=[x,y]/\Eqv H n x y/\∀H',aF H H'->Q (.bl true) H'
theorem aR {n:Nat}{vs:List V}{H:Hp}{Q:VK}{E:XK}:di n vs H Q E↔∃x y,vs=[x,y]/\Eqv H n x y/\∀H',aF H H'->Q (.bl true) H':=by
 delta di
 exact uo
section
variable  {P:qX}{w:rO}{K:qv}{mg:Str->Option qw}{base:Heap}{f:Addr}{fd:sA}
theorem lK:aT ["found", "due"] ["found", "due"] (ao lJ):=⟨rfl,rfl,rfl,by decide +kernel,rfl,by decide +kernel,by decide +kernel⟩
theorem ndS:(["k", "found", "due"]:List Str).Nodup:=by decide +kernel
theorem qg {c A B:Prop}[Decidable c](hc:c)(h:A):if decide c=true then A else B:=by rw[decide_eq_true hc];exact bC h
theorem jx (n:Nat):(rB n true).all id=true:=by simp
theorem m8 (F:Fun K "_law_same" "_law_same" lJ f fd)(B:Blt mg):bu P w K mg base CX0 1 f fd ["found", "due"] (di 0):=by
 refine F.ok lK (λvs H Q E h =>?_) (λcdv A outer s H vs Q E hr h =>?_)
 ·obtain ⟨a,b,rfl,_⟩:=aR.mp h
  rfl
 obtain ⟨x,y,rfl,⟨i,rfl,rfl⟩,q⟩:=aR.mp h
 refine ⟨_,ai (bo (ko (kn (pv 1))) bP aM)
  (ai (bo (bA (aj aS rfl B.b_isinstance aq (aa (pv 1) (aa (bt (v :=.ty "str") rfl B.b_str xn rfl) ae)))) bP aM)
  (ai (bo (bA (aj aS rfl B.b_isinstance aq (aa (pv 1) (aa (bt (v :=.ty "int") rfl B.b_int uI rfl) ae))))
   (ak (aH (dO (aj aS rfl B.b_isinstance aq (aa (pv 0) (aa (bt (v :=.ty "int") rfl B.b_int uI rfl) ae)))
    (dO (kq (aj aS rfl B.b_isinstance aq (aa (pv 0) (aa (bt (v :=.ty "bool") rfl B.b_bool wX rfl) ae)))) (gn (dv eR (pv 0) (pv 1) (aY _))))))) aM)
  bP)),?_⟩
 refine ⟨_,rfl,_,rfl,bj ?_⟩
 refine ⟨_,rfl,.int i, "str",_,false,rfl,.int i,rfl,_,rfl,bj ?_⟩
 refine ⟨_,rfl,.int i, "int",_,true,rfl,.int i,rfl,_,rfl,bC ?_⟩
 refine ⟨_,rfl,.int i, "int",_,true,rfl,.int i,rfl,_,rfl,bC ?_⟩
 refine ⟨_,rfl,.int i, "bool",_,false,rfl,.int i,rfl,_,rfl,_,rfl,bC ?_⟩
 refine ⟨_,rfl,_,rfl,rfl,?_⟩
 have q':=q H (aF.refl _)
 have e:decide (V.int i=V.int i)=true:=decide_eq_true rfl
 rw[e]
 exact q'
theorem gL {n:Nat}(F:Fun K "_law_same" "_law_same" lJ f fd)(B:Blt mg)(C:Cal P w K mg base (n+1) "_law_same" ["found", "due"] (di n)):bu P w K mg base CX0 (n+2) f fd ["found", "due"] (di (n+1)):=by
 refine F.ok lK (λvs H Q E h =>?_) (λcdv A outer s H vs Q E hr h =>?_)
 ·obtain ⟨a,b,rfl,_⟩:=aR.mp h
  rfl
 obtain ⟨x,y,rfl,he,q⟩:=aR.mp h
 refine ⟨_,ai (bo (ko (kn (pv 1))) bP aM)
  (ai (bo (bA (aj aS rfl B.b_isinstance aq (aa (pv 1) (aa (bt (v :=.ty "str") rfl B.b_str xn rfl) ae)))) bP aM)
  (ai (bo (bA (aj aS rfl B.b_isinstance aq (aa (pv 1) (aa (bt (v :=.ty "int") rfl B.b_int uI rfl) ae))))
   (ak (aH (dO (aj aS rfl B.b_isinstance aq (aa (pv 0) (aa (bt (v :=.ty "int") rfl B.b_int uI rfl) ae)))
    (dO (kq (aj aS rfl B.b_isinstance aq (aa (pv 0) (aa (bt (v :=.ty "bool") rfl B.b_bool wX rfl) ae)))) (gn (dv eR (pv 0) (pv 1) (aY _))))))) aM)
  (ai (bo (PW.pt (iZ (aU gX (aj aS rfl B.b_isinstance aq (aa (pv 1) (aa (bt (v :=.ty "tuple") rfl B.b_tuple sS rfl) ae))) (aj aS rfl B.b_isinstance aq (aa (pv 0) (aa (bt (v :=.ty "tuple") rfl B.b_tuple sS rfl) ae))) (aY _))
    (gm (aU gX (aj aS rfl B.b_isinstance aq (aa (pv 1) (aa (bt (v :=.ty "list") rfl B.b_list vm rfl) ae))) (aj aS rfl B.b_isinstance aq (aa (pv 0) (aa (bt (v :=.ty "list") rfl B.b_list vm rfl) ae))) (aY _))))) bP aM)
  (ak (aH (dO (dv eR (aj bD rfl B.b_len vy (aa (pv 0) ae)) (aj bD rfl B.b_len vy (aa (pv 1) ae)) (aY _))
   (gn (aj (kK rfl) rfl B.b_all oY (aa (cn ["k", "found", "due"] [none,some 0,some 1] rfl (bY rfl B.b_range (aa (aj bD rfl B.b_len vy (aa (pv 1) ae)) ae)) rfl
    (λ_ _ _ _ _=>aW (i:=0) ndS rfl (Or.inl rfl)) (λ_ _ _ _ _=>dX) (λ_ _ _ _ _=>av C hr (qz _) rfl (aa (aB (eI (K:=K)) (pv 1) (pv 0) (λ_ _=>rfl)) (aa (aB (eI (K:=K)) (pv 2) (pv 0) (λ_ _=>rfl)) ae)))) ae))))))))),?_⟩
 rcases he with ⟨i,rfl,rfl⟩ | ⟨a,b,xs,ys,rfl,rfl,hs,hz,p⟩
 ·refine ⟨_,rfl,_,rfl,bj ?_⟩
  refine ⟨_,rfl,.int i, "str",_,false,rfl,.int i,rfl,_,rfl,bj ?_⟩
  refine ⟨_,rfl,.int i, "int",_,true,rfl,.int i,rfl,_,rfl,bC ?_⟩
  refine ⟨_,rfl,.int i, "int",_,true,rfl,.int i,rfl,_,rfl,bC ?_⟩
  refine ⟨_,rfl,.int i, "bool",_,false,rfl,.int i,rfl,_,rfl,_,rfl,bC ?_⟩
  refine ⟨_,rfl,_,rfl,rfl,?_⟩
  have q':=q H (aF.refl _)
  have e:decide (V.int i=V.int i)=true:=decide_eq_true rfl
  rw[e]
  exact q'
 have pl:=u3 p
 rcases hs with ⟨h1,h2⟩ | ⟨h1,h2⟩
 ·refine ⟨_,rfl,_,rfl,bj ?_⟩
  refine ⟨_,rfl,.ref b, "str",_,false,rfl,.tup h2,rfl,_,rfl,bj ?_⟩
  refine ⟨_,rfl,.ref b, "int",_,false,rfl,.tup h2,rfl,_,rfl,bj ?_⟩
  refine ⟨_,rfl,.ref b, "tuple",_,true,rfl,.tup h2,rfl,_,rfl,.ref a, "tuple",_,true,rfl,.tup h1,rfl,rfl,_,rfl,fL rfl ?_⟩
  refine ⟨_,rfl,.ref b, "list",_,false,rfl,.tup h2,rfl,_,rfl,.ref a, "list",_,false,rfl,.tup h1,rfl,rfl,_,rfl,fL rfl ?_⟩
  refine ⟨_,rfl,a,xs,rfl,.inr (SqT.of h1),_,rfl,b,ys,rfl,.inr (SqT.of h2),rfl,_,rfl,qg (by rw[pl]) ?_⟩
  refine ⟨_,rfl,b,ys,rfl,.inr (SqT.of h2),_,rfl,by lia,by lia,cD (lo:=0) (n:=ys.length) (λi zs H'=>zs=(rB i true).map V.bl/\aF H H') ⟨rfl,aF.refl _⟩ (small hz) ?_ ?_⟩
  ·rintro i zs H' hi hl ⟨rfl,sm⟩ R1 R0 r1 r0
   have e1:xs[i]? = some xs[i]:=qS (by lia)
   have e2:ys[i]? = some ys[i]:=qS hi
   refine bC ⟨_,rfl,_,rfl,Or.inr <| Or.inl <| ⟨a,xs,0+(i:Int),xs[i],rfl,rfl,SqT.of (sm _ _ h1),(by rw[wo];exact cM e1),_,rfl,_,rfl,Or.inr <| Or.inl <| ⟨b,ys,0+(i:Int),ys[i],rfl,rfl,SqT.of (sm _ _ h2),(by rw[wo];exact cM e2),?_⟩⟩⟩
   refine aR.mpr ⟨_,_,rfl,(cO p e1 e2).same sm,λH2 s2=>r1 _ _ ⟨?_,sm.trans s2⟩⟩
   rw[wD,qQ]
   rfl
  ·rintro zs H' _ ⟨rfl,sm⟩ l hl
   refine ⟨l,rB ys.length true,rfl,SqL.of ag,?_⟩
   rw[jx]
   exact q _ (sm.trans (af hl _))
 ·refine ⟨_,rfl,_,rfl,bj ?_⟩
  refine ⟨_,rfl,.ref b, "str",_,false,rfl,.lst h2,rfl,_,rfl,bj ?_⟩
  refine ⟨_,rfl,.ref b, "int",_,false,rfl,.lst h2,rfl,_,rfl,bj ?_⟩
  refine ⟨_,rfl,.ref b, "tuple",_,false,rfl,.lst h2,rfl,_,rfl,.ref a, "tuple",_,false,rfl,.lst h1,rfl,rfl,_,rfl,fL rfl ?_⟩
  refine ⟨_,rfl,.ref b, "list",_,true,rfl,.lst h2,rfl,_,rfl,.ref a, "list",_,true,rfl,.lst h1,rfl,rfl,_,rfl,fL rfl ?_⟩
  refine ⟨_,rfl,a,xs,rfl,.inl (SqL.of h1),_,rfl,b,ys,rfl,.inl (SqL.of h2),rfl,_,rfl,qg (by rw[pl]) ?_⟩
  refine ⟨_,rfl,b,ys,rfl,.inl (SqL.of h2),_,rfl,by lia,by lia,cD (lo:=0) (n:=ys.length) (λi zs H'=>zs=(rB i true).map V.bl/\aF H H') ⟨rfl,aF.refl _⟩ (small hz) ?_ ?_⟩
  ·rintro i zs H' hi hl ⟨rfl,sm⟩ R1 R0 r1 r0
   have e1:xs[i]? = some xs[i]:=qS (by lia)
   have e2:ys[i]? = some ys[i]:=qS hi
   refine bC ⟨_,rfl,_,rfl,Or.inl <| ⟨a,xs,0+(i:Int),xs[i],rfl,rfl,SqL.of (sm _ _ h1),(by rw[wo];exact cM e1),_,rfl,_,rfl,Or.inl <| ⟨b,ys,0+(i:Int),ys[i],rfl,rfl,SqL.of (sm _ _ h2),(by rw[wo];exact cM e2),?_⟩⟩⟩
   refine aR.mpr ⟨_,_,rfl,(cO p e1 e2).same sm,λH2 s2=>r1 _ _ ⟨?_,sm.trans s2⟩⟩
   rw[wD,qQ]
   rfl
  ·rintro zs H' _ ⟨rfl,sm⟩ l hl
   refine ⟨l,rB ys.length true,rfl,SqL.of ag,?_⟩
   rw[jx]
   exact q _ (sm.trans (af hl _))
end
def dH:Sp:=λvs H Q _=>∃a b:Int,vs=[.int a,.int b]/\∀t,H t=none->Q (.ref t) (upd H t (.tup ((nrm a b).map V.int)))
section
variable  {P:qX}{w:rO}{K:qv}{mg:Str->Option qw}{base:Heap}{f:Addr}{fd:sA}
theorem qh:aT ["one", "other"] ["one", "other"] (ao qb):=⟨rfl,rfl,rfl,by decide +kernel,rfl,by decide +kernel,by decide +kernel⟩
theorem qi (F:Fun K "tie_of" "tie_of" qb f fd)(mx:mg "max" = none)(mn:mg "min" = none):bu P w K mg base CX0 1 f fd ["one", "other"] dH:=by
 refine F.ok qh (λvs H Q E h =>?_) (λcdv A outer s H vs Q E hr h =>?_)
 ·obtain ⟨a,b,rfl,_⟩:=h
  rfl
 obtain ⟨a,b,rfl,q⟩:=h
 refine ⟨_,ak (aH (aO (aa (aj (b7 rfl) rfl mn fm (aa (pv 0) (aa (pv 1) ae))) (aa (aj (dS rfl) rfl mx iX (aa (pv 0) (aa (pv 1) ae))) ae)))),?_⟩
 exact ⟨_,rfl,_,rfl,_,_,rfl,_,rfl,_,rfl,_,_,rfl,(by show 2<=qD;decide),λt ht=>q t ht⟩
end
def jy:Sp:=λvs H Q _=>∃c k:Int,vs=[.int c,.int k]/\0<=k/\k<=100/\∀v:Int,0<=v->Q (.int v) H
def lL:Sp:=λvs H Q _=>∃c:Int,vs=[.int c]/\∀(n:Int) (r:Addr),0<=n->H r=none->Q (.ref r) (upd H r (.lst [.int n]))
abbrev jz:Sp:=λvs H Q _=>∃(r:Addr) (m:Int),vs=[.ref r,.int m]/\Lf r H/\0<m/\m<2 ^ 200/\∀(d:Int) (H':Hp),0<=d->d<m->SB r H H'->Lf r H'->Q (.int d) H'
@[irreducible] def cw:Sp:=jz
theorem dj {vs:List V}{H:Hp}{Q:VK}{E:XK}:cw vs H Q E↔jz vs H Q E:=by
 delta cw
 exact uo
theorem de {H:Hp}{Q:VK}{E:XK}{r:Addr}{m:Int}(l:Lf r H)(h0:0<m)(h1:m<2 ^ 200)(h:∀(d:Int) (H':Hp),0<=d->d<m->SB r H H'->Lf r H'->Q (.int d) H'):cw [.ref r,.int m] H Q E:=dj.mpr ⟨r,m,rfl,l,h0,h1,h⟩
structure cx (H:Hp)(l:Addr)(many:Int)(ts:List (Addr×Int×Int)):Prop where
 at':H l=some (.lst (ts.map λt =>.ref t.1))
 tup:∀t∈ts,H t.1=some (.tup [.int t.2.1,.int t.2.2])
 bnd:∀t∈ts,0<=t.2.1/\t.2.1<many/\0<=t.2.2/\t.2.2<many
theorem cx.same {H H':Hp}{l:Addr}{many:Int}{ts:List (Addr×Int×Int)}(h:cx H l many ts)(s:aF H H'):cx H' l many ts:=⟨s _ _ h.at',λt m=>s _ _ (h.tup t m),h.bnd⟩
theorem cx.sb {H H':Hp}{l r:Addr}{many:Int}{ts:List (Addr×Int×Int)}(h:cx H l many ts)(s:SB r H H')(lf:Lf r H)(n:l≠r):cx H' l many ts:=⟨s _ _ n h.at',λt m=>s _ _ (lf.neT (h.tup t m)) (h.tup t m),h.bnd⟩
abbrev jA:Sp:=λvs H Q _=>∃(r:Addr) (many most:Int),vs=[.ref r,.int many,.int most]/\Lf r H/\0<=many/\many<=1000/\0<=most/\most<=900 ∧
 ∀(l:Addr) (H':Hp) (ts:List (Addr×Int×Int)),H l=none->SB r H H'->Lf r H'->cx H' l many ts->(ts.length:Int)<=most->Q (.ref l) H'
@[irreducible] def gM:Sp:=jA
theorem dk {vs:List V}{H:Hp}{Q:VK}{E:XK}:gM vs H Q E↔jA vs H Q E:=by
 delta gM
 exact uo
section
variable  {P:qX}{w:rO}{K:qv}{mg:Str->Option qw}{base:Heap}{f:Addr}{fd:sA}
theorem gN:aT ["cell", "k", "part"] ["cell", "k"] (ao lI):=⟨rfl,rfl,rfl,by decide +kernel,rfl,by decide +kernel,by decide +kernel⟩
theorem m9 (F:Fun K "_law_mixed" "_law_mixed" lI f fd):bu P w K mg base CX0 1 f fd ["cell", "k"] jy:=by
 refine F.ok gN (λvs H Q E h =>?_) (λcdv A outer s H vs Q E hr h =>?_)
 ·obtain ⟨c,k,rfl,_⟩:=h
  rfl
 obtain ⟨c,k,rfl,h0,h1,q⟩:=h
 refine ⟨_,ai (aI (i:=2) gN.nd rfl (Or.inl rfl) (aN eQ (aN eP (aN bB (aN bB (aN eQ (pv 0) ah) (aN eP ah (pv 1))) ah) ah) ah))
  (ai (aI (i:=2) gN.nd rfl (Or.inl rfl) (aN eQ (aN eP (pv 2) (pv 2)) ah))
  (ak (aH (aN lZ (aN eQ (aN eP (aN bB (pv 2) (pv 1)) ah) ah) ah)))),?_⟩
 refine ⟨_,rfl,_,_,rfl,rfl,(by show (0:Int)<_;decide),_,rfl,_,_,rfl,rfl,.inl ⟨by decide,by decide⟩,_,_,rfl,rfl,_,_,rfl,rfl,_,_,rfl,rfl,.inr ⟨by decide,by decide⟩,_,_,rfl,rfl,(by show (0:Int)<_;decide),?_⟩
 generalize ((c%1000000000000000009+7919*k+12345)*48271)=z1
 have b1:=va z1 (b:=2305843009213693951) (by decide)
 have b2:=wY z1 (b:=2305843009213693951) (by decide)
 refine ⟨_,rfl,_,rfl,_,_,rfl,rfl,.inl ⟨by lia,by lia⟩,_,_,rfl,rfl,(by show (0:Int)<_;decide),?_⟩
 refine ⟨_,rfl,_,rfl,_,_,rfl,rfl,_,_,rfl,rfl,.inr ⟨by decide,by decide⟩,_,_,rfl,rfl,(by show (0:Int)<_;decide),_,_,rfl,rfl,⟨by decide,by decide⟩,?_⟩
 refine q _ ?_
 refine Int.ediv_nonneg (va _ (by decide)) (by decide)
theorem gO:aT ["cell", "great", "k"] ["cell"] (ao nJ):=⟨rfl,rfl,rfl,by decide +kernel,rfl,by decide +kernel,by decide +kernel⟩
theorem o4 (F:Fun K "_law_deal" "_law_deal" nJ f fd)(C:Cal P w K mg base 1 "_law_mixed" ["cell", "k"] jy)(mr:mg "range" = none):bu P w K mg base CX0 2 f fd ["cell"] lL:=by
 refine F.ok gO (λvs H Q E h =>?_) (λcdv A outer s H vs Q E hr h =>?_)
 ·obtain ⟨c,rfl,_⟩:=h
  rfl
 obtain ⟨c,rfl,q⟩:=h
 refine ⟨_,ai (bo (aU nA (pv 0) (aN kB ah ah) (aY _)) (ak (aH (bV (aa (aN kA (pv 0) (aN kB ah ah)) ae)))) aM)
  (ai (aI (i:=1) gO.nd rfl (Or.inl rfl) ah)
  (ai (eO uC rfl (bY rfl mr (aa ah ae)) (aW (i:=2) gO.nd rfl (Or.inl rfl))
   (ak (aI (i:=1) gO.nd rfl (Or.inl rfl) (aN bB (aN eP (pv 1) ah) (aN eQ (av C hr (qz _) rfl (aa (pv 0) (aa (pv 2) ae))) ah)))))
  (ak (aH (bV (aa (pv 1) ae)))))),?_⟩
 refine ⟨_,rfl,_,_,rfl,rfl,⟨by decide,by decide,by decide⟩,_,_,rfl,rfl,_,rfl,?_⟩
 refine oB (λc1 =>?_) (λc1 =>?_)
 ·have c':(10:Int) ^ (18:Int).toNat<=c:=of_decide_eq_true c1
  refine ⟨_,rfl,_,_,rfl,rfl,⟨by decide,by decide,by decide⟩,_,_,rfl,rfl,(by show 1<=qD;decide),λp hp =>?_⟩
  exact q _ p (by lia) hp
 ·refine ⟨_,rfl,by decide,by decide,dQ (λk σ H'=>(∃(g:Int) (lv:Option V),0<=g/\σ=[some (.int c),some (.int g),lv])/\H'=H) ⟨⟨0,none,by decide,rfl⟩,rfl⟩ ?_ ?_⟩
  ·rintro k σ H' hk ⟨⟨g,lv,hg,rfl⟩,rfl⟩
   have hk':k<24:=hk
   refine ⟨_,rfl,_,_,rfl,rfl,.inr ⟨by decide,by decide⟩,_,rfl,_,rfl,c,0+(k:Int),rfl,by lia,by lia,λv hv =>?_⟩
   refine ⟨_,_,rfl,rfl,(by show (0:Int)<_;decide),_,_,rfl,rfl,⟨_,some (.int (0+k)),?_,rfl⟩,rfl⟩
   have a1:0<=g*1152921504606846976:=Int.mul_nonneg hg (by decide)
   have a2:=va v (b:=1152921504606846976) (by decide)
   lia
  ·rintro σ H' ⟨⟨g,lv,hg,rfl⟩,rfl⟩
   exact ⟨_,rfl,(by show 1<=qD;decide),λp hp=>q g p hg hp⟩
theorem lM:aT ["left", "many", "digit"] ["left", "many"] (ao nK):=⟨rfl,rfl,rfl,by decide +kernel,rfl,by decide +kernel,by decide +kernel⟩
theorem o5 (F:Fun K "_law_next" "_law_next" nK f fd)(md:mg "divmod" = none):bu P w K mg base CX0 1 f fd ["left", "many"] cw:=by
 refine F.ok lM (λvs H Q E h =>?_) (λcdv A outer s H vs Q E hr h =>?_)
 ·obtain ⟨l,m,rfl,_⟩:=dj.mp h
  rfl
 obtain ⟨l,m,rfl,⟨n,hl⟩,h0,h1,q⟩:=dj.mp h
 refine ⟨_,ai (n3 (aj gD rfl md (by decide +kernel) (aa (aB dz (pv 0) ah (λ_ _=>rfl)) (aa (pv 1) ae))) (iz rfl (bX (nY (pv 0) ah set_list) (bX (aW (i:=2) lM.nd rfl (Or.inl rfl)) gq))))
  (ak (aH (pv 2))),?_⟩
 refine ⟨_,rfl,l,_,0,_,rfl,rfl,SqL.of hl,rfl,_,rfl,n,m,rfl,⟨h0,h1⟩,λp hp =>?_⟩
 have ne:l≠p:=ax hl hp
 refine ⟨p,_,rfl,SqT.of ag,rfl,_,_,rfl,_,rfl,l,[.int n],0,0,rfl,rfl,(by rw[az ne];exact hl),rfl,_,_,rfl,rfl,_,rfl,?_⟩
 exact q _ _ (va _ (by lia)) (wY _ h0) ((SB.new hp _).trans (SB.put _)) ⟨_,ag⟩
theorem gP:aT ["left", "many", "most", "ties", "reach", "k"] ["left", "many", "most"] (ao nM):=⟨rfl,rfl,rfl,by decide +kernel,rfl,by decide +kernel,by decide +kernel⟩
theorem o6 (F:Fun K "_law_ties" "_law_ties" nM f fd)(mr:mg "range" = none)(mn:mg "min" = none)(C:Cal P w K mg base 1 "_law_next" ["left", "many"] cw):bu P w K mg base CX0 2 f fd ["left", "many", "most"] gM:=by
 refine F.ok gP (λvs H Q E h =>?_) (λcdv A outer s H vs Q E hr h =>?_)
 ·obtain ⟨a,b,c,rfl,_⟩:=dk.mp h
  rfl
 obtain ⟨r,many,most,rfl,lf,h0,h1,m0,m1,q⟩:=dk.mp h
 refine ⟨_,ai (aI (i:=3) gP.nd rfl (Or.inl rfl) (bV ae))
  (ai (bo (aU nz (pv 1) ah (aY _))
   (ai (aI (i:=4) gP.nd rfl (Or.inl rfl) (aB dz (bV (aa (pv 1) (aa (aj (b7 rfl) rfl mn fm (aa (pv 1) (aa ah ae))) (aa (aj (b7 rfl) rfl mn fm (aa (pv 1) (aa ah ae))) ae))))
     (av C hr (qz _) rfl (aa (pv 0) (aa ah ae))) (λ_ _=>rfl)))
    (ak (eO uC rfl (bY rfl mr (aa (av C hr (qz _) rfl (aa (pv 0) (aa (aN bB (pv 2) ah) ae))) ae)) (aW (i:=5) gP.nd rfl (Or.inl rfl))
     (ak (gp (kG uD PySem.F.slot_list_append PySem.F.type_list_append jP (pv 3) (aa (aO (aa (av C hr (qz _) rfl (aa (pv 0) (aa (pv 4) ae)))
      (aa (aN bB (aN kA (pv 1) (pv 4)) (av C hr (qz _) rfl (aa (pv 0) (aa (pv 4) ae)))) ae))) ae))))))) aM)
  (ak (aH (pv 3)))),?_⟩
 refine ⟨(by show 0<=qD;decide),λl hl =>?_⟩
 have nl:l≠r:=lf.ne hl
 have t0:cx (upd H l (.lst [])) l many []:=⟨ag,λt z=>(by cases z),λt z=>(by cases z)⟩
 have s0:SB r H (upd H l (.lst [])):=SB.new hl _
 have lf0:Lf r (upd H l (.lst [])):=lf.same (af hl _)
 generalize upd H l (.lst [])=H0 at t0 s0 lf0
 refine ⟨_,rfl,_,_,rfl,rfl,_,rfl,oB (λc =>?_) (λc =>?_)⟩
 case refine_2=>exact ⟨_,rfl,q l H0 [] hl s0 lf0 t0 m0⟩
 have hp:0<many:=of_decide_eq_true c
 refine ⟨_,rfl,_,rfl,_,_,rfl,_,rfl,_,_,rfl,(by show 3<=qD;decide),λp hp1 =>?_⟩
 have np:p≠r:=lf0.ne hp1
 refine ⟨_,rfl,de (lf0.same (af hp1 _)) (by decide) (by decide) λd H2 d0 d1 sb2 lf2 =>?_⟩
 have hp2:=sb2 _ _ np (ag (H:=H0))
 have t2:=(t0.same (af hp1 _)).sb sb2 (lf0.same (af hp1 _)) nl
 have s2:SB r H H2:=s0.trans ((SB.new hp1 _).trans sb2)
 have rc:∃reach:Int,0<reach/\reach<=many/\atI [V.int many,.int (if 4<many then 4 else many),.int (if 7<many then 7 else many)] d=some (.int reach):=by
  have hd:d=0\/d=1\/d=2:=by lia
  rcases hd with e | e | e <;> subst e
  ·exact ⟨_,hp,by lia,rfl⟩
  ·exact ⟨_,(by split <;> lia),(by split <;> lia),rfl⟩
  ·exact ⟨_,(by split <;> lia),(by split <;> lia),rfl⟩
 obtain ⟨reach,rp,rm,er⟩:=rc
 refine ⟨p,_,d,_,rfl,rfl,SqL.of hp2,er,?_⟩
 refine ⟨_,rfl,_,rfl,_,_,rfl,rfl,de lf2 (by lia) (by lia) λn H3 n0 n1 sb3 lf3 =>?_⟩
 have t3:=t2.sb sb3 lf2 nl
 let W0:Nat->St->Hp->Prop:=λk σ H'=>(∃lv,σ=[some (.ref r),some (.int many),some (.int most),some (.ref l),some (.int reach),lv])/\SB r H H'/\Lf r H'/\∃ts,cx H' l many ts/\ts.length=k
 refine ⟨n,rfl,by lia,by lia,dQ W0 ⟨⟨none,rfl⟩,s2.trans sb3,lf3,[],t3,rfl⟩ ?_ ?_⟩
 ·rintro k σ H' hk ⟨⟨lv,rfl⟩,s',lf',ts,t',lk⟩
  refine ⟨_,rfl,.inl ⟨rfl,_,SqL.of t'.at'⟩,_,rfl,_,rfl,de lf' rp (by lia) λa H4 a0 a1 sb4 lf4=>⟨_,rfl,_,rfl,_,_,rfl,rfl,_,rfl,_,rfl,de lf4 rp (by lia) λb H5 b0 b1 sb5 lf5=>⟨_,_,rfl,rfl,(by show 2<=qD;decide),λt ht =>?_⟩⟩⟩
  have t5:=((t'.sb sb4 lf' nl).sb sb5 lf4 nl)
  have t6:=t5.same (af ht (.tup [.int a,.int (many-reach+b)]))
  have nt:t≠l:=uv (ax t5.at' ht)
  refine ⟨l,_,_,rfl,rfl,t6.at',(by rw[qu];exact dW (by lia)),⟨_,rfl⟩,?_,?_,ts++[(t,a,many-reach+b)],⟨?_,?_,?_⟩,by rw[qC,lk];rfl⟩
  ·exact λb u nb e=>by rw[az (ax e hl)];exact (s'.trans (sb4.trans (sb5.trans (SB.new ht _)))) b u nb e
  ·obtain ⟨n5,e5⟩:=lf5
   exact ⟨n5,by rw[az (uv nl),az (uv (Lf.ne ⟨n5,e5⟩ ht))];exact e5⟩
  ·rw[ag,qQ]
   rfl
  ·intro x hx
   have nx:∀{x:Addr} {xs:List V},upd H5 t (.tup [.int a,.int (many-reach+b)]) x=some (.tup xs)->upd (upd H5 t (.tup [.int a,.int (many-reach+b)])) l (.lst (ts.map (λt=>V.ref t.1)++[.ref t])) x=some (.tup xs):=λ{x xs} e=>by
    rw[az (nq e t6.at' (by intro z;cases z))];exact e
   rcases qH.mp hx with z | z
   ·exact nx (t6.tup x z)
   ·have e:x=(t,a,many-reach+b):=by simpa using z
    rw[e]
    exact nx ag
  ·intro x hx
   rcases qH.mp hx with z | z
   ·exact t6.bnd x z
   ·have e:x=(t,a,many-reach+b):=by simpa using z
    rw[e]
    refine ⟨a0,?_,?_,?_⟩ <;> simp only <;> lia
 ·rintro σ H' ⟨⟨lv,rfl⟩,s',lf',ts,t',lk⟩
  exact ⟨_,rfl,q l H' ts hl s' lf' t' (by lia)⟩
end
open PySem L2
structure Wb (H:Hp)(r:Addr)(m:Int)(ts:List (Addr×List Int)):Prop where
 at':∃t,H r=some (.tup [.int m,.ref t])/\H t=some (.tup (ts.map λu =>.ref u.1))
 tup:∀u∈ts,H u.1=some (.tup (u.2.map V.int))
 pr:∀u∈ts,∃a b:Int,u.2=[a,b]/\0<=a/\a<=b/\b<m
 len:ts.length<=200
theorem Wb.tp {H H':Hp}{r:Addr}{m:Int}{ts:List (Addr×List Int)}(h:Wb H r m ts)(t:Tp H H'):Wb H' r m ts :=
 let ⟨p,e1,e2⟩:=h.at'
 ⟨⟨p,t _ _ e1,t _ _ e2⟩,λu hu=>t _ _ (h.tup u hu),h.pr,h.len⟩
theorem Wb.same {H H':Hp}{r:Addr}{m:Int}{ts:List (Addr×List Int)}(h:Wb H r m ts)(s:aF H H'):Wb H' r m ts:=h.tp s.tp
theorem item {ts:List (Addr×List Int)}{i:Nat}{x:V}(e:(ts.map λt:Addr×List Int=>V.ref t.1)[i]? = some x):∃u,ts[i]? = some u/\x = .ref u.1:=by
 rw[rK] at e
 cases z:ts[i]? with
 | none=>rw[z] at e;cases e
 | some tt=>rw[z] at e;exact ⟨tt,rfl,(rE e).symm⟩
abbrev ij:Sp:=λvs H Q _=>∃(r:Addr) (m a b:Int) (ts:List (Addr×List Int)),vs=[.ref r,.int a,.int b]/\Wb H r m ts/\∀H',aF H H'->Q (.int ((ts.map (·.2)).count (nrm a b):Nat)) H'
@[irreducible] def eJ:Sp:=ij
theorem cG {vs:List V}{H:Hp}{Q:VK}{E:XK}:eJ vs H Q E↔ij vs H Q E:=by
 delta eJ
 exact uo
theorem cW (ps:List Int):(ps.map V.int).all dA=true:=by
 rw[List.all_map,uq]
 intro x _
 rfl
theorem cH (k:Int):∀ps:List Int,inV (.int k) (ps.map V.int)=decide (k∈ps)
 | []=>by simp[inV]
 | p :: ps=>by
  have ih:=cH k ps
  unfold inV at ih ⊢
  rw[rz,vJ,ih]
  have e:eqV (.int p) (.int k)=(p == k):=rfl
  rw[e]
  by_cases h:p=k
  ·subst h;simp
  ·rw[beq_eq_false_iff_ne.mpr h,x8]
   apply decide_eq_decide.mpr
   rw[rU]
   exact ⟨.inr,λx=>x.elim (λy=>absurd y.symm h) id⟩
section
variable  {P:qX}{w:rO}{K:qv}{mg:Str->Option qw}{base:Heap}{f:Addr}{fd:sA}
theorem qj:(["tie", "places"]:List Str).Nodup:=by decide +kernel
theorem ng:aT ["web", "one", "other"] ["web", "one", "other"] (ao lH):=⟨rfl,rfl,rfl,by decide +kernel,rfl,by decide +kernel,by decide +kernel⟩
theorem ni (F:Fun K "tied_times" "tied_times" lH f fd)(cT:Cal P w K mg base 1 "tie_of" ["one", "other"] dH):bu P w K mg base CX0 2 f fd ["web", "one", "other"] eJ:=by
 refine F.ok ng (λvs H Q E h =>?_) (λcdv A outer s H vs Q E hr h =>?_)
 ·obtain ⟨a,b,c,d,e,rfl,_⟩:=cG.mp h
  rfl
 obtain ⟨r,m,a,b,ts,rfl,W,q⟩:=cG.mp h
 obtain ⟨t,e1,e2⟩:=W.at'
 refine ⟨_,ak (aH (lb vB PySem.F.type_tuple_count (iP (hu8 hr)) (aB aD (pv 0) ah (λ_ _=>rfl)) (aa (av cT hr (by decide) rfl (aa (pv 1) (aa (pv 2) ae))) ae))),?_⟩
 refine ⟨_,rfl,r,_,1,_,rfl,rfl,SqT.of e1,rfl,⟨_,_,rfl,e2⟩,_,rfl,_,rfl,a,b,rfl,λx hx =>?_⟩
 have s1:=af hx (.tup ((nrm a b).map V.int))
 exact ⟨t,x,ts,nrm a b,rfl,rfl,s1 _ _ e2,λu hu=>s1 _ _ (W.tup u hu),ag,q _ s1⟩
end
open PySem L2
theorem j8 (x y:Int):(nrm x y=[x,y]/\x<=y)\/(nrm x y=[y,x]/\y<=x):=by
 unfold nrm mnI mxI
 by_cases h:y<x
 ·right
  rw[if_pos h,if_neg (by lia)]
  exact ⟨rfl,by lia⟩
 ·by_cases h2:y>x
  ·left
   rw[if_neg h,if_pos h2]
   exact ⟨rfl,by lia⟩
  ·left
   have:x=y:=by lia
   subst this
   rw[if_neg h]
   exact ⟨rfl,Int.le_refl _⟩
def Sd (ts:List (Addr×List Int)):Prop:=(ts.map (·.2)).Pairwise hU
theorem fY {out:List (Addr×List Int)}(h:out.Pairwise (λa b=>HT.lexLt b.2 a.2=false)):Sd out:=vA.mpr h
theorem fq {a b:Int}{m:Int}(a0:0<=a)(am:a<m)(b0:0<=b)(bm:b<m):∃x y:Int,nrm a b=[x,y]/\0<=x/\x<=y/\y<m:=by
 rcases j8 a b with ⟨e,l⟩ | ⟨e,l⟩
 ·exact ⟨a,b,e,a0,l,bm⟩
 ·exact ⟨b,a,e,b0,l,am⟩
@[irreducible] def ft (C:Addr):Sp:=λvs H Q E=>∃(r:Addr) (m a b:Int) (ts:List (Addr×List Int)),vs=[.ref r,.int a,.int b]/\Wb H r m ts/\(0<=a/\a<m/\0<=b/\b<m)/\(ts.length<200->∀(z:Addr) (us:List (Addr×List Int)) (H':Hp),aF H H'->Wb H' z m us->Sd us->(us.map (·.2)).Perm (ts.map (·.2)++[nrm a b])->Q (.ref z) H')/\(200<=ts.length->E (.ref C) none H)
theorem cy {C:Addr}{vs:List V}{H:Hp}{Q:VK}{E:XK}:ft C vs H Q E↔∃(r:Addr) (m a b:Int) (ts:List (Addr×List Int)),vs=[.ref r,.int a,.int b]/\Wb H r m ts/\(0<=a/\a<m/\0<=b/\b<m)/\(ts.length<200->∀(z:Addr) (us:List (Addr×List Int)) (H':Hp),aF H H'->Wb H' z m us->Sd us->(us.map (·.2)).Perm (ts.map (·.2)++[nrm a b])->Q (.ref z) H')/\(200<=ts.length->E (.ref C) none H):=by
 delta ft
 exact uo
@[irreducible] def dI (C:Addr):Sp:=λvs H Q E=>∃(r:Addr) (m a b:Int) (ts:List (Addr×List Int)),vs=[.ref r,.int a,.int b]/\Wb H r m ts/\(nrm a b∈ts.map (·.2)->∀(z:Addr) (us:List (Addr×List Int)) (H':Hp),aF H H'->Wb H' z m us->us.map (·.2)=(ts.map (·.2)).erase (nrm a b)->Q (.ref z) H')/\(nrm a b∉ts.map (·.2)->∀H',aF H H'->E (.ref C) none H')
theorem bT {C:Addr}{vs:List V}{H:Hp}{Q:VK}{E:XK}:dI C vs H Q E↔∃(r:Addr) (m a b:Int) (ts:List (Addr×List Int)),vs=[.ref r,.int a,.int b]/\Wb H r m ts/\(nrm a b∈ts.map (·.2)->∀(z:Addr) (us:List (Addr×List Int)) (H':Hp),aF H H'->Wb H' z m us->us.map (·.2)=(ts.map (·.2)).erase (nrm a b)->Q (.ref z) H')/\(nrm a b∉ts.map (·.2)->∀H',aF H H'->E (.ref C) none H'):=by
 delta dI
 exact uo
abbrev lN:Sp:=λvs H Q _=>∃(r:Addr) (m a b:Int) (ts:List (Addr×List Int)),vs=[.ref r,.int a,.int b]/\Wb H r m ts/\(0<=a/\a<m/\0<=b/\b<m)/\ts.length<200/\∀(z:Addr) (us:List (Addr×List Int)) (H':Hp),aF H H'->Wb H' z m us->Sd us->(us.map (·.2)).Perm (ts.map (·.2)++[nrm a b])->Q (.ref z) H'
@[irreducible] def ik:Sp:=lN
theorem d7 {vs:List V}{H:Hp}{Q:VK}{E:XK}:ik vs H Q E↔lN vs H Q E:=by
 delta ik
 exact uo
abbrev jB:Sp:=λvs H Q _=>∃(r:Addr) (m a b:Int) (ts:List (Addr×List Int)),vs=[.ref r,.int a,.int b]/\Wb H r m ts/\nrm a b∈ts.map (·.2)/\∀(z:Addr) (us:List (Addr×List Int)) (H':Hp),aF H H'->Wb H' z m us->us.map (·.2)=(ts.map (·.2)).erase (nrm a b)->Q (.ref z) H'
@[irreducible] def fu:Sp:=jB
theorem dm {vs:List V}{H:Hp}{Q:VK}{E:XK}:fu vs H Q E↔jB vs H Q E:=by
 delta fu
 exact uo
theorem lO {C:Addr}:∀vs H Q E,ik vs H Q E->ft C vs H Q E0:=λvs H Q E h=>by
 obtain ⟨r,m,a,b,ts,e,W,rg,l,q⟩:=d7.mp h
 exact cy.mpr ⟨r,m,a,b,ts,e,W,rg,λ_=>q,λz=>absurd l (by lia)⟩
theorem j9 {C:Addr}:∀vs H Q E,fu vs H Q E->dI C vs H Q E0:=λvs H Q E h=>by
 obtain ⟨r,m,a,b,ts,e,W,l,q⟩:=dm.mp h
 exact bT.mpr ⟨r,m,a,b,ts,e,W,λ_=>q,λz=>absurd l z⟩
section
variable  {P:qX}{w:rO}{K:qv}{mg:Str->Option qw}{base:Heap}{f:Addr}{fd:sA}{c_WebError c_BadWeb c_NoStep c_NoText c_TooMany c_NoTie c_NoRing c_NotClear c_NotThree c_BadBoard c_NoRow c_NoBack:Addr}
theorem qk:aT ["web", "one", "other"] ["web", "one", "other"] (ao qe):=⟨rfl,rfl,rfl,by decide +kernel,rfl,by decide +kernel,by decide +kernel⟩
theorem ql {tk:Nat}(Z:Exs K mg c_WebError c_BadWeb c_NoStep c_NoText c_TooMany c_NoTie c_NoRing c_NotClear c_NotThree c_BadBoard c_NoRow c_NoBack)(F:Fun K "put_tie" "put_tie" qe f fd)(B:Blt mg)(mso:mg "sorted" = none)(mt:mg "MOST_TIES" = some (.int 200 tk))(cT:Cal P w K mg base 1 "tie_of" ["one", "other"] dH):bu P w K mg base (CX1 P w) 2 f fd ["web", "one", "other"] (ft c_TooMany):=by
 refine F.okX qk (λvs H Q E h =>?_) (λcdv A outer s H vs Q E hr h =>?_)
 ·obtain ⟨a,b,c,d,e,rfl,_⟩:=cy.mp h
  rfl
 obtain ⟨r,m,a,b,ts,rfl,W,⟨a0,am,b0,bm⟩,q1,q2⟩:=cy.mp h
 obtain ⟨t,e1,e2⟩:=W.at'
 refine ⟨_,ai (bo (aU nA (aj bD rfl B.b_len vy (aa (aB aD (pv 0) ah (λ_ _=>rfl)) ae)) (bq (v :=.int 200) rfl mt ⟨_,rfl⟩) (aY _)) (ak (hZ (x := "TooMany") nG ⟨Z.t_ex,Z.x_TooMany⟩ hr.hd rfl (aa cg ae))) aM)
  (ak (aH (aO (aa (aB aD (pv 0) ah (λ_ _=>rfl)) (aa (aE aA rfl B.b_tuple sS (aa (aj ba rfl mso bG
   (aa (aN lj (aB aD (pv 0) ah (λ_ _=>rfl)) (aO (aa (av cT hr (by decide) rfl (aa (pv 1) (aa (pv 2) ae))) ae))) ae)) ae)) ae))))),?_⟩
 refine ⟨_,rfl,r,_,1,_,rfl,rfl,SqT.of e1,rfl,t,_,rfl,.inr (SqT.of e2),_,_,rfl,rfl,_,rfl,?_⟩
 rw[qu]
 by_cases l2:200<=ts.length
 ·rw[decide_eq_true (show (200:Int)<=(ts.length:Int) by lia)]
  exact bC ⟨(by show 1<=qD;decide),q2 l2⟩
 have l2:ts.length<200:=by lia
 have q:=q1 l2
 rw[decide_eq_false (show ¬ (200:Int)<=(ts.length:Int) by lia)]
 refine bj ?_
 refine ⟨_,rfl,r,_,0,_,rfl,rfl,SqT.of e1,rfl,_,rfl,r,_,1,_,rfl,rfl,SqT.of e1,rfl,_,rfl,_,rfl,a,b,rfl,λx hx=>⟨(by show 1<=qD;decide),λy hy =>?_⟩⟩
 have s1:=af hx (.tup ((nrm a b).map V.int))
 have s2:=af hy (.tup [.ref x])
 have s12:=s1.trans s2
 have hx2:upd (upd H x (.tup ((nrm a b).map V.int))) y (.tup [.ref x]) x=some (.tup ((nrm a b).map V.int)):=s2 _ _ ag
 have hy2:upd (upd H x (.tup ((nrm a b).map V.int))) y (.tup [.ref x]) y=some (.tup [.ref x]):=ag
 generalize upd (upd H x (.tup ((nrm a b).map V.int))) y (.tup [.ref x])=H2 at s12 hx2 hy2
 have key:∀(p:Addr) (H3:Hp),aF H H3->H3 p=some (.tup ((ts++[(x,nrm a b)]).map λu =>.ref u.1))->H3 x=some (.tup ((nrm a b).map V.int))->∃(p':Addr) (us:List (Addr×List Int)),([V.ref p]:List V)=[.ref p']/\(SqL K H3 p' (us.map λt =>.ref t.1)\/SqT K H3 p' (us.map λt =>.ref t.1))/\(∀t∈us,SqT K H3 t.1 (t.2.map V.int)/\t.2≠[]) ∧
   ∀(l:Addr) (out:List (Addr×List Int)),H3 l=none->out.Perm us->out.Pairwise (λa b=>HT.lexLt b.2 a.2=false)->∃p'' ys,([V.ref l]:List V)=[.ref p'']/\((SqL K (upd H3 l (.lst (out.map λt =>.ref t.1))) p'' ys/\∀l2,upd H3 l (.lst (out.map λt =>.ref t.1)) l2=none->[V.int m,V.ref l2].length<=qD/\∀z,upd (upd H3 l (.lst (out.map λt =>.ref t.1))) l2 (.tup ys) z=none->Q (.ref z) (upd (upd (upd H3 l (.lst (out.map λt =>.ref t.1))) l2 (.tup ys)) z (.tup [.int m,.ref l2])))\/(SqT K (upd H3 l (.lst (out.map λt =>.ref t.1))) p'' ys/\[V.int m,V.ref p''].length<=qD/\∀z,upd H3 l (.lst (out.map λt =>.ref t.1)) z=none->Q (.ref z) (upd (upd H3 l (.lst (out.map λt =>.ref t.1))) z (.tup [.int m,.ref p''])))):=by
  intro p H3 s3 ep ex
  have pr:∀u∈ts++[(x,nrm a b)],∃c d:Int,u.2=[c,d]/\0<=c/\c<=d/\d<m:=λu hu=>by
   rcases qH.mp hu with z | z
   ·exact W.pr u z
   ·have:u=(x,nrm a b):=by simpa using z
    subst this
    exact fq a0 am b0 bm
  have tu:∀u∈ts++[(x,nrm a b)],H3 u.1=some (.tup (u.2.map V.int)):=λu hu=>by
   rcases qH.mp hu with z | z
   ·exact s3 _ _ (W.tup u z)
   ·have:u=(x,nrm a b):=by simpa using z
    subst this
    exact ex
  refine ⟨p,ts++[(x,nrm a b)],rfl,.inr (SqT.of ep),λu hu=>⟨SqT.of (tu u hu),λz =>?_⟩,λl out hl po ps =>?_⟩
  ·obtain ⟨c,d,e,_⟩:=pr u hu
   rw[z] at e
   cases e
  have g1:=af hl (.lst (out.map λt =>.ref t.1))
  refine ⟨l,_,rfl,.inl ⟨SqL.of ag,λl2 hl2=>⟨(by show 2<=qD;decide),λz hz =>?_⟩⟩⟩
  have g2:=af hl2 (.tup (out.map λt =>.ref t.1))
  have g3:=af hz (.tup [.int m,.ref l2])
  refine q z out _ (((s3.trans g1).trans g2).trans g3) ⟨⟨l2,ag,g3 _ _ ag⟩,λu hu=>g3 _ _ (g2 _ _ (g1 _ _ (tu u (po.mem_iff.mp hu)))),λu hu=>pr u (po.mem_iff.mp hu),?_⟩ (fY ps) ?_
  ·rw[po.length_eq,qC]
   show ts.length+1<=200
   lia
  ·have:=po.map (·.2)
   rw[qQ] at this
   exact this
 refine ⟨t,y,_,_,rfl,rfl,SqT.of (s12 _ _ e2),SqT.of hy2,by simp,by rw[qu];exact small (by show ts.length+1<=1000;lia),λez =>?_,λ_ p hp =>?_⟩
 ·have et:ts=[]:=by simpa using ez
  refine key y H2 s12 ?_ hx2
  rw[et]
  exact hy2
 ·have g:=af hp (.tup ((ts.map λu=>V.ref u.1)++[.ref x]))
  refine key p _ (s12.trans g) ?_ (g _ _ hx2)
  rw[ag,qQ]
  rfl
theorem lP:aT ["web", "one", "other", "ties"] ["web", "one", "other"] (ao nI):=⟨rfl,rfl,rfl,by decide +kernel,rfl,by decide +kernel,by decide +kernel⟩
theorem o7 (Z:Exs K mg c_WebError c_BadWeb c_NoStep c_NoText c_TooMany c_NoTie c_NoRing c_NotClear c_NotThree c_BadBoard c_NoRow c_NoBack)(F:Fun K "less_tie" "less_tie" nI f fd)(B:Blt mg)(cT:Cal P w K mg base 1 "tie_of" ["one", "other"] dH)(cTimes:Cal P w K mg base 2 "tied_times" ["web", "one", "other"] eJ):bu P w K mg base (CX1 P w) 3 f fd ["web", "one", "other"] (dI c_NoTie):=by
 refine F.okX lP (λvs H Q E h =>?_) (λcdv A outer s H vs Q E hr h =>?_)
 ·obtain ⟨a,b,c,d,e,rfl,_⟩:=bT.mp h
  rfl
 obtain ⟨r,m,a,b,ts,rfl,W,q1,q2⟩:=bT.mp h
 refine ⟨_,ai (bo (aU eR (av cTimes hr (by decide) rfl (aa (pv 0) (aa (pv 1) (aa (pv 2) ae)))) ah (aY _)) (ak (hZ (x := "NoTie") nG ⟨Z.n_ex,Z.x_NoTie⟩ hr.hd rfl (aa cg ae))) aM)
  (ai (aI (i:=3) lP.nd rfl (Or.inl rfl) (aE dB rfl B.b_list vm (aa (aB aD (pv 0) ah (λ_ _=>rfl)) ae)))
  (ai (gp (kG uD vD PySem.F.type_list_remove (iR (hu8 hr)) (pv 3) (aa (av cT hr (by decide) rfl (aa (pv 1) (aa (pv 2) ae))) ae)))
  (ak (aH (aO (aa (aB aD (pv 0) ah (λ_ _=>rfl)) (aa (aE aA rfl B.b_tuple sS (aa (pv 3) ae)) ae))))))),?_⟩
 refine ⟨_,rfl,_,rfl,_,rfl,cG.mpr ⟨r,m,a,b,ts,rfl,W,λH1 s1 =>?_⟩⟩
 refine ⟨rfl,_,rfl,?_⟩
 by_cases hm:nrm a b∈ts.map (·.2)
 rotate_left
 ·rw[decide_eq_true (show V.int (((ts.map (·.2)).count (nrm a b):Nat):Int)=V.int 0 by rw[List.count_eq_zero.mpr hm];rfl)]
  exact bC ⟨(by show 1<=qD;decide),q2 hm _ s1⟩
 have q:=q1 hm
 have cp:0<(ts.map (·.2)).count (nrm a b):=List.count_pos_iff.mpr hm
 rw[decide_eq_false (show ¬ V.int (((ts.map (·.2)).count (nrm a b):Nat):Int)=V.int 0 from λz=>by have:=V.int.inj z;omega)]
 refine bj ?_
 have W1:=W.same s1
 obtain ⟨t,e1,e2⟩:=W1.at'
 refine ⟨_,rfl,r,_,1,_,rfl,rfl,SqT.of e1,rfl,t,_,rfl,.inr (SqT.of e2),λl hl =>?_⟩
 have g1:=af hl (.lst (ts.map λu=>V.ref u.1))
 have el:upd H1 l (.lst (ts.map λu=>V.ref u.1)) l=some (.lst (ts.map λu=>V.ref u.1)):=ag
 have W2:=W1.same g1
 have hl0:H l=none:=s1.free hl
 have s2:=s1.trans g1
 generalize upd H1 l (.lst (ts.map λu=>V.ref u.1))=H2 at g1 el W2 s2
 refine ⟨_,rfl,.inl ⟨rfl,_,SqL.of el⟩,_,rfl,_,rfl,a,b,rfl,λx hx =>?_⟩
 have g3:=af hx (.tup ((nrm a b).map V.int))
 have W3:=W2.same g3
 refine ⟨l,x,ts,nrm a b,rfl,rfl,g3 _ _ el,λu hu=>W3.tup u hu,ag,hm,λus eu hu =>?_⟩
 have s3:aF H (upd (upd H2 x (.tup ((nrm a b).map V.int))) l (.lst (us.map λt =>.ref t.1))):=λc o e=>by
  rw[az (ax e hl0)]
  exact g3 _ _ (s2 _ _ e)
 have W4:Wb (upd (upd H2 x (.tup ((nrm a b).map V.int))) l (.lst (us.map λt =>.ref t.1))) r m ts:=W.same s3
 obtain ⟨t4,e3,e4⟩:=W4.at'
 refine ⟨_,rfl,r,_,0,_,rfl,rfl,SqT.of e3,rfl,_,rfl,l,_,rfl,.inl ⟨SqL.of ag,λl2 hl2=>⟨(by show 2<=qD;decide),λz hz =>?_⟩⟩⟩
 have g5:=af hl2 (.tup (us.map λt =>.ref t.1))
 have g6:=af hz (.tup [.int m,.ref l2])
 refine q z us _ ((s3.trans g5).trans g6) ⟨⟨l2,ag,g6 _ _ ag⟩,λu hu'=>g6 _ _ (g5 _ _ (W4.tup u (hu u hu'))),λu hu'=>W.pr u (hu u hu'),?_⟩ eu
 have le:=congrArg List.length eu
 rw[qu,List.length_erase_of_mem hm,qu] at le
 have:=W.len
 omega
end
open PySem L2
def key (t:Addr×Int×Int):List Int:=nrm t.2.1 t.2.2
def fv (H:Hp)(ys:List V)(us:List (Addr×List Int)):Prop:=ys=us.map (λu =>.ref u.1)/\∀u∈us,H u.1=some (.tup (u.2.map V.int))
theorem fv.add {H:Hp}{ys:List V}{us:List (Addr×List Int)}(h:fv H ys us){t:Addr}(ht:H t=none)(ns:List Int):fv (upd H t (.tup (ns.map V.int))) (ys++[.ref t]) (us++[(t,ns)]):=by
 refine ⟨by rw[h.1,qQ];rfl,λu hu =>?_⟩
 rcases qH.mp hu with z | z
 ·rw[az (ax (h.2 u z) ht)]
  exact h.2 u z
 ·have e:u=(t,ns):=by simpa using z
  rw[e]
  exact ag
theorem fv.same {H H':Hp}{ys:List V}{us:List (Addr×List Int)}(h:fv H ys us)(s:aF H H'):fv H' ys us:=⟨h.1,λu hu=>s _ _ (h.2 u hu)⟩
abbrev lQ:Sp:=λvs H Q _=>∃(r:Addr) (most ties:Int),vs=[.ref r,.int most,.int ties]/\Lf r H/\0<=most/\most<=900/\0<=ties/\ties<=200/\∀(b:Addr) (m:Int) (ts:List (Addr×List Int)) (H':Hp),SB r H H'->Lf r H'->Wb H' b m ts->Sd ts->0<=m->m<=most->(ts.length:Int)<=ties->Q (.ref b) H'
@[irreducible] def jC:Sp:=lQ
theorem cX {vs:List V}{H:Hp}{Q:VK}{E:XK}:jC vs H Q E↔lQ vs H Q E:=by
 delta jC
 exact uo
theorem o8 {a b m:Int}(h:0<=a/\a<m/\0<=b/\b<m):∃x y:Int,nrm a b=[x,y]/\0<=x/\x<=y/\y<m:=by
 refine ⟨mnI a b,mxI a b,rfl,?_,?_,?_⟩ <;> (try unfold mnI) <;> (try unfold mxI) <;> (repeat' split) <;> lia
section
variable  {P:qX}{w:rO}{K:qv}{mg:Str->Option qw}{base:Heap}{f:Addr}{fd:sA}
theorem ndOO:(["one", "other"]:List Str).Nodup:=by decide +kernel
theorem lR:aT ["left", "most", "ties", "many", "pairs"] ["left", "most", "ties"] (ao qf):=⟨rfl,rfl,rfl,by decide +kernel,rfl,by decide +kernel,by decide +kernel⟩
theorem qm (F:Fun K "_law_web" "_law_web" qf f fd)(B:Blt mg)(ms:mg "sorted" = none)(mx:mg "max" = none)(mn:mg "min" = none)(cNext:Cal P w K mg base 1 "_law_next" ["left", "many"] cw)(cTies:Cal P w K mg base 2 "_law_ties" ["left", "many", "most"] gM):bu P w K mg base CX0 3 f fd ["left", "most", "ties"] jC:=by
 refine F.ok lR (λvs H Q E h =>?_) (λcdv A outer s H vs Q E hr h =>?_)
 ·obtain ⟨a,b,c,rfl,_⟩:=cX.mp h
  rfl
 obtain ⟨r,most,ties,rfl,lf,h0,h1,t0,t1,q⟩:=cX.mp h
 refine ⟨_,ai (aI (i:=3) lR.nd rfl (Or.inl rfl) (av cNext hr (by decide) rfl (aa (pv 0) (aa (aN bB (pv 1) ah) ae))))
  (ai (aI (i:=4) lR.nd rfl (Or.inl rfl) (av cTies hr (by decide) rfl (aa (pv 0) (aa (pv 3) (aa (pv 2) ae)))))
  (ak (aH (aO (aa (pv 3) (aa (aE aA rfl B.b_tuple sS (aa (aj ba rfl ms bG (aa
     (cn ["one", "other"] [none,none] rfl (gs (pv 4)) rfl (λ_ _ _ _ _=>fc (K:=K) (i:=0) (j:=1) ndOO rfl rfl (Or.inl rfl) (Or.inl rfl)) (λ_ _ _ _ _=>dX)
      (λ_ _ _ _ _=>aO (aa (aj (b7 rfl) rfl mn fm (aa (pv 0) (aa (pv 1) ae))) (aa (aj (dS rfl) rfl mx iX (aa (pv 0) (aa (pv 1) ae))) ae)))) ae)) ae)) ae)))))),?_⟩
 refine ⟨_,rfl,_,rfl,_,_,rfl,rfl,de lf (by lia) (by lia) λm H2 m0 m1 sb2 lf2 =>?_⟩
 refine ⟨_,rfl,_,rfl,_,rfl,dk.mpr ⟨r,m,ties,rfl,lf2,m0,by lia,t0,by lia,λl H8 ts hl sb8 lf8 tA lt =>?_⟩⟩
 have em:(ts.map λt=>(t.1,V.int t.2.1,V.int t.2.2)).map (λt=>V.ref t.1)=ts.map λt=>V.ref t.1:=by rw[uc];rfl
 refine ⟨_,rfl,_,rfl,l,rfl,⟨_,SqL.of tA.at'⟩,iJ (ts:=ts.map λt=>(t.1,V.int t.2.1,V.int t.2.2)) (λi ys H'=>aF H8 H'/\∃us,fv H' ys us/\us.map (·.2)=(ts.take i).map key) (by decide) ⟨aF.refl _,[],⟨rfl,λu hu=>by cases hu⟩,rfl⟩ (by rw[qu];exact small (by lia)) ?_ ?_ ?_⟩
 ·rintro i ys H' _ ⟨s',_⟩
  rw[em]
  refine ⟨SqL.of (s' _ _ tA.at'),λt ht =>?_⟩
  obtain ⟨tt,htt,rfl⟩:=sj.mp ht
  exact SqT.of (s' _ _ (tA.tup tt htt))
 ·rintro i t ys H' ht hy ⟨s',us,tu,eu⟩ R1 R0 r1 r0
  rw[rK] at ht
  cases hi:ts[i]? with
  | none=>rw[hi] at ht;cases ht
  | some tt =>
  rw[hi] at ht
  have ht':=rE ht
  subst ht'
  refine bC ⟨_,rfl,_,rfl,_,_,rfl,_,rfl,_,rfl,_,_,rfl,(by show 2<=qD;decide),λtn htn=>r1 _ _ ⟨s'.trans (af htn _),us++[(tn,key tt)],tu.add htn _,?_⟩⟩
  rw[qQ,eu,sR,hi,qQ]
  rfl
 rintro ys H9 hy ⟨s9,us,tu,eu⟩ L hL
 have eu':us.map (·.2)=ts.map key:=by rw[eu,qu,rA (qz _)]
 have s10:=s9.trans (af hL (.lst ys))
 have tu10:=tu.same (af hL (.lst ys))
 have ey:=tu.1
 have keys:∀u∈us,∃x y:Int,u.2=[x,y]/\0<=x/\x<=y/\y<m:=λu hu=>by
  have:u.2∈ts.map key:=by rw[<- eu'];exact tS hu
  obtain ⟨t,ht,e⟩:=sj.mp this
  rw[<- e]
  exact o8 (tA.bnd t ht)
 have nn:∀u∈us,u.2≠[]:=λu hu z=>by
  obtain ⟨a,b,e,_⟩:=keys u hu
  rw[z] at e
  cases e
 refine ⟨L,us,rfl,.inl (SqL.of (by rw[ag,ey])),λu hu=>⟨SqT.of (tu10.2 u hu),nn u hu⟩,λL2 out hL2 po ps =>?_⟩
 have s11:=s10.trans (af hL2 (.lst (out.map λt =>.ref t.1)))
 have tu11:=tu10.same (af hL2 (.lst (out.map λt =>.ref t.1)))
 refine ⟨L2,_,rfl,.inl ⟨SqL.of ag,λl3 hl3 =>?_⟩⟩
 have s12:=s11.trans (af hl3 (.tup (out.map λt =>.ref t.1)))
 have tu12:=tu11.same (af hl3 (.tup (out.map λt =>.ref t.1)))
 refine ⟨(by show 2<=qD;decide),λb hb =>?_⟩
 have sb:=af hb (.tup [.int m,.ref l3])
 have lu:us.length=ts.length:=by have:=congrArg List.length eu';rwa [qu,qu] at this
 refine q b m out _ (sb2.trans (sb8.trans (s12.trans sb).sb)) (lf8.same (s12.trans sb)) ⟨⟨l3,ag,sb _ _ ag⟩,λu hu=>sb _ _ (tu12.2 u (po.mem_iff.mp hu)),λu hu=>keys u (po.mem_iff.mp hu),?_⟩ (fY ps) m0 (by lia) ?_
 ·rw[po.length_eq];lia
 ·rw[po.length_eq];lia
end
def off (ps:List Int)(p:List Int):Bool := !decide (p.getD 0 0∈ps) && !decide (p.getD 1 0∈ps)
abbrev lS:Sp:=λvs H Q _=>∃(r p:Addr) (m:Int) (ts:List (Addr×List Int)) (ps:List Int),vs=[.ref r,.ref p]/\Wb H r m ts/\H p=some (.tup (ps.map V.int)) ∧
 ∀(z:Addr) (us:List (Addr×List Int)) (H':Hp),aF H H'->Wb H' z m us->us.map (·.2)=(ts.map (·.2)).filter (off ps)->Q (.ref z) H'
@[irreducible] def jD:Sp:=lS
theorem cc {vs:List V}{H:Hp}{Q:VK}{E:XK}:jD vs H Q E↔lS vs H Q E:=by
 delta jD
 exact uo
def ren (f:Int->Int)(p:List Int):List Int:=nrm (f (p.getD 0 0)) (f (p.getD 1 0))
abbrev lT:Sp:=λvs H Q _=>∃(r o:Addr) (m:Nat) (ts:List (Addr×List Int)) (os:List Int) (g:Int->Int),vs=[.ref r,.ref o]/\Wb H r m ts/\(H o=some (.lst (os.map V.int))\/H o=some (.tup (os.map V.int)))/\(∀k:Nat,k<m->os[k]? = some (g k)/\0<=g k/\g k<m) ∧
 ∀(z:Addr) (us:List (Addr×List Int)) (H':Hp),aF H H'->Wb H' z m us->Sd us->(us.map (·.2)).Perm ((ts.map (·.2)).map (ren g))->Q (.ref z) H'
@[irreducible] def jE:Sp:=lT
theorem cY {vs:List V}{H:Hp}{Q:VK}{E:XK}:jE vs H Q E↔lT vs H Q E:=by
 delta jE
 exact uo
section
variable  {P:qX}{w:rO}{K:qv}{mg:Str->Option qw}{base:Heap}{f:Addr}{fd:sA}
theorem qo:aT ["web", "places"] ["web", "places"] (ao qc):=⟨rfl,rfl,rfl,by decide +kernel,rfl,by decide +kernel,by decide +kernel⟩
theorem cZ {α β:Type}{g:α -> Bool}{h:α -> β}{l:List α}{i:Nat}{x:α}(e:l[i]? = some x):((l.take (i+1)).filter g).map h=((l.take i).filter g).map h++if g x=true then [h x] else []:=by
 rw[sR,e,List.filter_append,qQ]
 congr 1
 show (List.filter g [x]).map h=_
 by_cases c:g x=true
 ·rw[if_pos c,List.filter_cons_of_pos c];rfl
 ·rw[if_neg c,List.filter_cons_of_neg c];rfl
theorem qp (F:Fun K "cut_web" "cut_web" qc f fd)(B:Blt mg):bu P w K mg base CX0 1 f fd ["web", "places"] jD:=by
 refine F.ok qo (λvs H Q E h =>?_) (λcdv A outer s H vs Q E hr h =>?_)
 ·obtain ⟨a,b,c,d,e,rfl,_⟩:=cc.mp h
  rfl
 obtain ⟨r,p,m,ts,ps,rfl,W,hp,q⟩:=cc.mp h
 obtain ⟨t,e1,e2⟩:=W.at'
 refine ⟨_,ak (aH (aO (aa (aB aD (pv 0) ah (λ_ _=>rfl)) (aa (aE aA rfl B.b_tuple sS (aa (cn ["tie", "places"] [none,some 1] rfl (dP (aB aD (pv 0) ah (λ_ _=>rfl))) rfl (λ_ _ _ _ _=>aW (i:=0) qj rfl (Or.inl rfl))
  (λ_ _ _ _ _=>iH (PW.pt (dN (aU (cP (K:=K)) (aB (bH (K:=K)) (pv 0) ah (λ_ _=>rfl)) (pv 1) rfl) (du (aU (cP (K:=K)) (aB (bH (K:=K)) (pv 0) ah (λ_ _=>rfl)) (pv 1) rfl)))))
  (λ_ _ _ _ _=>pv 0)) ae)) ae)))),?_⟩
 refine ⟨_,rfl,r,_,0,_,rfl,rfl,SqT.of e1,rfl,_,rfl,r,_,1,_,rfl,rfl,SqT.of e1,rfl,t,rfl,⟨_,SqT.of e2⟩,cN (xs:=ts.map λu =>.ref u.1) (λi ys H'=>H'=H/\ys=((ts.take i).filter λu=>off ps u.2).map λu =>.ref u.1) ⟨rfl,rfl⟩ (by rw[qu];exact small (by have:=W.len;lia)) (λi ys H' _ z=>by rw[z.1];exact SqT.of e2) ?_ ?_⟩
 ·rintro i x ys H3 hx hy ⟨rfl,ey⟩ R1 R0 r1 r0
  obtain ⟨u,eu,rfl⟩:=item hx
  have hu:=W.tup u (qV eu)
  obtain ⟨a,b,e3,_⟩:=W.pr u (qV eu)
  rw[e3] at hu
  have bb:off ps u.2=(!decide (a∈ps) && !decide (b∈ps)):=by rw[e3];rfl
  have g1:off ps u.2=true->R1 (.ref u.1) H3:=λec=>r1 _ _ ⟨rfl,by rw[cZ eu,if_pos ec,ey]⟩
  have g0:off ps u.2=false->R0 H3:=λec=>r0 _ ⟨rfl,by rw[cZ eu,if_neg (by rw[ec];exact qO),ey,rW]⟩
  refine ⟨_,rfl,u.1,_,0,_,rfl,rfl,SqT.of hu,rfl,_,rfl,p,_,rfl,.inr (SqT.of hp),rfl,cW ps,_,rfl,?_⟩
  show if (if true=true then !inV (.int a) (ps.map V.int) else _)=true then _ else _
  rw[if_pos rfl,cH]
  by_cases ha:a∈ps
  ·rw[decide_eq_true ha] at bb ⊢
   exact bj (bj (g0 bb))
  ·rw[decide_eq_false ha] at bb ⊢
   refine bC ⟨_,rfl,u.1,_,1,_,rfl,rfl,SqT.of hu,rfl,_,rfl,p,_,rfl,.inr (SqT.of hp),rfl,cW ps,_,rfl,?_⟩
   show if (if true=true then !inV (.int b) (ps.map V.int) else _)=true then _ else _
   rw[if_pos rfl,cH]
   by_cases hb:b∈ps
   ·rw[decide_eq_true hb] at bb ⊢
    exact bj (g0 bb)
   ·rw[decide_eq_false hb] at bb ⊢
    exact bC ⟨_,rfl,g1 bb⟩
 ·rintro ys H3 hy ⟨rfl,ey⟩ l hl
  rw[qu,rA (qz _)] at ey
  refine ⟨l,_,rfl,.inl ⟨SqL.of ag,λl2 hl2=>⟨(by show 2<=qD;decide),λz hz =>?_⟩⟩⟩
  subst ey
  have g1:=af hl (.lst ((ts.filter λu=>off ps u.2).map λu=>V.ref u.1))
  have g2:=af hl2 (.tup ((ts.filter λu=>off ps u.2).map λu=>V.ref u.1))
  have g3:=af hz (.tup [.int m,.ref l2])
  have g:=(g1.trans g2).trans g3
  refine q z (ts.filter λu=>off ps u.2) _ g ⟨⟨l2,ag,g3 _ _ ag⟩,λu hu=>g _ _ (W.tup u (tZ.mp hu).1),λu hu=>W.pr u (tZ.mp hu).1,?_⟩ ?_
  ·exact rn (wq _ _) W.len
  ·rw[xJ];rfl
theorem ndTO:(["tie", "order"]:List Str).Nodup:=by decide +kernel
theorem qq:aT ["web", "order"] ["web", "order"] (ao qd):=⟨rfl,rfl,rfl,by decide +kernel,rfl,by decide +kernel,by decide +kernel⟩
theorem qr (F:Fun K "renamed_web" "renamed_web" qd f fd)(B:Blt mg)(mso:mg "sorted" = none)(cT:Cal P w K mg base 1 "tie_of" ["one", "other"] dH):bu P w K mg base CX0 2 f fd ["web", "order"] jE:=by
 refine F.ok qq (λvs H Q E h =>?_) (λcdv A outer s H vs Q E hr h =>?_)
 ·obtain ⟨a,b,c,d,e,g,rfl,_⟩:=cY.mp h
  rfl
 obtain ⟨r,o,m,ts,os,g,rfl,W,ho,hg,q⟩:=cY.mp h
 obtain ⟨t,e1,e2⟩:=W.at'
 refine ⟨_,ak (aH (aO (aa (aB aD (pv 0) ah (λ_ _=>rfl)) (aa (aE aA rfl B.b_tuple sS (aa (aj ba rfl mso bG (aa (cn ["tie", "order"] [none,some 1] rfl (dP (aB aD (pv 0) ah (λ_ _=>rfl))) rfl (λ_ _ _ _ _=>aW (i:=0) ndTO rfl (Or.inl rfl))
  (λ_ _ _ _ _=>dX)
  (λ_ _ _ _ _=>av cT hr (by decide) rfl (aa (aB (eI (K:=K)) (pv 1) (aB (bH (K:=K)) (pv 0) ah (λ_ _=>rfl)) (λ_ _=>rfl)) (aa (aB (eI (K:=K)) (pv 1) (aB (bH (K:=K)) (pv 0) ah (λ_ _=>rfl)) (λ_ _=>rfl)) ae)))) ae)) ae)) ae)))),?_⟩
 refine ⟨_,rfl,r,_,0,_,rfl,rfl,SqT.of e1,rfl,_,rfl,r,_,1,_,rfl,rfl,SqT.of e1,rfl,t,rfl,⟨_,SqT.of e2⟩,cN (xs:=ts.map λu =>.ref u.1) (λi ys H'=>aF H H'/\∃us,fv H' ys us/\us.map (·.2)=(ts.take i).map λu=>ren g u.2) ⟨aF.refl _,[],⟨rfl,λu hu=>by cases hu⟩,rfl⟩ (by rw[qu];exact small (by have:=W.len;lia)) (λi ys H' _ z=>SqT.of (z.1 _ _ e2)) ?_ ?_⟩
 ·rintro i x ys H3 hx hy ⟨s3,us,tu,eu⟩ R1 R0 r1 r0
  obtain ⟨u,eu',rfl⟩:=item hx
  have hu:=s3 _ _ (W.tup u (qV eu'))
  obtain ⟨a,b,e3,a0,ab,bm⟩:=W.pr u (qV eu')
  rw[e3] at hu
  have at':∀x:Int,0<=x->x<m->atI (os.map V.int) x=some (.int (g x)):=λx x0 xm=>by
   obtain ⟨n,rfl⟩:∃n:Nat,x=n:=⟨x.toNat,by lia⟩
   refine cM ?_
   rw[rK,(hg n (by lia)).1]
   rfl
  have rd:∀(y:Int) (Q2:VK),0<=y->y<m->Q2 (.int (g y)) H3->rIx K (.ref o) (.int y) H3 Q2:=λy Q2 y0 ym q2=>by
   rcases ho with ho | ho
   ·exact .inl ⟨o,_,_,_,rfl,rfl,SqL.of (s3 _ _ ho),at' y y0 ym,q2⟩
   ·exact .inr (.inl ⟨o,_,_,_,rfl,rfl,SqT.of (s3 _ _ ho),at' y y0 ym,q2⟩)
  refine bC ⟨_,rfl,_,rfl,u.1,_,0,_,rfl,rfl,SqT.of hu,rfl,rd a _ a0 (by lia) ⟨_,rfl,_,rfl,u.1,_,1,_,rfl,rfl,SqT.of hu,rfl,rd b _ (by lia) bm ⟨g a,g b,rfl,λx hx=>r1 _ _ ⟨s3.trans (af hx _),us++[(x,nrm (g a) (g b))],tu.add hx _,?_⟩⟩⟩⟩
  rw[qQ,eu,sR,eu',qQ]
  congr 1
  show [nrm (g a) (g b)]=[ren g u.2]
  rw[e3]
  rfl
 ·rintro ys H9 hy ⟨s9,us,tu,eu⟩ L hL
  rw[qu,rA (qz _)] at eu
  have s10:=s9.trans (af hL (.lst ys))
  have tu10:=tu.same (af hL (.lst ys))
  have ey:=tu.1
  have keys:∀u∈us,∃x y:Int,u.2=[x,y]/\0<=x/\x<=y/\y<(m:Int):=λu hu=>by
   have:u.2∈ts.map λu=>ren g u.2:=by rw[<- eu];exact tS hu
   obtain ⟨t,ht,e⟩:=sj.mp this
   obtain ⟨a,b,e3,a0,ab,bm⟩:=W.pr t ht
   rw[<- e,e3]
   have h1:=hg a.toNat (by lia)
   have h2:=hg b.toNat (by lia)
   rw[show ((a.toNat:Nat):Int)=a by lia] at h1
   rw[show ((b.toNat:Nat):Int)=b by lia] at h2
   exact fq h1.2.1 h1.2.2 h2.2.1 h2.2.2
  have nn:∀u∈us,u.2≠[]:=λu hu z=>by
   obtain ⟨a,b,e,_⟩:=keys u hu
   rw[z] at e
   cases e
  refine ⟨L,us,rfl,.inl (SqL.of (by rw[ag,ey])),λu hu=>⟨SqT.of (tu10.2 u hu),nn u hu⟩,λL2 out hL2 po ps =>?_⟩
  have g1:=af hL2 (.lst (out.map λt =>.ref t.1))
  refine ⟨L2,_,rfl,.inl ⟨SqL.of ag,λl3 hl3=>⟨(by show 2<=qD;decide),λz hz =>?_⟩⟩⟩
  have g2:=af hl3 (.tup (out.map λt =>.ref t.1))
  have g3:=af hz (.tup [.int (m:Int),.ref l3])
  have gg:=(g1.trans g2).trans g3
  have lu:us.length=ts.length:=by have:=congrArg List.length eu;rwa [qu,qu] at this
  refine q z out _ (s10.trans gg) ⟨⟨l3,ag,g3 _ _ ag⟩,λu hu=>gg _ _ (tu10.2 u (po.mem_iff.mp hu)),λu hu=>keys u (po.mem_iff.mp hu),?_⟩ (fY ps) ?_
  ·rw[po.length_eq,lu];exact W.len
  ·have:=po.map (·.2)
   rw[eu] at this
   rw[uc]
   exact this
end
open PySem L2
structure Wd (H:Hp)(r:Addr)(m:Int)(ts:List (Addr×List Int)):Prop where
 at':∃t,H r=some (.tup [.int m,.ref t])/\H t=some (.tup (ts.map λu =>.ref u.1))
 tup:∀u∈ts,H u.1=some (.tup (u.2.map V.int))
 two:∀u∈ts,u.2.length=2
 len:ts.length<=1000
theorem Wd.same {H H':Hp}{r:Addr}{m:Int}{ts:List (Addr×List Int)}(h:Wd H r m ts)(s:aF H H'):Wd H' r m ts :=
 let ⟨p,e1,e2⟩:=h.at'
 ⟨⟨p,s _ _ e1,s _ _ e2⟩,λu hu=>s _ _ (h.tup u hu),h.two,h.len⟩
theorem Wb.wd {H:Hp}{r:Addr}{m:Int}{ts:List (Addr×List Int)}(h:Wb H r m ts):Wd H r m ts :=
 ⟨h.at',h.tup,λu hu=>by obtain ⟨a,b,e,_⟩:=h.pr u hu;rw[e];rfl,rn h.len (by decide)⟩
theorem il {H:Hp}:∀ns:List Int,Paired (Eqv H 0) (ns.map V.int) (ns.map V.int)
 | [] =>.nil
 | a :: t =>.cons ⟨a,rfl,rfl⟩ (il t)
theorem ip {H:Hp}:∀{ts us:List (Addr×List Int)},ts.map (·.2)=us.map (·.2)->(∀u∈ts,H u.1=some (.tup (u.2.map V.int)))->(∀u∈us,H u.1=some (.tup (u.2.map V.int)))->(∀u∈us,u.2.length=2)->Paired (Eqv H 1) (ts.map λu=>V.ref u.1) (us.map λu=>V.ref u.1)
 | [],[],_,_,_,_ =>.nil
 | [],_ :: _,e,_,_,_=>by cases e
 | _ :: _,[],e,_,_,_=>by cases e
 | t :: ts,u :: us,e,h1,h2,l=>by
  rw[rz,rz] at e
  injection e with e1 e2
  refine .cons (.inr ⟨t.1,u.1,_,_,rfl,rfl,.inl ⟨h1 t rk,h2 u rk⟩,?_,?_⟩) (ip e2 (λx hx=>h1 x (qZ _ hx)) (λx hx=>h2 x (qZ _ hx)) λx hx=>l x (qZ _ hx))
  ·rw[qu,l u rk];decide
  ·have e1':t.2=u.2:=e1
   rw[e1'];exact il _
theorem bJ {H:Hp}{r r':Addr}{m:Int}{ts us:List (Addr×List Int)}(A:Wd H r m ts)(U:Wd H r' m us)(e:ts.map (·.2)=us.map (·.2)):Eqv H 3 (.ref r) (.ref r'):=by
 obtain ⟨t,a1,a2⟩:=A.at'
 obtain ⟨t',b1,b2⟩:=U.at'
 exact .inr ⟨r,r',_,_,rfl,rfl,.inl ⟨a1,b1⟩,(by show 2<=1000;decide),.cons (.inl ⟨m,rfl,rfl⟩) (.cons (.inr ⟨t,t',_,_,rfl,rfl,.inl ⟨a2,b2⟩,by rw[qu];exact U.len,ip e A.tup U.tup U.two⟩) .nil)⟩
theorem iq {K:qv}{H:Hp}{n:Nat}:∀ns:List Int,Paired (EqS K H n) (ns.map V.int) (ns.map V.int)
 | [] =>.nil
 | a :: t =>.cons (by cases n <;> exact .inl ⟨a,rfl,rfl⟩) (iq t)
theorem ir {K:qv}{H:Hp}{n:Nat}:∀{ts us:List (Addr×List Int)},ts.map (·.2)=us.map (·.2)->(∀u∈ts,H u.1=some (.tup (u.2.map V.int)))->(∀u∈us,H u.1=some (.tup (u.2.map V.int)))->Paired (EqS K H (n+1)) (ts.map λu=>V.ref u.1) (us.map λu=>V.ref u.1)
 | [],[],_,_,_ =>.nil
 | [],_ :: _,e,_,_=>by cases e
 | _ :: _,[],e,_,_=>by cases e
 | t :: ts,u :: us,e,h1,h2=>by
  rw[rz,rz] at e
  injection e with e1 e2
  refine .cons (.inr (.inr (.inr ⟨t.1,u.1,_,_,rfl,rfl,.inl ⟨SqT.of (h1 t rk),SqT.of (h2 u rk)⟩,?_⟩))) (ir e2 (λx hx=>h1 x (qZ _ hx)) λx hx=>h2 x (qZ _ hx))
  have e1':t.2=u.2:=e1
  rw[e1'];exact iq _
theorem iu {K:qv}{H:Hp}{t t':Addr}{m:Int}{ts us:List (Addr×List Int)}(a2:H t=some (.tup (ts.map λu =>.ref u.1)))(b2:H t'=some (.tup (us.map λu =>.ref u.1)))(ha:∀u∈ts,H u.1=some (.tup (u.2.map V.int)))(hb:∀u∈us,H u.1=some (.tup (u.2.map V.int)))(e:ts.map (·.2)=us.map (·.2)):Paired (EqS K H 20) [.int m,.ref t] [.int m,.ref t'] :=
 .cons (.inl ⟨m,rfl,rfl⟩) (.cons (.inr (.inr (.inr ⟨t,t',_,_,rfl,rfl,.inl ⟨SqT.of a2,SqT.of b2⟩,ir e ha hb⟩))) .nil)
def mv (m:Int)(p:List Int):List Int:=[p.getD 0 0+m,p.getD 1 0+m]
theorem gQ {ns out:List (List Int)}{t:List Int}(h:ns.Pairwise hU)(p:out.Perm (ns++[t]))(srt:out.Pairwise hU):out.erase t=ns:=by
 have p1:(out.erase t).Perm ns:=by
  have:=p.erase t
  refine this.trans ?_
  have q:(ns++[t]).Perm (t :: ns):=tI
  refine (q.erase t).trans ?_
  rw[wF]
 exact cb p1 (srt.sublist (List.erase_sublist)) h
abbrev jF:Sp:=λvs H Q _=>∃(r s:Addr) (m n:Int) (ts us:List (Addr×List Int)),vs=[.ref r,.ref s]/\Wb H r m ts/\Wb H s n us/\∀(z:Addr) (H':Hp) (ws:List (Addr×List Int)),aF H H'->Wd H' z (m+n) ws->ws.map (·.2)=ts.map (·.2)++(us.map (·.2)).map (mv m)->Q (.ref z) H'
@[irreducible] def gR:Sp:=jF
theorem dq {vs:List V}{H:Hp}{Q:VK}{E:XK}:gR vs H Q E↔jF vs H Q E:=by
 delta gR
 exact uo
section
variable  {P:qX}{w:rO}{K:qv}{mg:Str->Option qw}{base:Heap}{f T:Addr}{fd:sA}
theorem dJ:aT ["one", "other", "moved"] ["one", "other"] (ao cF):=⟨rfl,rfl,rfl,by decide +kernel,rfl,by decide +kernel,by decide +kernel⟩
theorem cI:(["tie", "one"]:List Str).Nodup:=by decide +kernel
theorem gS (F:Fun K "side_by_side" "side_by_side" cF f fd)(B:Blt mg)(C:Cst mg):bu P w K mg base CX0 1 f fd ["one", "other"] gR:=by
 refine F.ok dJ (λvs H Q E h =>?_) (λcdv A outer s H vs Q E hr h =>?_)
 ·obtain ⟨_,_,_,_,_,_,rfl,_⟩:=dq.mp h
  rfl
 obtain ⟨r,s2,m,n,ts,us,rfl,W,U,q⟩:=dq.mp h
 refine ⟨_,(@ai _ _ _ _ _ (eY (i:=2) ["tie", "one"] [none,some 0] rfl dJ.nd rfl rfl (@dP _ _ _ _ (@aB _ _ _ _ _ _ _ aD (pv 1) ah (λ_ _=>rfl))) rfl (λ_ _ _ _ _=>(aW (i:=0) cI rfl (Or.inl rfl))) (λ_ _ _ _ _=>dX) (λ_ _ _ _ _=>(@aO _ _ _ _ _ (@aa _ _ _ _ _ (@aN _ _ _ _ _ _ _ _ bB (@aB _ _ _ _ _ _ _ (bH (K:=K)) (pv 0) ah (λ_ _=>rfl)) (@aB _ _ _ _ _ _ _ (bH (K:=K)) (pv 1) ah (λ_ _=>rfl))) (@aa _ _ _ _ _ (@aN _ _ _ _ _ _ _ _ bB (@aB _ _ _ _ _ _ _ (bH (K:=K)) (pv 0) ah (λ_ _=>rfl)) (@aB _ _ _ _ _ _ _ (bH (K:=K)) (pv 1) ah (λ_ _=>rfl))) ae rfl) rfl))))
  (@ak _ _ _ (@aH _ _ _ _ (@aO _ _ _ _ _ (@aa _ _ _ _ _ (@aN _ _ _ _ _ _ _ _ bB (@aB _ _ _ _ _ _ _ aD (pv 0) ah (λ_ _=>rfl)) (@aB _ _ _ _ _ _ _ aD (pv 1) ah (λ_ _=>rfl))) (@aa _ _ _ _ _ (@aN _ _ _ _ _ _ _ _ cE (@aB _ _ _ _ _ _ _ aD (pv 0) ah (λ_ _=>rfl)) (aE aA rfl B.b_tuple bp (@aa _ _ _ _ _ (pv 2) ae rfl))) ae rfl) rfl))))),?_⟩
 obtain ⟨t,e1,e2⟩:=W.at'
 obtain ⟨t2,f1,f2⟩:=U.at'
 have lW:=W.len
 have lU:=U.len
 refine ⟨_,rfl,s2,_,1,_,rfl,rfl,SqT.of f1,rfl,t2,rfl,⟨_,SqT.of f2⟩,cN (xs:=us.map λu =>.ref u.1) (λi ys H'=>aF H H'/\∃ws,fv H' ys ws/\ws.map (·.2)=(us.take i).map λu=>mv m u.2) ⟨aF.refl _,[],⟨rfl,λu hu=>by cases hu⟩,rfl⟩ (by rw[qu];exact small (by lia)) (λi ys H' _ z=>SqT.of (z.1 _ _ f2)) ?_ ?_⟩
 ·rintro i x ys H3 hx hy ⟨s3,ws,tu,eu⟩ R1 R0 r1 r0
  obtain ⟨u,eu',rfl⟩:=item hx
  have hu:=s3 _ _ (U.tup u (qV eu'))
  obtain ⟨a,b,e3,_⟩:=U.pr u (qV eu')
  rw[e3] at hu
  have e13:=s3 _ _ e1
  refine bC ⟨_,rfl,u.1,_,0,_,rfl,rfl,SqT.of hu,rfl,_,rfl,r,_,0,_,rfl,rfl,SqT.of e13,rfl,_,_,rfl,rfl,_,rfl,u.1,_,1,_,rfl,rfl,SqT.of hu,rfl,_,rfl,r,_,0,_,rfl,rfl,SqT.of e13,rfl,_,_,rfl,rfl,(by show 2<=qD;decide),λy hy2=>r1 _ _ ⟨s3.trans (af hy2 _),ws++[(y,[a+m,b+m])],tu.add hy2 _,?_⟩⟩
  rw[qQ,eu,sR,eu',qQ]
  congr 1
  show [[a+m,b+m]]=[mv m u.2]
  rw[e3];rfl
 ·rintro ys H3 hy ⟨s3,ws,tu,eu⟩ l hl
  rw[qu,rA (qz _)] at eu
  have g1:=af hl (.lst ys)
  have el:upd H3 l (.lst ys) l=some (.lst (ws.map λu =>.ref u.1)):=by rw[ag,tu.1]
  have tu1:=tu.same g1
  have s4:=s3.trans g1
  generalize upd H3 l (.lst ys)=H4 at g1 el tu1 s4
  have lw:ws.length=us.length:=by have:=congrArg List.length eu;rwa [qu,qu] at this
  have e14:=s4 _ _ e1
  have e24:=s4 _ _ e2
  have f14:=s4 _ _ f1
  refine ⟨_,rfl,r,_,0,_,rfl,rfl,SqT.of e14,rfl,_,rfl,s2,_,0,_,rfl,rfl,SqT.of f14,rfl,_,_,rfl,rfl,_,rfl,r,_,1,_,rfl,rfl,SqT.of e14,rfl,_,rfl,l,_,rfl,.inl ⟨SqL.of el,λl2 hl2 =>?_⟩⟩
  have g2:=af hl2 (.tup (ws.map λu=>V.ref u.1))
  refine ⟨t,l2,_,_,rfl,rfl,g2 _ _ e24,ag,by rw[qu,qu];exact small (by lia),λp H5 s5 ep=>⟨(by show 2<=qD;decide),λz hz =>?_⟩⟩
  have g6:=af hz (.tup [.int (m+n),.ref p])
  have s6:=((s4.trans g2).trans s5).trans g6
  refine q z _ (ts++ws) s6 ⟨⟨p,ag,by rw[qQ];exact g6 _ _ ep⟩,λu hu =>?_,λu hu =>?_,by rw[qC];lia⟩ ?_
  ·rcases qH.mp hu with z' | z'
   ·exact s6 _ _ (W.tup u z')
   ·exact g6 _ _ (s5 _ _ (g2 _ _ (tu1.2 u z')))
  ·rcases qH.mp hu with z' | z'
   ·obtain ⟨a,b,e3,_⟩:=W.pr u z'
    rw[e3];rfl
   ·have:u.2∈us.map λu=>mv m u.2:=by rw[<- eu];exact tS z'
    obtain ⟨v,_,e⟩:=sj.mp this
    rw[<- e];rfl
  ·rw[qQ,eu,uc];rfl
end
abbrev iw:Sp:=λvs H Q _=>∃(r:Addr) (m:Nat),vs=[.ref r,.int m]/\Lf r H/\m<=100/\∀(l:Addr) (os:List Int) (H':Hp),H l=none->SB r H H'->Lf r H'->H' l=some (.lst (os.map V.int))->os.length=m->(∀v∈os,0<=v/\v<(m:Int))->Q (.ref l) H'
@[irreducible] def eK:Sp:=iw
theorem cJ {vs:List V}{H:Hp}{Q:VK}{E:XK}:eK vs H Q E↔iw vs H Q E:=by
 delta eK
 exact uo
section
variable  {P:qX}{w:rO}{K:qv}{mg:Str->Option qw}{base:Heap}{f T:Addr}{fd:sA}
theorem fw:aT ["left", "many", "order", "place"] ["left", "many"] (ao gK):=⟨rfl,rfl,rfl,by decide +kernel,rfl,by decide +kernel,by decide +kernel⟩
theorem lV (F:Fun K "_law_order" "_law_order" gK f fd)(B:Blt mg)(cLNext:Cal P w K mg base 1 "_law_next" ["left", "many"] cw)(C:Cst mg):bu P w K mg base CX0 2 f fd ["left", "many"] eK:=by
 refine F.ok fw (λvs H Q E h =>?_) (λcdv A outer s H vs Q E hr h =>?_)
 ·obtain ⟨_,_,rfl,_⟩:=cJ.mp h
  rfl
 obtain ⟨r,m,rfl,lf,m1,q⟩:=cJ.mp h
 refine ⟨_,(@ai _ _ _ _ _ (@aI _ _ 2 _ _ _ _ fw.nd rfl (Or.inl rfl) (@bV _ _ _ _ ae) rfl (by first | exact .inl rfl | exact .inr rfl | assumption))
  (@ai _ _ _ _ _ (@eO _ _ _ _ _ _ _ _ uC rfl (bY rfl B.b_range (@aa _ _ _ _ _ (pv 1) ae rfl)) (aW (i:=3) fw.nd rfl (Or.inl rfl))
   (@ak _ _ _ (gp (kG uD PySem.F.slot_list_insert PySem.F.type_list_insert jS (pv 2) (@aa _ _ _ _ _ (av cLNext hr (by decide) rfl (@aa _ _ _ _ _ (pv 0) (@aa _ _ _ _ _ (@aN _ _ _ _ _ _ _ _ bB (aj bD rfl B.b_len o3 (@aa _ _ _ _ _ (pv 2) ae rfl)) ah) ae rfl) rfl)) (@aa _ _ _ _ _ (pv 3) ae rfl) rfl)))) (λ_=>rfl))
  (@ak _ _ _ (@aH _ _ _ _ (pv 2))))),?_⟩
 refine ⟨(by show 0<=qD;decide),λl hl =>?_⟩
 have np:l≠r:=lf.ne hl
 have b1:=SB.new (r:=r) hl (.lst [])
 have el:upd H l (.lst []) l=some (.lst (([]:List Int).map V.int)):=ag
 have lf1:Lf r (upd H l (.lst [])):=lf.same (af hl _)
 generalize upd H l (.lst [])=H1 at b1 el lf1
 let W0:Nat->St->Hp->Prop:=λk σ H'=>(∃c3,σ=[some (.ref r),some (.int m),some (.ref l),c3])/\SB r H H'/\Lf r H'/\∃os:List Int,H' l=some (.lst (os.map V.int))/\os.length=k/\∀v∈os,0<=v/\v<(k:Int)
 refine ⟨_,rfl,(m:Int),rfl,by lia,by lia,dQ W0 ⟨⟨_,rfl⟩,b1,lf1,[],el,rfl,λv hv=>by cases hv⟩ ?_ ?_⟩
 ·rintro k σ H2 hk ⟨⟨c3,rfl⟩,b2,lf2,os,eo,lo,ro⟩
  rw[tM] at hk
  refine ⟨_,rfl,.inl ⟨rfl,_,SqL.of eo⟩,_,rfl,_,rfl,l,_,rfl,.inl (SqL.of eo),_,_,rfl,rfl,?_⟩
  rw[qu]
  refine de lf2 (by lia) (by lia) λd H3 d0 d1 b3 lf3 =>?_
  obtain ⟨n,rfl⟩:∃n:Nat,d=n:=⟨d.toNat,by lia⟩
  have eo3:=b3 _ _ np eo
  refine ⟨_,rfl,l,_,(n:Int),_,rfl,rfl,eo3,by lia,by rw[qu];lia,by rw[qu];exact dW (by lia),?_⟩
  have bb:SB r H (upd H3 l (.lst ((os.map V.int).take (n:Int).toNat++V.int (0+(k:Int)) :: (os.map V.int).drop (n:Int).toNat))):=λc u nc e=>by
   rw[az (ax e hl)]
   exact b3 _ _ nc (b2 _ _ nc e)
  refine ⟨⟨_,rfl⟩,bb,?_,os.take n++(k:Int) :: os.drop n,?_,?_,λv hv =>?_⟩
  ·obtain ⟨x,ex⟩:=lf3
   exact ⟨x,by rw[az (uv np)];exact ex⟩
  ·have e0:(0+(k:Int))=k:=by lia
   rw[ag,e0,tM,qQ,rz,vN,wZ]
  ·rw[qC,rG,rX,rY];lia
  ·rcases qH.mp hv with z | z
   ·have:=ro v (sI z);lia
   ·rcases rU.mp z with z | z
    ·subst z;lia
    ·have:=ro v (sP z);lia
 ·rintro σ H2 ⟨⟨c3,rfl⟩,b2,lf2,os,eo,lo,ro⟩
  rw[tM] at lo ro
  exact ⟨_,rfl,q l os H2 hl b2 lf2 eo lo ro⟩
end
theorem fZ {vs:List V}{H:Hp}{Q:VK}{E:XK}:dH vs H Q E↔∃a b:Int,vs=[.int a,.int b]/\∀t,H t=none->Q (.ref t) (upd H t (.tup ((nrm a b).map V.int))):=uo
section
variable  {P:qX}{w:rO}{K:qv}{mg:Str->Option qw}{base:Heap}{f T:Addr}{fd:sA}
theorem pe:aT ["one", "other"] ["one", "other"] (ao lE):=⟨rfl,rfl,rfl,by decide +kernel,rfl,by decide +kernel,by decide +kernel⟩
theorem pf (F:Fun K "_law_tie" "_law_tie" lE f fd)(B:Blt mg)(C:Cst mg):bu P w K mg base CX0 1 f fd ["one", "other"] dH:=by
 refine F.ok pe (λvs H Q E h =>?_) (λcdv A outer s H vs Q E hr h =>?_)
 ·obtain ⟨_,_,rfl,_⟩:=fZ.mp h
  rfl
 obtain ⟨a,b,rfl,q⟩:=fZ.mp h
 refine ⟨_,(@ak _ _ _ (@aH _ _ _ _ (@aO _ _ _ _ _ (@aa _ _ _ _ _ (aj (b7 rfl) rfl B.b_min fm (@aa _ _ _ _ _ (pv 0) (@aa _ _ _ _ _ (pv 1) ae rfl) rfl)) (@aa _ _ _ _ _ (aj (dS rfl) rfl B.b_max iX (@aa _ _ _ _ _ (pv 0) (@aa _ _ _ _ _ (pv 1) ae rfl) rfl)) ae rfl) rfl)))),?_⟩
 exact ⟨_,rfl,_,rfl,_,_,rfl,_,rfl,_,rfl,_,_,rfl,(by show 2<=qD;decide),λt ht=>q t ht⟩
end
open PySem L2
abbrev jG:Sp:=λvs H Q _=>∃(wy:Int) (r:Addr) (m a b:Int) (ts:List (Addr×List Int)),vs=[.int wy,.ref r,.int a,.int b]/\Wb H r m ts/\((wy=0/\(0<=a/\a<m/\0<=b/\b<m)/\∀H',aF H H'->Q (.str (if ts.length<200 then "told" else "many")) H')\/(wy=1/\nrm a b∉ts.map (·.2)/\∀H',aF H H'->Q (.str "no tie") H'))
@[irreducible] def gU:Sp:=jG
theorem bS {vs:List V}{H:Hp}{Q:VK}{E:XK}:gU vs H Q E↔jG vs H Q E:=by
 delta gU
 exact uo
theorem jH {a1 a2 a3 a4 a5 a6 a7 a8 a9:Addr}:∀c∈([.ref a1,.ref a2,.ref a3,.ref a4,.ref a5,.ref a6,.ref a7,.ref a8,.ref a9]:List V),ic c=true:=by
 intro c hc
 simp only[rU,List.not_mem_nil,or_false] at hc
 rcases hc with rfl | rfl | rfl | rfl | rfl | rfl | rfl | rfl | rfl <;> rfl
section
variable  {P:qX}{w:rO}{K:qv}{mg:Str->Option qw}{base:Heap}{f:Addr}{fd:sA}{c_WebError c_BadWeb c_NoStep c_NoText c_TooMany c_NoTie c_NoRing c_NotClear c_NotThree c_BadBoard c_NoRow c_NoBack:Addr}
theorem c0:aT ["way", "web", "one", "other", "told", "e", "odd"] ["way", "web", "one", "other"] (ao iW):=⟨rfl,rfl,rfl,by decide +kernel,rfl,by decide +kernel,by decide +kernel⟩
theorem nj (F:Fun K "_law_kind" "_law_kind" iW f fd)(B:Blt mg)(Z:Exs K mg c_WebError c_BadWeb c_NoStep c_NoText c_TooMany c_NoTie c_NoRing c_NotClear c_NotThree c_BadBoard c_NoRow c_NoBack)(xPut:iV P w K mg base 2 "put_tie" ["web", "one", "other"] (ft c_TooMany))(xLess:iV P w K mg base 3 "less_tie" ["web", "one", "other"] (dI c_NoTie))(C:Cst mg):bu P w K mg base CX0 4 f fd ["way", "web", "one", "other"] gU:=by
 refine F.ok c0 (λvs H Q E h =>?_) (λcdv A outer s H vs Q E hr h =>?_)
 ·obtain ⟨_,_,_,_,_,_,rfl,_⟩:=bS.mp h
  rfl
 obtain ⟨wy,r,m,a,b,ts,rfl,W,cs⟩:=bS.mp h
 refine ⟨_,(@ai _ _ _ _ _ (@aI _ _ 4 _ _ _ _ c0.nd rfl (Or.inl rfl) cg rfl (by first | exact .inl rfl | exact .inr rfl | assumption))
  (@ai _ _ _ _ _ (oW (i:=5) (n := "e") (x := "WebError") rfl rfl c0.nd rfl rfl rfl Z.x_WebError (gJ (oV (aU eR (pv 0) ah (aY _)) (gJ (ia xPut hr (by decide) rfl (@aa _ _ _ _ _ (pv 1) (@aa _ _ _ _ _ (pv 2) (@aa _ _ _ _ _ (pv 3) ae rfl) rfl) rfl))) (gJ (ia xLess hr (by decide) rfl (@aa _ _ _ _ _ (pv 1) (@aa _ _ _ _ _ (pv 2) (@aa _ _ _ _ _ (pv 3) ae rfl) rfl) rfl))))) (λ_=>(@ai _ _ _ _ _ (@aI _ _ 4 _ _ _ _ c0.nd rfl (Or.inl rfl) cg rfl (by first | exact .inl rfl | exact .inr rfl | assumption))
    (@ai _ _ _ _ _ (@aI _ _ 6 _ _ _ _ c0.nd rfl (Or.inl rfl) (aj (j6 (K:=K)) rfl B.b_isinstance aq (@aa _ _ _ _ _ (pv 5) (@aa _ _ _ _ _ (@aO _ _ _ _ _ (@aa _ _ _ _ _ (bq (v :=.ref c_BadBoard) rfl Z.x_BadBoard rfl) (@aa _ _ _ _ _ (bq (v :=.ref c_BadWeb) rfl Z.x_BadWeb rfl) (@aa _ _ _ _ _ (bq (v :=.ref c_NoBack) rfl Z.x_NoBack rfl) (@aa _ _ _ _ _ (bq (v :=.ref c_NoRing) rfl Z.x_NoRing rfl) (@aa _ _ _ _ _ (bq (v :=.ref c_NoRow) rfl Z.x_NoRow rfl) (@aa _ _ _ _ _ (bq (v :=.ref c_NoStep) rfl Z.x_NoStep rfl) (@aa _ _ _ _ _ (bq (v :=.ref c_NoText) rfl Z.x_NoText rfl) (@aa _ _ _ _ _ (bq (v :=.ref c_NotClear) rfl Z.x_NotClear rfl) (@aa _ _ _ _ _ (bq (v :=.ref c_NotThree) rfl Z.x_NotThree rfl) ae rfl) rfl) rfl) rfl) rfl) rfl) rfl) rfl) rfl)) ae rfl) rfl)) rfl (by first | exact .inl rfl | exact .inr rfl | assumption))
    (@ak _ _ _ (@bo _ _ _ _ _ _ _ _ (PW.pt (dN (bA (aj (dF (K:=K)) rfl B.b_isinstance aq (@aa _ _ _ _ _ (pv 5) (@aa _ _ _ _ _ (bt (v :=.ty "ValueError") rfl B.b_ValueError fD rfl) ae rfl) rfl))) (dN (bU (bA (pv 6))) (du (aU gX (aj (dF (K:=K)) rfl B.b_isinstance aq (@aa _ _ _ _ _ (pv 5) (@aa _ _ _ _ _ (bq (v :=.ref c_NoTie) rfl Z.x_NoTie rfl) ae rfl) rfl)) (aj (dF (K:=K)) rfl B.b_isinstance aq (@aa _ _ _ _ _ (pv 5) (@aa _ _ _ _ _ (bq (v :=.ref c_TooMany) rfl Z.x_TooMany rfl) ae rfl) rfl)) (aY _)))))) (@ak _ _ _ (@aI _ _ 4 _ _ _ _ c0.nd rfl (Or.inl rfl) (@aB _ _ _ _ _ _ _ (eZ (K:=K)) (@bV _ _ _ _ (@aa _ _ _ _ _ cg (@aa _ _ _ _ _ cg ae rfl) rfl)) (aE jL rfl B.b_int oZ (@aa _ _ _ _ _ (aj (dF (K:=K)) rfl B.b_isinstance aq (@aa _ _ _ _ _ (pv 5) (@aa _ _ _ _ _ (bq (v :=.ref c_NoTie) rfl Z.x_NoTie rfl) ae rfl) rfl)) ae rfl)) (λ_ _=>rfl)) rfl (by first | exact .inl rfl | exact .inr rfl | assumption))) aM))))))
  (@ak _ _ _ (@aH _ _ _ _ (pv 4))))),?_⟩
 rcases cs with ⟨rfl,rg,q⟩ | ⟨rfl,nm,q⟩
 ·refine ⟨_,rfl,rfl,_,rfl,bC ⟨_,rfl,_,rfl,_,rfl,cy.mpr ⟨r,m,a,b,ts,rfl,W,rg,λl z us H1 s1 _ _ _ =>?_,λl =>?_⟩⟩⟩
  ·rw[if_pos l] at q
   exact ⟨_,rfl,q H1 s1⟩
  ·rw[if_neg (by lia)] at q
   refine ⟨Z.t_m,λea he =>?_⟩
   have s1:=af he (dZ ea (.ref c_TooMany))
   have ee:upd H ea (dZ ea (.ref c_TooMany)) ea=some (dZ ea (.ref c_TooMany)):=ag
   generalize upd H ea (dZ ea (.ref c_TooMany))=H1 at s1 ee
   refine ⟨_,rfl,(by show 9<=qD;decide),λtp ht =>?_⟩
   have s2:=af ht (.tup [.ref c_BadBoard,.ref c_BadWeb,.ref c_NoBack,.ref c_NoRing,.ref c_NoRow,.ref c_NoStep,.ref c_NoText,.ref c_NotClear,.ref c_NotThree])
   have ee2:=s2 _ _ ee
   refine ⟨ea,c_TooMany,tp,_,false,rfl,ee2,Z.t_i,ag,jH,Z.t_odd,?_⟩
   refine ⟨_,rfl,ea,c_TooMany,_,true,rfl,ee2,Z.t_i,rfl,Z.t_v,_,rfl,bC ⟨_,rfl,_,rfl,bC ⟨_,rfl,ea,c_TooMany,_,false,rfl,ee2,Z.t_i,rfl,Z.t_n,_,rfl,ea,c_TooMany,_,true,rfl,ee2,Z.t_i,rfl,Z.t_t,rfl,_,rfl,bC ?_⟩⟩⟩
   refine ⟨(by show 2<=qD;decide),λl2 hl2 =>?_⟩
   have s3:=af hl2 (.lst [.str "many",.str "no tie"])
   exact ⟨_,rfl,ea,c_TooMany,_,false,rfl,s3 _ _ ee2,Z.t_i,rfl,Z.t_n,.inr ⟨false,rfl,l2,_,_,_,rfl,rfl,SqL.of ag,rfl,_,rfl,q _ ((s1.trans s2).trans s3)⟩⟩
 ·refine ⟨_,rfl,rfl,_,rfl,bj ⟨_,rfl,_,rfl,_,rfl,bT.mpr ⟨r,m,a,b,ts,rfl,W,λhm=>absurd hm nm,λ_ H0 s0 =>?_⟩⟩⟩
  refine ⟨Z.n_m,λea he =>?_⟩
  have s1:=s0.trans (af he (dZ ea (.ref c_NoTie)))
  have ee:upd H0 ea (dZ ea (.ref c_NoTie)) ea=some (dZ ea (.ref c_NoTie)):=ag
  generalize upd H0 ea (dZ ea (.ref c_NoTie))=H1 at s1 ee
  refine ⟨_,rfl,(by show 9<=qD;decide),λtp ht =>?_⟩
  have s2:=af ht (.tup [.ref c_BadBoard,.ref c_BadWeb,.ref c_NoBack,.ref c_NoRing,.ref c_NoRow,.ref c_NoStep,.ref c_NoText,.ref c_NotClear,.ref c_NotThree])
  have ee2:=s2 _ _ ee
  refine ⟨ea,c_NoTie,tp,_,false,rfl,ee2,Z.n_i,ag,jH,Z.n_odd,?_⟩
  refine ⟨_,rfl,ea,c_NoTie,_,true,rfl,ee2,Z.n_i,rfl,Z.n_v,_,rfl,bC ⟨_,rfl,_,rfl,bC ⟨_,rfl,ea,c_NoTie,_,true,rfl,ee2,Z.n_i,rfl,Z.n_n,_,rfl,ea,c_NoTie,_,false,rfl,ee2,Z.n_i,rfl,Z.n_t,rfl,_,rfl,bC ?_⟩⟩⟩
  refine ⟨(by show 2<=qD;decide),λl2 hl2 =>?_⟩
  have s3:=af hl2 (.lst [.str "many",.str "no tie"])
  exact ⟨_,rfl,ea,c_NoTie,_,true,rfl,s3 _ _ ee2,Z.n_i,rfl,Z.n_n,.inr ⟨true,rfl,l2,_,_,_,rfl,rfl,SqL.of ag,rfl,_,rfl,q _ ((s1.trans s2).trans s3)⟩⟩
end
open PySem L2
abbrev f9:Sp:=λvs H Q _=>∃(r b:Addr) (m:Int) (ts:List (Addr×List Int)),vs=[.ref r,.ref b]/\Lf r H/\Wb H b m ts/\Sd ts/\0<m/\m<=1000/\ts.length<=100/\∀H',SB r H H'->Lf r H'->Q (.bl true) H'
@[irreducible] def dM:Sp:=f9
theorem cz {vs:List V}{H:Hp}{Q:VK}{E:XK}:dM vs H Q E↔f9 vs H Q E:=by
 delta dM
 exact uo
theorem kf {X:Cx}{body:List Stmt}{D0:Ends}{σ0:St}{H0:Hp}(sts:List Stmt)(M:St->Hp->Prop)(h:∃t2,PSs X sts t2/\∀σ H,M σ H->t2 D0 σ H)
  (g:∀t2,PSs X sts t2->(∀σ H,M σ H->t2 D0 σ H)->∃t,PSs X body t/\t D0 σ0 H0):∃t,PSs X body t/\t D0 σ0 H0:=by
 obtain ⟨t2,p2,m2⟩:=h
 exact g t2 p2 m2
theorem gc:∀(l:List (List Int)) (a:List Int),l.erase a=l.take (l.idxOf a)++l.drop (l.idxOf a+1)
 | [],a=>rfl
 | x :: l,a=>by
  by_cases e:x=a
  ·subst e
   rw[wF,uZ]
   rfl
  ·rw[wB (by simpa using e),xI,beq_false_of_ne e,cond_false,List.take_succ_cons,List.drop_succ_cons,xA,gc l a]
theorem ph (xs:List V){k:Nat}(h:k<=xs.length):dg xs none (some (k:Int))=xs.take k:=by
 unfold dg HT.sIx
 simp only[show ¬ ((k:Int)<0) by lia,if_false,tM,xr,uM,show min k xs.length=k by lia]
theorem pk (xs:List V){k:Nat}(h:k<=xs.length):dg xs (some (k:Int)) none=xs.drop k:=by
 unfold dg HT.sIx
 simp only[show ¬ ((k:Int)<0) by lia,if_false,tM,show min k xs.length=k by lia]
 exact rA (by rw[rY];exact qz _)
section
variable  {P:qX}{w:rO}{K:qv}{mg:Str->Option qw}{base:Heap}{f T:Addr}{fd:sA}
theorem bh:aT ["left", "web", "one", "other", "tie", "more", "first", "second", "at", "ties", "full"] ["left", "web"] (ao dG):=⟨rfl,rfl,rfl,by decide +kernel,rfl,by decide +kernel,by decide +kernel⟩
theorem kg (F:Fun K "_law_one_tie" "_law_one_tie" dG f fd)(B:Blt mg)(cLNext:Cal P w K mg base 1 "_law_next" ["left", "many"] cw)(cLTie:Cal P w K mg base 1 "_law_tie" ["one", "other"] dH)(cLKind:Cal P w K mg base 4 "_law_kind" ["way", "web", "one", "other"] gU)(cLSame:Cal P w K mg base 4 "_law_same" ["found", "due"] (di 3))(cPutTie:Cal P w K mg base 2 "put_tie" ["web", "one", "other"] ik)(cLessTie:Cal P w K mg base 3 "less_tie" ["web", "one", "other"] fu)(C:Cst mg):bu P w K mg base CX0 5 f fd ["left", "web"] dM:=by
 refine F.ok bh (λvs H Q E h =>?_) (λcdv A outer s H vs Q E hr h =>?_)
 ·obtain ⟨_,_,_,_,rfl,_⟩:=cz.mp h
  rfl
 obtain ⟨r,b,m,ts,rfl,lf,W,sd,m0,m1,lt,q⟩:=cz.mp h
 refine kf ((bz dG).drop 6) (λσ H'=>∃(o1 o2:Int) (x:Addr) (c5 c6 c7 c8:Option V),σ=[some (.ref r),some (.ref b),some (.int o1),some (.int o2),some (.ref x),c5,c6,c7,c8,none,none]/\(0<=o1/\o1<m/\0<=o2/\o2<m)/\Wb H' b m ts/\H' x=some (.tup ((nrm o1 o2).map V.int))/\∀H2,aF H' H2->Q (.bl true) H2) ?hT λtT pT mT =>?gT
 case hT =>
  refine ⟨_,(@ai _ _ _ _ _ (@aI _ _ 9 _ _ _ _ bh.nd rfl (Or.inl rfl) (eU mq (aj ba rfl B.b_sorted bG (@aa _ _ _ _ _ (@aN _ _ _ _ _ _ _ _ mS (@aN _ _ _ _ _ _ _ _ cE (@aB _ _ _ _ _ _ _ aD (pv 1) ah (λ_ _=>rfl)) (@aO _ _ _ _ _ (@aa _ _ _ _ _ (pv 4) ae rfl))) ah) ae rfl)) gu (gv ah)) rfl (by first | exact .inl rfl | exact .inr rfl | assumption))
  (@ai _ _ _ _ _ (@aI _ _ 10 _ _ _ _ bh.nd rfl (Or.inl rfl) (@aO _ _ _ _ _ (@aa _ _ _ _ _ (@aB _ _ _ _ _ _ _ aD (pv 1) ah (λ_ _=>rfl)) (@aa _ _ _ _ _ (aE aA rfl B.b_tuple bp (@aa _ _ _ _ _ (aj ba rfl B.b_sorted bG (@aa _ _ _ _ _ (@aN _ _ _ _ _ _ _ _ i9 (pv 9) (@bV _ _ _ _ (@aa _ _ _ _ _ (pv 4) ae rfl))) ae rfl)) ae rfl)) ae rfl) rfl)) rfl (by first | exact .inl rfl | exact .inr rfl | assumption))
  (@ai _ _ _ _ _ (@bo _ _ _ _ _ _ _ _ (aU gX (av cLKind hr (by decide) rfl (@aa _ _ _ _ _ ah (@aa _ _ _ _ _ (@aO _ _ _ _ _ (@aa _ _ _ _ _ (@aB _ _ _ _ _ _ _ aD (pv 1) ah (λ_ _=>rfl)) (@aa _ _ _ _ _ (aE aA rfl B.b_tuple bp (@aa _ _ _ _ _ (pv 9) ae rfl)) ae rfl) rfl)) (@aa _ _ _ _ _ (pv 2) (@aa _ _ _ _ _ (pv 3) ae rfl) rfl) rfl) rfl)) cg (aY _)) (@ak _ _ _ (@aH _ _ _ _ cC)) aM)
  (@ak _ _ _ (@aH _ _ _ _ (dO (dv (mZ hr) (av cPutTie hr (by decide) rfl (@aa _ _ _ _ _ (@aO _ _ _ _ _ (@aa _ _ _ _ _ (@aB _ _ _ _ _ _ _ aD (pv 1) ah (λ_ _=>rfl)) (@aa _ _ _ _ _ (aE aA rfl B.b_tuple bp (@aa _ _ _ _ _ (pv 9) ae rfl)) ae rfl) rfl)) (@aa _ _ _ _ _ (pv 2) (@aa _ _ _ _ _ (pv 3) ae rfl) rfl) rfl)) (pv 10) (aY _)) (gn (dv eR (av cLKind hr (by decide) rfl (@aa _ _ _ _ _ ah (@aa _ _ _ _ _ (pv 10) (@aa _ _ _ _ _ (pv 3) (@aa _ _ _ _ _ (pv 2) ae rfl) rfl) rfl) rfl)) cg (aY _))))))))),?_⟩
  rintro σ H1 ⟨o1,o2,x,c5,c6,c7,c8,rfl,⟨a0,am,b0,bm⟩,W1,ex,q⟩
  obtain ⟨t,e1,e2⟩:=W1.at'
  have nr:=fq a0 am b0 bm
  refine ⟨_,rfl,b,_,1,_,rfl,rfl,SqT.of e1,rfl,_,rfl,(by show 1<=qD;decide),λy hy =>?_⟩
  have s2:=af hy (.tup [.ref x])
  have ey:upd H1 y (.tup [.ref x]) y=some (.tup [.ref x]):=ag
  generalize upd H1 y (.tup [.ref x])=H2 at s2 ey
  refine ⟨t,y,_,_,rfl,rfl,s2 _ _ e2,ey,by rw[qu];exact small (by show ts.length+1<=1000;lia),λp H3 s3 ep =>?_⟩
  have ep:H3 p=some (.tup ((ts++[(x,nrm o1 o2)]).map λu =>.ref u.1)):=by rw[qQ];exact ep
  have s13:=s2.trans s3
  have tu3:∀u∈ts++[(x,nrm o1 o2)],H3 u.1=some (.tup (u.2.map V.int)):=λu hu=>by
   rcases qH.mp hu with z | z
   ·exact s13 _ _ (W1.tup u z)
   ·obtain rfl:u=(x,nrm o1 o2):=by simpa using z
    exact s13 _ _ ex
  have pr3:∀u∈ts++[(x,nrm o1 o2)],∃c d:Int,u.2=[c,d]/\0<=c/\c<=d/\d<m:=λu hu=>by
   rcases qH.mp hu with z | z
   ·exact W1.pr u z
   ·obtain rfl:u=(x,nrm o1 o2):=by simpa using z
    exact nr
  have l3:(ts++[(x,nrm o1 o2)]).length=ts.length+1:=by rw[qC];rfl
  generalize ts++[(x,nrm o1 o2)]=row at ep tu3 pr3 l3
  refine ⟨p,200,_,rfl,rfl,ep,by decide,by decide,by rw[qu,l3];show (ts.length+1)*200<=qD;exact rn (Nat.mul_le_mul_right _ (show ts.length+1<=101 by lia)) (by decide),λz =>?_,λ_ l hl =>?_⟩
  ·have:=congrArg List.length z
   rw[qu,l3] at this
   simp at this
  have em:(rB (200:Int).toNat (row.map λu=>V.ref u.1)).flatten=((rB 200 row).flatten).map λu=>V.ref u.1:=by
   rw[List.map_flatten,w4];rfl
  rw[em]
  have mr:∀u∈(rB 200 row).flatten,u∈row:=λu hu=>by
   obtain ⟨l,hl,hu⟩:=List.mem_flatten.mp hu
   rw[List.eq_of_mem_replicate hl] at hu
   exact hu
  have lr:(rB 200 row).flatten.length=200*(ts.length+1):=by
   rw[List.length_flatten,w4,List.sum_replicate_nat,l3]
  generalize (rB 200 row).flatten=big at mr lr
  have s4:=af hl (.tup (big.map λu=>V.ref u.1))
  have el:upd H3 l (.tup (big.map λu=>V.ref u.1)) l=some (.tup (big.map λu=>V.ref u.1)):=ag
  generalize upd H3 l (.tup (big.map λu=>V.ref u.1))=H4 at s4 el
  refine ⟨l,big,rfl,.inr (SqT.of el),λu hu=>⟨SqT.of (s4 _ _ (tu3 u (mr u hu))),λz =>?_⟩,λl5 out hl5 po ps =>?_⟩
  ·obtain ⟨c,d,e,_⟩:=pr3 u (mr u hu)
   rw[z] at e;cases e
  have s5:=af hl5 (.lst (out.map λu=>V.ref u.1))
  have el5:upd H4 l5 (.lst (out.map λu=>V.ref u.1)) l5=some (.lst (out.map λu=>V.ref u.1)):=ag
  generalize upd H4 l5 (.lst (out.map λu=>V.ref u.1))=H5 at s5 el5
  refine ⟨_,rfl,l5,_,rfl,SqL.of el5,λl6 hl6 =>?_⟩
  have lo:=po.length_eq
  have ec:dg (out.map λu=>V.ref u.1) none (some 199)=(out.take 199).map λu=>V.ref u.1:=by
   unfold dg HT.sIx
   simp only[qu,uM,vN]
   congr 1
   have:¬ (199:Int)>((out.length:Nat):Int):=by lia
   simp <;> lia
  rw[ec]
  have ml:∀u∈out.take 199,u∈row:=λu hu=>mr u (po.mem_iff.mp (sI hu))
  have l9:(out.take 199).length=199:=by rw[rX];lia
  generalize out.take 199=o9 at ml l9
  have s6:=af hl6 (.lst (o9.map λu=>V.ref u.1))
  have el6:upd H5 l6 (.lst (o9.map λu=>V.ref u.1)) l6=some (.lst (o9.map λu=>V.ref u.1)):=ag
  generalize upd H5 l6 (.lst (o9.map λu=>V.ref u.1))=H6 at s6 el6
  have s16:=s13.trans (s4.trans (s5.trans s6))
  have tu6:∀u∈o9,H6 u.1=some (.tup (u.2.map V.int)):=λu hu=>s6 _ _ (s5 _ _ (s4 _ _ (tu3 u (ml u hu))))
  have pr6:∀u∈o9,∃c d:Int,u.2=[c,d]/\0<=c/\c<=d/\d<m:=λu hu=>pr3 u (ml u hu)
  have W6:=W1.same s16
  have ex6:=s16 _ _ ex
  have q6:∀H2,aF H6 H2->Q (.bl true) H2:=λH2 s=>q H2 (s16.trans s)
  clear s2 s3 s4 s5 s6 s13 s16 tu3 mr lr ml po ps pr3 l3 el5 el ep ey e1 e2 q W1 ex
  obtain ⟨t6,e1,e2⟩:=W6.at'
  refine ⟨_,rfl,b,_,0,_,rfl,rfl,SqT.of e1,rfl,_,rfl,_,rfl,(by show 1<=qD;decide),λy2 hy2 =>?_⟩
  have s7:=af hy2 (.lst [.ref x])
  have ey2:upd H6 y2 (.lst [.ref x]) y2=some (.lst [.ref x]):=ag
  generalize upd H6 y2 (.lst [.ref x])=H7 at s7 ey2
  refine ⟨l6,y2,_,_,rfl,rfl,SqL.of (s7 _ _ el6),SqL.of ey2,by rw[qu];exact small (by show o9.length+1<=1000;lia),λp2 hp2 =>?_⟩
  have s8:=af hp2 (.lst ((o9.map λu=>V.ref u.1)++[.ref x]))
  have ep2:upd H7 p2 (.lst ((o9.map λu=>V.ref u.1)++[.ref x])) p2=some (.lst ((o9++[(x,nrm o1 o2)]).map λu =>.ref u.1)):=by rw[ag,qQ];rfl
  generalize upd H7 p2 (.lst ((o9.map λu=>V.ref u.1)++[.ref x]))=H8 at s8 ep2
  have s68:=s7.trans s8
  have tu8:∀u∈o9++[(x,nrm o1 o2)],H8 u.1=some (.tup (u.2.map V.int)):=λu hu=>by
   rcases qH.mp hu with z | z
   ·exact s68 _ _ (tu6 u z)
   ·obtain rfl:u=(x,nrm o1 o2):=by simpa using z
    exact s68 _ _ ex6
  have pr8:∀u∈o9++[(x,nrm o1 o2)],∃c d:Int,u.2=[c,d]/\0<=c/\c<=d/\d<m:=λu hu=>by
   rcases qH.mp hu with z | z
   ·exact pr6 u z
   ·obtain rfl:u=(x,nrm o1 o2):=by simpa using z
    exact nr
  refine ⟨p2,o9++[(x,nrm o1 o2)],rfl,.inl (SqL.of ep2),λu hu=>⟨SqT.of (tu8 u hu),λz =>?_⟩,λl9' out2 hl9 po2 ps2 =>?_⟩
  ·obtain ⟨c,d,e,_⟩:=pr8 u hu
   rw[z] at e;cases e
  refine ⟨l9',_,rfl,.inl ⟨SqL.of ag,λl4 hl4=>⟨(by show 2<=qD;decide),λz hz =>?_⟩⟩⟩
  have g1:=af hl9 (.lst (out2.map λu=>V.ref u.1))
  have g2:=af hl4 (.tup (out2.map λu=>V.ref u.1))
  have g3:=af hz (.tup [.int m,.ref l4])
  have s9:=s68.trans (g1.trans (g2.trans g3))
  have WF:Wb (upd (upd (upd H8 l9' (.lst (out2.map λu=>V.ref u.1))) l4 (.tup (out2.map λu=>V.ref u.1))) z (.tup [.int m,.ref l4])) z m out2 :=
   ⟨⟨l4,ag,g3 _ _ ag⟩,λu hu=>g3 _ _ (g2 _ _ (g1 _ _ (tu8 u (po2.mem_iff.mp hu)))),λu hu=>pr8 u (po2.mem_iff.mp hu),by rw[po2.length_eq,qC];show o9.length+1<=200;lia⟩
  have lF:out2.length=200:=by rw[po2.length_eq,qC];show o9.length+1=200;lia
  have sF:Sd out2:=fY ps2
  have pF:(out2.map (·.2)).Perm (o9.map (·.2)++[nrm o1 o2]):=by
   have:=po2.map (·.2)
   rw[qQ] at this
   exact this
  generalize upd (upd (upd H8 l9' (.lst (out2.map λu=>V.ref u.1))) l4 (.tup (out2.map λu=>V.ref u.1))) z (.tup [.int m,.ref l4])=H9 at s9 WF
  clear g1 g2 g3 s68 s7 s8 tu8 pr8 po2 ps2
  have W9:=W6.same s9
  obtain ⟨t9,e19,e29⟩:=W9.at'
  have el9:=s9 _ _ el6
  have mk:∀(Ha:Hp),aF H9 Ha->∀l7,Ha l7=none->∀z7,upd Ha l7 (.tup (o9.map λu=>V.ref u.1)) z7=none->Wb (upd (upd Ha l7 (.tup (o9.map λu=>V.ref u.1))) z7 (.tup [.int m,.ref l7])) z7 m o9/\aF H9 (upd (upd Ha l7 (.tup (o9.map λu=>V.ref u.1))) z7 (.tup [.int m,.ref l7])):=λHa sa l7 hl7 z7 hz7=>by
   have h1:=af hl7 (.tup (o9.map λu=>V.ref u.1))
   have h2:=af hz7 (.tup [.int m,.ref l7])
   have h3:=sa.trans (h1.trans h2)
   exact ⟨⟨⟨l7,ag,h2 _ _ ag⟩,λu hu=>h3 _ _ (s9 _ _ (tu6 u hu)),pr6,by lia⟩,h3⟩
  refine ⟨_,rfl,b,_,0,_,rfl,rfl,SqT.of e19,rfl,_,rfl,l6,_,rfl,.inl ⟨SqL.of el9,λl7 hl7=>⟨(by show 2<=qD;decide),λz7 hz7 =>?_⟩⟩⟩
  obtain ⟨W7,s97⟩:=mk _ (aF.refl _) l7 hl7 z7 hz7
  generalize upd (upd H9 l7 (.tup (o9.map λu=>V.ref u.1))) z7 (.tup [.int m,.ref l7])=Hb at W7 s97
  refine ⟨_,rfl,_,rfl,bS.mpr ⟨0,z7,m,o1,o2,o9,rfl,W7,.inl ⟨rfl,⟨a0,am,b0,bm⟩,λHc sc =>?_⟩⟩⟩
  rw[if_pos (by lia)]
  refine ⟨rfl,_,rfl,fL rfl ?_⟩
  have s9c:=s97.trans sc
  refine ⟨_,rfl,b,_,0,_,rfl,rfl,SqT.of (s9c _ _ e19),rfl,_,rfl,l6,_,rfl,.inl ⟨SqL.of (s9c _ _ el9),λl8 hl8=>⟨(by show 2<=qD;decide),λz8 hz8 =>?_⟩⟩⟩
  obtain ⟨W8,s98⟩:=mk _ s9c l8 hl8 z8 hz8
  generalize upd (upd Hc l8 (.tup (o9.map λu=>V.ref u.1))) z8 (.tup [.int m,.ref l8])=Hd at W8 s98
  refine ⟨_,rfl,_,rfl,d7.mpr ⟨z8,m,o1,o2,o9,rfl,W8,⟨a0,am,b0,bm⟩,by lia,λz10 us He se We sde pme =>?_⟩⟩
  have s9e:=s98.trans se
  have WFe:=WF.same s9e
  obtain ⟨ta,ea1,ea2⟩:=We.at'
  obtain ⟨tb,eb1,eb2⟩:=WFe.at'
  have eq:us.map (·.2)=out2.map (·.2):=cb (pme.trans pF.symm) sde sF
  refine ⟨_,rfl,z10,z,_,_,rfl,rfl,SqT.of ea1,SqT.of eb1,iu ea2 eb2 We.tup WFe.tup eq,_,rfl,bC ?_⟩
  refine ⟨_,rfl,_,rfl,_,rfl,bS.mpr ⟨0,z,m,o2,o1,out2,rfl,WFe,.inl ⟨rfl,⟨b0,bm,a0,am⟩,λHf sf =>?_⟩⟩⟩
  rw[if_neg (by lia)]
  refine ⟨rfl,?_⟩
  rw[decide_eq_true rfl]
  exact q6 _ (s9.trans (s9e.trans sf))
 case gT =>
 refine ⟨_,(@ai _ _ _ _ _ (@aI _ _ 2 _ _ _ _ bh.nd rfl (Or.inl rfl) (av cLNext hr (by decide) rfl (@aa _ _ _ _ _ (pv 0) (@aa _ _ _ _ _ (@aB _ _ _ _ _ _ _ aD (pv 1) ah (λ_ _=>rfl)) ae rfl) rfl)) rfl (by first | exact .inl rfl | exact .inr rfl | assumption))
  (@ai _ _ _ _ _ (@aI _ _ 3 _ _ _ _ bh.nd rfl (Or.inl rfl) (av cLNext hr (by decide) rfl (@aa _ _ _ _ _ (pv 0) (@aa _ _ _ _ _ (@aB _ _ _ _ _ _ _ aD (pv 1) ah (λ_ _=>rfl)) ae rfl) rfl)) rfl (by first | exact .inl rfl | exact .inr rfl | assumption))
  (@ai _ _ _ _ _ (@aI _ _ 4 _ _ _ _ bh.nd rfl (Or.inl rfl) (av cLTie hr (by decide) rfl (@aa _ _ _ _ _ (pv 2) (@aa _ _ _ _ _ (pv 3) ae rfl) rfl)) rfl (by first | exact .inl rfl | exact .inr rfl | assumption))
  (@ai _ _ _ _ _ (@aI _ _ 5 _ _ _ _ bh.nd rfl (Or.inl rfl) (@aO _ _ _ _ _ (@aa _ _ _ _ _ (@aB _ _ _ _ _ _ _ aD (pv 1) ah (λ_ _=>rfl)) (@aa _ _ _ _ _ (aE aA rfl B.b_tuple bp (@aa _ _ _ _ _ (aj ba rfl B.b_sorted bG (@aa _ _ _ _ _ (@aN _ _ _ _ _ _ _ _ cE (@aB _ _ _ _ _ _ _ aD (pv 1) ah (λ_ _=>rfl)) (@aO _ _ _ _ _ (@aa _ _ _ _ _ (pv 4) ae rfl))) ae rfl)) ae rfl)) ae rfl) rfl)) rfl (by first | exact .inl rfl | exact .inr rfl | assumption))
  (@ai _ _ _ _ _ (@eO _ _ _ _ _ _ _ _ uC rfl (@gs _ _ _ _ (@bV _ _ _ _ (@aa _ _ _ _ _ (@aO _ _ _ _ _ (@aa _ _ _ _ _ (pv 2) (@aa _ _ _ _ _ (pv 3) ae rfl) rfl)) (@aa _ _ _ _ _ (@aO _ _ _ _ _ (@aa _ _ _ _ _ (pv 3) (@aa _ _ _ _ _ (pv 2) ae rfl) rfl)) ae rfl) rfl))) (iz rfl (bX (aW (i:=6) bh.nd rfl (Or.inl rfl)) (bX (aW (i:=7) bh.nd rfl (Or.inl rfl)) gq)))
   (@ai _ _ _ _ _ (@bo _ _ _ _ _ _ _ _ (PW.pt (iZ (bU (bA (av cLSame hr (by decide) rfl (@aa _ _ _ _ _ (av cPutTie hr (by decide) rfl (@aa _ _ _ _ _ (pv 1) (@aa _ _ _ _ _ (pv 6) (@aa _ _ _ _ _ (pv 7) ae rfl) rfl) rfl)) (@aa _ _ _ _ _ (pv 5) ae rfl) rfl)))) (gm (bU (bA (av cLSame hr (by decide) rfl (@aa _ _ _ _ _ (av cLessTie hr (by decide) rfl (@aa _ _ _ _ _ (pv 5) (@aa _ _ _ _ _ (pv 6) (@aa _ _ _ _ _ (pv 7) ae rfl) rfl) rfl)) (@aa _ _ _ _ _ (pv 1) ae rfl) rfl))))))) (@ak _ _ _ (@aH _ _ _ _ cC)) aM)
   (@ak _ _ _ (@bo _ _ _ _ _ _ _ _ (PW.pt (dN (aU (iT (hu8 hr)) (pv 4) (@aB _ _ _ _ _ _ _ aD (pv 1) ah (λ_ _=>rfl)) rfl) (du (aU gX (av cLKind hr (by decide) rfl (@aa _ _ _ _ _ ah (@aa _ _ _ _ _ (pv 1) (@aa _ _ _ _ _ (pv 6) (@aa _ _ _ _ _ (pv 7) ae rfl) rfl) rfl) rfl)) cg (aY _))))) (@ak _ _ _ (@aH _ _ _ _ cC)) aM))) (λ_=>rfl))
  (@ai _ _ _ _ _ (@bo _ _ _ _ _ _ _ _ (aU (mR (hu8 hr)) (pv 4) (@aB _ _ _ _ _ _ _ aD (pv 1) ah (λ_ _=>rfl)) rfl) (@ai _ _ _ _ _ (@aI _ _ 8 _ _ _ _ bh.nd rfl (Or.inl rfl) (lb vF PySem.F.type_tuple_index (iU (hu8 hr)) (@aB _ _ _ _ _ _ _ aD (pv 1) ah (λ_ _=>rfl)) (@aa _ _ _ _ _ (pv 4) ae rfl)) rfl (by first | exact .inl rfl | exact .inr rfl | assumption))
   (@ak _ _ _ (@bo _ _ _ _ _ _ _ _ (bU (bA (av cLSame hr (by decide) rfl (@aa _ _ _ _ _ (av cLessTie hr (by decide) rfl (@aa _ _ _ _ _ (pv 1) (@aa _ _ _ _ _ (pv 3) (@aa _ _ _ _ _ (pv 2) ae rfl) rfl) rfl)) (@aa _ _ _ _ _ (@aO _ _ _ _ _ (@aa _ _ _ _ _ (@aB _ _ _ _ _ _ _ aD (pv 1) ah (λ_ _=>rfl)) (@aa _ _ _ _ _ (@aN _ _ _ _ _ _ _ _ cE (eU jq (@aB _ _ _ _ _ _ _ aD (pv 1) ah (λ_ _=>rfl)) gu (gv (pv 8))) (eU jq (@aB _ _ _ _ _ _ _ aD (pv 1) ah (λ_ _=>rfl)) (gv (@aN _ _ _ _ _ _ _ _ bB (pv 8) ah)) gu)) ae rfl) rfl)) ae rfl) rfl)))) (@ak _ _ _ (@aH _ _ _ _ cC)) aM))) aM)
  pT)))))),?_⟩
 obtain ⟨t,e1,e2⟩:=W.at'
 refine ⟨_,rfl,_,rfl,b,_,0,_,rfl,rfl,SqT.of e1,rfl,de lf m0 (by lia) λo1 H1 a0 am sb1 lf1 =>?_⟩
 have W1:=W.tp (sb1.tp lf)
 obtain ⟨t1,e11,e12⟩:=W1.at'
 refine ⟨_,rfl,_,rfl,b,_,0,_,rfl,rfl,SqT.of e11,rfl,de lf1 m0 (by lia) λo2 H2 b0 bm sb2 lf2 =>?_⟩
 have W2:=W1.tp (sb2.tp lf1)
 have q2:∀H',aF H2 H'->Q (.bl true) H':=λH' s=>q H' ((sb1.trans sb2).trans (aF.sb s)) (lf2.same s)
 have rg:0<=o1/\o1<m/\0<=o2/\o2<m:=⟨a0,am,b0,bm⟩
 have nr:=fq a0 am b0 bm
 refine ⟨_,rfl,_,rfl,o1,o2,rfl,λx hx =>?_⟩
 have s3:=af hx (.tup ((nrm o1 o2).map V.int))
 have ex:upd H2 x (.tup ((nrm o1 o2).map V.int)) x=some (.tup ((nrm o1 o2).map V.int)):=ag
 generalize upd H2 x (.tup ((nrm o1 o2).map V.int))=H3 at s3 ex
 have W3:=W2.same s3
 obtain ⟨t3,e31,e32⟩:=W3.at'
 refine ⟨_,rfl,b,_,0,_,rfl,rfl,SqT.of e31,rfl,_,rfl,b,_,1,_,rfl,rfl,SqT.of e31,rfl,_,rfl,(by show 1<=qD;decide),λy hy =>?_⟩
 have s4:=af hy (.tup [.ref x])
 have ey:upd H3 y (.tup [.ref x]) y=some (.tup [.ref x]):=ag
 generalize upd H3 y (.tup [.ref x])=H4 at s4 ey
 refine ⟨t3,y,_,_,rfl,rfl,s4 _ _ e32,ey,by rw[qu];exact small (by show ts.length+1<=1000;lia),λp H5 s5 ep =>?_⟩
 have ep:H5 p=some (.tup ((ts++[(x,nrm o1 o2)]).map λu =>.ref u.1)):=by rw[qQ];exact ep
 have s35:=s4.trans s5
 have tu5:∀u∈ts++[(x,nrm o1 o2)],H5 u.1=some (.tup (u.2.map V.int)):=λu hu=>by
  rcases qH.mp hu with z | z
  ·exact s35 _ _ (W3.tup u z)
  ·obtain rfl:u=(x,nrm o1 o2):=by simpa using z
   exact s35 _ _ ex
 have pr5:∀u∈ts++[(x,nrm o1 o2)],∃c d:Int,u.2=[c,d]/\0<=c/\c<=d/\d<m:=λu hu=>by
  rcases qH.mp hu with z | z
  ·exact W.pr u z
  ·obtain rfl:u=(x,nrm o1 o2):=by simpa using z
   exact nr
 refine ⟨p,ts++[(x,nrm o1 o2)],rfl,.inr (SqT.of ep),λu hu=>⟨SqT.of (tu5 u hu),λz =>?_⟩,λl out hl po ps =>?_⟩
 ·obtain ⟨c,d,e,_⟩:=pr5 u hu
  rw[z] at e;cases e
 refine ⟨l,_,rfl,.inl ⟨SqL.of ag,λl2 hl2=>⟨(by show 2<=qD;decide),λz hz =>?_⟩⟩⟩
 have g1:=af hl (.lst (out.map λu=>V.ref u.1))
 have g2:=af hl2 (.tup (out.map λu=>V.ref u.1))
 have g3:=af hz (.tup [.int m,.ref l2])
 have s6:=s35.trans (g1.trans (g2.trans g3))
 have WM:Wb (upd (upd (upd H5 l (.lst (out.map λu=>V.ref u.1))) l2 (.tup (out.map λu=>V.ref u.1))) z (.tup [.int m,.ref l2])) z m out :=
  ⟨⟨l2,ag,g3 _ _ ag⟩,λu hu=>g3 _ _ (g2 _ _ (g1 _ _ (tu5 u (po.mem_iff.mp hu)))),λu hu=>pr5 u (po.mem_iff.mp hu),by rw[po.length_eq,qC];show ts.length+1<=200;lia⟩
 have sM:Sd out:=fY ps
 have pM:(out.map (·.2)).Perm (ts.map (·.2)++[nrm o1 o2]):=by
  have:=po.map (·.2)
  rw[qQ] at this
  exact this
 generalize upd (upd (upd H5 l (.lst (out.map λu=>V.ref u.1))) l2 (.tup (out.map λu=>V.ref u.1))) z (.tup [.int m,.ref l2])=H6 at s6 WM
 clear g1 g2 g3 s35 tu5 pr5 po ps s4 s5
 have W6:=W3.same s6
 have ex6:=s6 _ _ ex
 have q6:∀H',aF H6 H'->Q (.bl true) H':=λH' s=>q2 H' ((s3.trans s6).trans s)
 clear q2 q e31 e32 W3 ex e11 e12 e1 e2 W1 W2
 refine ⟨_,rfl,_,rfl,(by show 2<=qD;decide),λp1 hp1 =>?_⟩
 have g1:=af hp1 (.tup [.int o1,.int o2])
 have ep1:upd H6 p1 (.tup [.int o1,.int o2]) p1=some (.tup [.int o1,.int o2]):=ag
 generalize upd H6 p1 (.tup [.int o1,.int o2])=H7 at g1 ep1
 refine ⟨_,rfl,_,rfl,(by show 2<=qD;decide),λp2 hp2 =>?_⟩
 have g2:=af hp2 (.tup [.int o2,.int o1])
 have ep2:upd H7 p2 (.tup [.int o2,.int o1]) p2=some (.tup [.int o2,.int o1]):=ag
 generalize upd H7 p2 (.tup [.int o2,.int o1])=H8 at g2 ep2
 refine ⟨(by show 2<=qD;decide),λL hL =>?_⟩
 have g3:=af hL (.lst [.ref p1,.ref p2])
 have eL:upd H8 L (.lst [.ref p1,.ref p2]) L=some (.lst [.ref p1,.ref p2]):=ag
 generalize upd H8 L (.lst [.ref p1,.ref p2])=H9 at g3 eL
 have ep1:=g3 _ _ (g2 _ _ ep1)
 have ep2:=g3 _ _ ep2
 have s9:=g1.trans (g2.trans g3)
 let W0:Nat->St->Hp->Prop:=λi σ H'=>(∃c6 c7,σ=[some (.ref r),some (.ref b),some (.int o1),some (.int o2),some (.ref x),some (.ref z),c6,c7,none,none,none])/\aF H9 H'
 refine ⟨L,rfl,⟨_,SqL.of eL⟩,gW (xs:=[.ref p1,.ref p2]) W0 ⟨⟨_,_,rfl⟩,aF.refl _⟩ (λi σ H' _ h=>SqL.of (h.2 _ _ eL)) ?_ ?_⟩
 ·rintro i v σ Ha hv ⟨⟨c6,c7,rfl⟩,sa⟩
  obtain ⟨pa,f1,f2,rfl,epa,rf,nf⟩:∃(pa:Addr) (f1 f2:Int),v = .ref pa/\H9 pa=some (.tup [.int f1,.int f2])/\(0<=f1/\f1<m/\0<=f2/\f2<m)/\nrm f1 f2=nrm o1 o2:=by
   match i,hv with
   | 0,hv=>exact ⟨p1,o1,o2,by simpa using hv.symm,ep1,rg,rfl⟩
   | 1,hv=>exact ⟨p2,o2,o1,by simpa using hv.symm,ep2,⟨b0,bm,a0,am⟩,fb _ _⟩
   | i+2,hv=>simp at hv
  refine ⟨pa,_,rfl,SqT.of (sa _ _ epa),rfl,_,_,rfl,_,_,rfl,rfl,?_⟩
  have s6a:=s9.trans sa
  refine ⟨_,rfl,_,rfl,_,rfl,d7.mpr ⟨b,m,f1,f2,ts,rfl,W6.same s6a,rf,by lia,λz1 us1 Hb sb Wb1 sdb pmb =>?_⟩⟩
  rw[nf] at pmb
  have s6b:=s6a.trans sb
  refine ⟨_,rfl,aR.mpr ⟨_,_,rfl,bJ Wb1.wd (WM.same s6b).wd (cb (pmb.trans pM.symm) sdb sM),λHc sc=>⟨_,rfl,bj ?_⟩⟩⟩
  have s6c:=s6b.trans sc
  have mm:nrm f1 f2∈out.map (·.2):=by rw[nf];exact pM.mem_iff.mpr (by simp)
  refine ⟨_,rfl,_,rfl,_,rfl,dm.mpr ⟨z,m,f1,f2,out,rfl,WM.same s6c,mm,λz2 us2 Hd sd2 Wd2 ed =>?_⟩⟩
  rw[nf,gQ sd pM sM] at ed
  have s6d:=s6c.trans sd2
  have W6d:=W6.same s6d
  refine ⟨_,rfl,aR.mpr ⟨_,_,rfl,bJ Wd2.wd W6d.wd ed,λHe se=>⟨_,rfl,bj ?_⟩⟩⟩
  have s6e:=s6d.trans se
  have W6e:=W6.same s6e
  obtain ⟨te,ee1,ee2⟩:=W6e.at'
  refine ⟨_,rfl,_,rfl,b,_,1,_,rfl,rfl,SqT.of ee1,rfl,te,x,ts,nrm o1 o2,rfl,rfl,ee2,W6e.tup,s6e _ _ ex6,_,rfl,?_⟩
  have s9e:=sa.trans (sb.trans (sc.trans (sd2.trans se)))
  by_cases hm:nrm o1 o2∈ts.map (·.2)
  ·rw[decide_eq_true hm]
   exact bj (bj ⟨⟨_,_,rfl⟩,s9e⟩)
  ·rw[decide_eq_false hm]
   refine bC ⟨_,rfl,_,rfl,_,rfl,bS.mpr ⟨1,b,m,f1,f2,ts,rfl,W6e,.inr ⟨rfl,by rw[nf];exact hm,λHf sf=>⟨rfl,_,rfl,fL rfl ?_⟩⟩⟩⟩
   exact ⟨⟨_,_,rfl⟩,s9e.trans sf⟩
 ·rintro σ Ha ⟨⟨c6,c7,rfl⟩,sa⟩
  have s6a:=s9.trans sa
  have Wa:=W6.same s6a
  obtain ⟨ta,ea1,ea2⟩:=Wa.at'
  refine ⟨_,rfl,_,rfl,b,_,1,_,rfl,rfl,SqT.of ea1,rfl,ta,x,ts,nrm o1 o2,rfl,rfl,ea2,Wa.tup,s6a _ _ ex6,_,rfl,?_⟩
  by_cases hm:nrm o1 o2∈ts.map (·.2)
  ·rw[decide_eq_true hm]
   refine bC ?_
   refine ⟨_,rfl,b,_,1,_,rfl,rfl,SqT.of ea1,rfl,⟨_,_,rfl,ea2⟩,_,rfl,ta,x,ts,nrm o1 o2,rfl,rfl,ea2,Wa.tup,s6a _ _ ex6,hm,?_⟩
   have hk:(ts.map (·.2)).idxOf (nrm o1 o2)<ts.length:=by
    have:=vE.mpr hm
    rwa [qu] at this
   have er:=gc (ts.map (·.2)) (nrm o1 o2)
   generalize (ts.map (·.2)).idxOf (nrm o1 o2)=k at hk er
   refine ⟨_,rfl,_,rfl,_,rfl,dm.mpr ⟨b,m,o2,o1,ts,rfl,Wa,by rw[fb];exact hm,λz3 us3 Hb sb Wb3 e3 =>?_⟩⟩
   rw[fb o2 o1,er] at e3
   have s6b:=s6a.trans sb
   have Wb':=W6.same s6b
   obtain ⟨tb,eb1,eb2⟩:=Wb'.at'
   refine ⟨_,rfl,b,_,0,_,rfl,rfl,SqT.of eb1,rfl,_,rfl,b,_,1,_,rfl,rfl,SqT.of eb1,rfl,_,rfl,_,rfl,tb,_,rfl,eb2,λp3 Hc sc ep3 =>?_⟩
   rw[ph _ (by rw[qu];lia)] at ep3
   refine ⟨_,rfl,b,_,1,_,rfl,rfl,SqT.of (sc _ _ eb1),rfl,_,rfl,_,_,rfl,rfl,_,rfl,tb,_,rfl,sc _ _ eb2,λp4 Hd sd2 ep4 =>?_⟩
   rw[show ((k:Nat):Int)+1=((k+1:Nat):Int) by lia,pk _ (by rw[qu];lia)] at ep4
   refine ⟨p3,p4,_,_,rfl,rfl,sd2 _ _ ep3,ep4,by rw[rX,rY,qu];exact small (by lia),λp5 He se ep5=>⟨(by show 2<=qD;decide),λz5 hz5 =>?_⟩⟩
   have g5:=af hz5 (.tup [.int m,.ref p5])
   have sbe:=sc.trans (sd2.trans (se.trans g5))
   have W5:Wd (upd He z5 (.tup [.int m,.ref p5])) z5 m (ts.take k++ts.drop (k+1)):=⟨⟨p5,ag,by rw[g5 _ _ ep5,qQ,vN,wZ]⟩,λu hu=>sbe _ _ (Wb'.tup u (by
     rcases qH.mp hu with y | y
     ·exact sI y
     ·exact sP y)),λu hu=>(by
     have:u∈ts:=by
      rcases qH.mp hu with y | y
      ·exact sI y
      ·exact sP y
     exact Wb'.wd.two u this),by rw[qC,rX,rY];lia⟩
   refine aR.mpr ⟨_,_,rfl,bJ (Wb3.same sbe).wd W5 (by rw[e3,qQ,vN,wZ]),λHf sf=>⟨_,rfl,bj ?_⟩⟩
   have s6f:=s6b.trans (sbe.trans sf)
   exact mT _ _ ⟨o1,o2,x,_,_,_,_,rfl,rg,W6.same s6f,s6f _ _ ex6,λH' s=>q6 H' (s6f.trans s)⟩
  ·rw[decide_eq_false hm]
   exact bj (mT _ _ ⟨o1,o2,x,_,_,_,_,rfl,rg,Wa,s6a _ _ ex6,λH' s=>q6 H' (s6a.trans s)⟩)
end
open PySem L2
def iy (K:qv):Sp:=λvs H Q _=>∃(a:Addr) (ns:List Int),vs=[.ref a]/\SqL K H a (ns.map V.int)/\ns.length<=63/\∀H',Q (.bl true) H'
theorem gd {K:qv}{vs:List V}{H:Hp}{Q:VK}{E:XK}:iy K vs H Q E↔∃(a:Addr) (ns:List Int),vs=[.ref a]/\SqL K H a (ns.map V.int)/\ns.length<=63/\∀H',Q (.bl true) H':=uo
section
variable  {P:qX}{w:rO}{K:qv}{mg:Str->Option qw}{base:Heap}{f T:Addr}{fd:sA}
theorem cf:aT ["script", "cell", "left", "web", "beside", "many", "places", "kept", "order", "due", "handed", "moved", "joined"] ["script"] (ao j7):=⟨rfl,rfl,rfl,by decide +kernel,rfl,by decide +kernel,by decide +kernel⟩
theorem d8:(["place", "left"]:List Str).Nodup:=by decide +kernel
theorem d9:(["tie", "places"]:List Str).Nodup:=by decide +kernel
theorem cB:(["one", "other", "order"]:List Str).Nodup:=by decide +kernel
theorem cK:(["one", "other", "many"]:List Str).Nodup:=by decide +kernel
theorem qs (F:Fun K "law" "law" j7 f fd)(B:Blt mg)(cLDeal:Cal P w K mg base 2 "_law_deal" ["cell"] lL)(cLWeb:Cal P w K mg base 3 "_law_web" ["left", "most", "ties"] jC)(cLOrder:Cal P w K mg base 2 "_law_order" ["left", "many"] eK)(cRenamedWeb:Cal P w K mg base 2 "renamed_web" ["web", "order"] jE)(cLSame:Cal P w K mg base 4 "_law_same" ["found", "due"] (di 3))(cLNext:Cal P w K mg base 1 "_law_next" ["left", "many"] cw)(cCutWeb:Cal P w K mg base 1 "cut_web" ["web", "places"] jD)(cSideBySide:Cal P w K mg base 1 "side_by_side" ["one", "other"] gR)(cLOneTie:Cal P w K mg base 5 "_law_one_tie" ["left", "web"] dM)(cLTie:Cal P w K mg base 1 "_law_tie" ["one", "other"] dH)(C:Cst mg):bu P w K mg base CX0 6 f fd ["script"] (iy K):=by
 refine F.ok cf (λvs H Q E h =>?_) (λcdv A outer s H vs Q E hr h =>?_)
 ·obtain ⟨_,_,rfl,_⟩:=gd.mp h
  rfl
 obtain ⟨a,ns,rfl,hS,h63,q⟩:=gd.mp h
 refine ⟨_,(@ai _ _ _ _ _ (@eO _ _ _ _ _ _ _ _ uC rfl (@gs _ _ _ _ (@aN _ _ _ _ _ _ _ _ i9 (@bV _ _ _ _ (@aa _ _ _ _ _ ah ae rfl)) (pv 0))) (aW (i:=1) cf.nd rfl (Or.inl rfl))
   (@ai _ _ _ _ _ (@aI _ _ 2 _ _ _ _ cf.nd rfl (Or.inr rfl) (av cLDeal hr (by decide) rfl (@aa _ _ _ _ _ (pv 1) ae rfl)) rfl (by first | exact .inl rfl | exact .inr rfl | assumption))
   (@ai _ _ _ _ _ (@aI _ _ 3 _ _ _ _ cf.nd rfl (Or.inl rfl) (av cLWeb hr (by decide) rfl (@aa _ _ _ _ _ (pv 2) (@aa _ _ _ _ _ (@aB _ _ _ _ _ _ _ dz (@bV _ _ _ _ (@aa _ _ _ _ _ ah (@aa _ _ _ _ _ ah (@aa _ _ _ _ _ ah (@aa _ _ _ _ _ ah (@aa _ _ _ _ _ ah (@aa _ _ _ _ _ ah (@aa _ _ _ _ _ ah (@aa _ _ _ _ _ ah ae rfl) rfl) rfl) rfl) rfl) rfl) rfl) rfl)) (av cLNext hr (by decide) rfl (@aa _ _ _ _ _ (pv 2) (@aa _ _ _ _ _ ah ae rfl) rfl)) (λ_ _=>rfl)) (@aa _ _ _ _ _ ah ae rfl) rfl) rfl)) rfl (by first | exact .inl rfl | exact .inr rfl | assumption))
   (@ai _ _ _ _ _ (@aI _ _ 4 _ _ _ _ cf.nd rfl (Or.inl rfl) (av cLWeb hr (by decide) rfl (@aa _ _ _ _ _ (pv 2) (@aa _ _ _ _ _ ah (@aa _ _ _ _ _ ah ae rfl) rfl) rfl)) rfl (by first | exact .inl rfl | exact .inr rfl | assumption))
   (@ai _ _ _ _ _ (@aI _ _ 5 _ _ _ _ cf.nd rfl (Or.inr rfl) (@aB _ _ _ _ _ _ _ aD (pv 3) ah (λ_ _=>rfl)) rfl (by first | exact .inl rfl | exact .inr rfl | assumption))
   (@ai _ _ _ _ _ (@aI _ _ 6 _ _ _ _ cf.nd rfl (Or.inr rfl) (aE aA rfl B.b_tuple bp (@aa _ _ _ _ _ (cn ["place", "left"] [none,some 2] rfl (bY rfl B.b_range (@aa _ _ _ _ _ (pv 5) ae rfl)) rfl (λ_ _ _ _ _=>(aW (i:=0) d8 rfl (Or.inl rfl))) (λ_ _ _ _ _=>(iH (aU eR (av cLNext hr (by decide) rfl (@aa _ _ _ _ _ (pv 1) (@aa _ _ _ _ _ ah ae rfl) rfl)) ah (aY _)))) (λ_ _ _ _ _=>(pv 0))) ae rfl)) rfl (by first | exact .inl rfl | exact .inr rfl | assumption))
   (@ai _ _ _ _ _ (@aI _ _ 7 _ _ _ _ cf.nd rfl (Or.inl rfl) (aE aA rfl B.b_tuple bp (@aa _ _ _ _ _ (cn ["tie", "places"] [none,some 6] rfl (@dP _ _ _ _ (@aB _ _ _ _ _ _ _ aD (pv 3) ah (λ_ _=>rfl))) rfl (λ_ _ _ _ _=>(aW (i:=0) d9 rfl (Or.inl rfl))) (λ_ _ _ _ _=>(iH (PW.pt (dN (aU (cP (K:=K)) (@aB _ _ _ _ _ _ _ (bH (K:=K)) (pv 0) ah (λ_ _=>rfl)) (pv 1) rfl) (du (aU (cP (K:=K)) (@aB _ _ _ _ _ _ _ (bH (K:=K)) (pv 0) ah (λ_ _=>rfl)) (pv 1) rfl)))))) (λ_ _ _ _ _=>(pv 0))) ae rfl)) rfl (by first | exact .inl rfl | exact .inr rfl | assumption))
   (@ai _ _ _ _ _ (@bo _ _ _ _ _ _ _ _ (PW.pt (iZ (bU (bA (av cLSame hr (by decide) rfl (@aa _ _ _ _ _ (av cCutWeb hr (by decide) rfl (@aa _ _ _ _ _ (pv 3) (@aa _ _ _ _ _ (pv 6) ae rfl) rfl)) (@aa _ _ _ _ _ (@aO _ _ _ _ _ (@aa _ _ _ _ _ (pv 5) (@aa _ _ _ _ _ (pv 7) ae rfl) rfl)) ae rfl) rfl)))) (gm (bU (bA (av cLSame hr (by decide) rfl (@aa _ _ _ _ _ (av cCutWeb hr (by decide) rfl (@aa _ _ _ _ _ (pv 3) (@aa _ _ _ _ _ (@aO _ _ _ _ _ ae) ae rfl) rfl)) (@aa _ _ _ _ _ (pv 3) ae rfl) rfl))))))) (@ak _ _ _ (@aH _ _ _ _ cC)) aM)
   (@ai _ _ _ _ _ (@aI _ _ 8 _ _ _ _ cf.nd rfl (Or.inr rfl) (av cLOrder hr (by decide) rfl (@aa _ _ _ _ _ (pv 2) (@aa _ _ _ _ _ (pv 5) ae rfl) rfl)) rfl (by first | exact .inl rfl | exact .inr rfl | assumption))
   (@ai _ _ _ _ _ (@aI _ _ 9 _ _ _ _ cf.nd rfl (Or.inl rfl) (@aO _ _ _ _ _ (@aa _ _ _ _ _ (pv 5) (@aa _ _ _ _ _ (aE aA rfl B.b_tuple bp (@aa _ _ _ _ _ (aj ba rfl B.b_sorted bG (@aa _ _ _ _ _ (cn ["one", "other", "order"] [none,none,some 8] rfl (@dP _ _ _ _ (@aB _ _ _ _ _ _ _ aD (pv 3) ah (λ_ _=>rfl))) rfl (λ_ _ _ _ _=>(fc (K:=K) (i:=0) (j:=1) cB rfl rfl (Or.inl rfl) (Or.inl rfl))) (λ_ _ _ _ _=>dX) (λ_ _ _ _ _=>(av cLTie hr (by decide) rfl (@aa _ _ _ _ _ (@aB _ _ _ _ _ _ _ (eZ (K:=K)) (pv 2) (pv 0) (λ_ _=>rfl)) (@aa _ _ _ _ _ (@aB _ _ _ _ _ _ _ (eZ (K:=K)) (pv 2) (pv 1) (λ_ _=>rfl)) ae rfl) rfl)))) ae rfl)) ae rfl)) ae rfl) rfl)) rfl (by first | exact .inl rfl | exact .inr rfl | assumption))
   (@ai _ _ _ _ _ (@aI _ _ 10 _ _ _ _ cf.nd rfl (Or.inl rfl) (aE dB rfl B.b_list m7 (@aa _ _ _ _ _ (pv 8) ae rfl)) rfl (by first | exact .inl rfl | exact .inr rfl | assumption))
   (@ai _ _ _ _ _ (@bo _ _ _ _ _ _ _ _ (PW.pt (iZ (bU (bA (av cLSame hr (by decide) rfl (@aa _ _ _ _ _ (av cRenamedWeb hr (by decide) rfl (@aa _ _ _ _ _ (pv 3) (@aa _ _ _ _ _ (pv 10) ae rfl) rfl)) (@aa _ _ _ _ _ (pv 9) ae rfl) rfl)))) (gm (aU (mV hr) (pv 10) (pv 8) (aY _))))) (@ak _ _ _ (@aH _ _ _ _ cC)) aM)
   (@ai _ _ _ _ _ (@bo _ _ _ _ _ _ _ _ (aU (mY hr) (av cRenamedWeb hr (by decide) rfl (@aa _ _ _ _ _ (pv 3) (@aa _ _ _ _ _ (aE aA rfl B.b_tuple bp (@aa _ _ _ _ _ (pv 8) ae rfl)) ae rfl) rfl)) (pv 9) (aY _)) (@ak _ _ _ (@aH _ _ _ _ cC)) aM)
   (@ai _ _ _ _ _ (@bo _ _ _ _ _ _ _ _ (bU (bA (av cLSame hr (by decide) rfl (@aa _ _ _ _ _ (av cCutWeb hr (by decide) rfl (@aa _ _ _ _ _ (pv 3) (@aa _ _ _ _ _ (aE (hW hr.hd) rfl B.b_tuple bp (@aa _ _ _ _ _ (aE hV rfl B.b_range lG (@aa _ _ _ _ _ (pv 5) ae rfl)) ae rfl)) ae rfl) rfl)) (@aa _ _ _ _ _ (@aO _ _ _ _ _ (@aa _ _ _ _ _ (pv 5) (@aa _ _ _ _ _ (@aO _ _ _ _ _ ae) ae rfl) rfl)) ae rfl) rfl)))) (@ak _ _ _ (@aH _ _ _ _ cC)) aM)
   (@ai _ _ _ _ _ (eY (i:=11) ["one", "other", "many"] [none,none,some 5] rfl cf.nd rfl rfl (@dP _ _ _ _ (@aB _ _ _ _ _ _ _ aD (pv 4) ah (λ_ _=>rfl))) rfl (λ_ _ _ _ _=>(fc (K:=K) (i:=0) (j:=1) cK rfl rfl (Or.inl rfl) (Or.inl rfl))) (λ_ _ _ _ _=>dX) (λ_ _ _ _ _=>(@aO _ _ _ _ _ (@aa _ _ _ _ _ (@aN _ _ _ _ _ _ _ _ bB (pv 0) (pv 2)) (@aa _ _ _ _ _ (@aN _ _ _ _ _ _ _ _ bB (pv 1) (pv 2)) ae rfl) rfl))))
   (@ai _ _ _ _ _ (@aI _ _ 12 _ _ _ _ cf.nd rfl (Or.inl rfl) (@aO _ _ _ _ _ (@aa _ _ _ _ _ (@aN _ _ _ _ _ _ _ _ bB (pv 5) (@aB _ _ _ _ _ _ _ aD (pv 4) ah (λ_ _=>rfl))) (@aa _ _ _ _ _ (@aN _ _ _ _ _ _ _ _ cE (@aB _ _ _ _ _ _ _ aD (pv 3) ah (λ_ _=>rfl)) (aE aA rfl B.b_tuple bp (@aa _ _ _ _ _ (pv 11) ae rfl))) ae rfl) rfl)) rfl (by first | exact .inl rfl | exact .inr rfl | assumption))
   (@ai _ _ _ _ _ (@bo _ _ _ _ _ _ _ _ (bU (bA (av cLSame hr (by decide) rfl (@aa _ _ _ _ _ (av cSideBySide hr (by decide) rfl (@aa _ _ _ _ _ (pv 3) (@aa _ _ _ _ _ (pv 4) ae rfl) rfl)) (@aa _ _ _ _ _ (pv 12) ae rfl) rfl)))) (@ak _ _ _ (@aH _ _ _ _ cC)) aM)
   (@ak _ _ _ (@bo _ _ _ _ _ _ _ _ (PW.pt (dN (aU nz (pv 5) ah (aY _)) (du (bU (bA (av cLOneTie hr (by decide) rfl (@aa _ _ _ _ _ (pv 2) (@aa _ _ _ _ _ (pv 3) ae rfl) rfl))))))) (@ak _ _ _ (@aH _ _ _ _ cC)) aM)))))))))))))))))) (λ_=>rfl))
  (@ak _ _ _ (@aH _ _ _ _ cC))),?_⟩
 refine ⟨(by show 1<=qD;decide),λp0 hp0=>⟨_,rfl,p0,a,[.int 0],ns.map V.int,rfl,rfl,SqL.of ag,(af hp0 _).seq hS,?_,λS hS0 =>?_⟩⟩
 ·rw[qu]
  exact small (by show 1+ns.length<=1000;lia)
 have kS:upd (upd H p0 (.lst [.int 0])) S (.lst ([.int 0]++ns.map V.int)) S=some (.lst ([.int 0]++ns.map V.int)):=ag
 generalize upd (upd H p0 (.lst [.int 0])) S (.lst ([.int 0]++ns.map V.int))=H0 at kS
 let W0:Nat->St->Hp->Prop:=λi σ H'=>(∃c1 c2 c3 c4 c5 c6 c7 c8 c9 c10 c11 c12,σ=[some (.ref a),c1,c2,c3,c4,c5,c6,c7,c8,c9,c10,c11,c12])/\H' S=some (.lst ([.int 0]++ns.map V.int))
 refine ⟨S,rfl,⟨_,SqL.of kS⟩,gW (xs:=[.int 0]++ns.map V.int) W0 ⟨⟨_,_,_,_,_,_,_,_,_,_,_,_,rfl⟩,kS⟩ (λi σ H' _ h=>SqL.of h.2) ?_ (λσ H' _=>q _)⟩
 rintro i x σ H1 hx ⟨⟨c1,c2,c3,c4,c5,c6,c7,c8,c9,c10,c11,c12,rfl⟩,kS⟩
 obtain ⟨cl,rfl⟩:∃cl:Int,x = .int cl:=by
  have m:=qV hx
  rcases qH.mp m with z | z
  ·exact ⟨0,by simpa using z⟩
  ·obtain ⟨c,_,e⟩:=sj.mp z
   exact ⟨c,e.symm⟩
 refine ⟨_,rfl,cl,rfl,λn r n0 hr0 =>?_⟩
 have g1:=af hr0 (.lst [.int n])
 have lf:Lf r (upd H1 r (.lst [.int n])):=⟨n,ag⟩
 have nS:S≠r:=ax kS hr0
 have kS1:=g1 _ _ kS
 generalize upd H1 r (.lst [.int n])=H2 at lf kS1
 clear g1
 refine ⟨_,rfl,(by show 8<=qD;decide),λl0 hl0 =>?_⟩
 have g2:=af hl0 (.lst [.int 10,.int 10,.int 10,.int 10,.int 10,.int 10,.int 10,.int 20])
 have el0:upd H2 l0 (.lst [.int 10,.int 10,.int 10,.int 10,.int 10,.int 10,.int 10,.int 20]) l0=some (.lst [.int 10,.int 10,.int 10,.int 10,.int 10,.int 10,.int 10,.int 20]):=ag
 have nl0:l0≠r:=lf.ne hl0
 generalize upd H2 l0 (.lst [.int 10,.int 10,.int 10,.int 10,.int 10,.int 10,.int 10,.int 20])=H3 at g2 el0
 refine ⟨_,rfl,de (lf.same g2) (by decide) (by decide) λd H4 d0 d1 sb4 lf4 =>?_⟩
 obtain ⟨v,ev,v0,v1⟩:∃v:Int,atI [V.int 10,V.int 10,V.int 10,V.int 10,V.int 10,V.int 10,V.int 10,V.int 20] d=some (.int v)/\0<=v/\v<=20:=by
  have:d=0\/d=1\/d=2\/d=3\/d=4\/d=5\/d=6\/d=7:=by lia
  rcases this with rfl | rfl | rfl | rfl | rfl | rfl | rfl | rfl <;> exact ⟨_,rfl,by decide,by decide⟩
 refine ⟨l0,_,d,_,rfl,rfl,SqL.of (sb4 _ _ nl0 el0),ev,cX.mpr ⟨r,v,20,rfl,lf4,v0,by lia,by decide,by decide,λb mI ts H5 sb5 lf5 W sd m0 mvv lt =>?_⟩⟩
 obtain ⟨m,rfl⟩:∃m:Nat,mI=m:=⟨mI.toNat,by lia⟩
 have kS5:=sb5 _ _ nS (sb4 _ _ nS (g2 _ _ kS1))
 clear g2 sb4 sb5 el0
 refine ⟨_,rfl,cX.mpr ⟨r,6,8,rfl,lf5,by decide,by decide,by decide,by decide,λb2 m2 ts2 H6 sb6 lf6 U sdU m20 m2v lt2 =>?_⟩⟩
 have W:=W.tp (sb6.tp lf5)
 have kS6:=sb6 _ _ nS kS5
 clear sb6
 obtain ⟨t,e1,e2⟩:=W.at'
 refine ⟨_,rfl,b,_,0,_,rfl,rfl,SqT.of e1,rfl,?_⟩
 refine ⟨_,rfl,(m:Int),rfl,by lia,by lia,cD (lo:=0) (n:=m) (λi ys H'=>SB r H6 H'/\Lf r H'/\∃ps:List Int,ys=ps.map V.int) ⟨SB.refl _ _,lf6,[],rfl⟩ (small (by lia)) ?_ ?_⟩
 ·rintro i ys H3 hi hy ⟨sb3,lf3,ps,rfl⟩ R1 R0 r1 r0
  refine ⟨_,rfl,de lf3 (by decide) (by decide) λd H4 d0 d1 sb4 lf4=>⟨rfl,_,rfl,oB (λ_=>⟨_,rfl,r1 _ _ ⟨sb3.trans sb4,lf4,ps++[0+(i:Int)],by rw[qQ];rfl⟩⟩) λ_=>r0 _ ⟨sb3.trans sb4,lf4,ps,rfl⟩⟩⟩
 rintro ys H7 hy ⟨sb7,lf7,ps,rfl⟩ l hl
 have s8:=af hl (.lst (ps.map V.int))
 refine ⟨l,_,rfl,.inl ⟨SqL.of ag,λpl hpl =>?_⟩⟩
 have s9:=s8.trans (af hpl (.tup (ps.map V.int)))
 have epl:upd (upd H7 l (.lst (ps.map V.int))) pl (.tup (ps.map V.int)) pl=some (.tup (ps.map V.int)):=ag
 generalize upd (upd H7 l (.lst (ps.map V.int))) pl (.tup (ps.map V.int))=H8 at s9 epl
 have W:=(W.tp (sb7.tp lf6)).same s9
 have U:=(U.tp (sb7.tp lf6)).same s9
 have kS8:=s9 _ _ (sb7 _ _ nS kS6)
 have lf8:=lf7.same s9
 clear s8 s9 sb7 e1 e2 kS6 kS5 kS1 lf7 lf6
 obtain ⟨t,e1,e2⟩:=W.at'
 refine ⟨_,rfl,b,_,1,_,rfl,rfl,SqT.of e1,rfl,t,rfl,⟨_,SqT.of e2⟩,cN (xs:=ts.map λu =>.ref u.1) (λi ys H'=>H'=H8/\ys=((ts.take i).filter λu=>off ps u.2).map λu =>.ref u.1) ⟨rfl,rfl⟩ (by rw[qu];exact small (by lia)) (λi ys H' _ z=>by rw[z.1];exact SqT.of e2) ?_ ?_⟩
 ·rintro i x ys H3 hx hy ⟨rfl,ey⟩ R1 R0 r1 r0
  obtain ⟨u,eu,rfl⟩:=item hx
  have hu:=W.tup u (qV eu)
  obtain ⟨a,b,e3,_⟩:=W.pr u (qV eu)
  rw[e3] at hu
  have bb:off ps u.2=(!decide (a∈ps) && !decide (b∈ps)):=by rw[e3];rfl
  have g1:off ps u.2=true->R1 (.ref u.1) H3:=λec=>r1 _ _ ⟨rfl,by rw[cZ eu,if_pos ec,ey]⟩
  have g0:off ps u.2=false->R0 H3:=λec=>r0 _ ⟨rfl,by rw[cZ eu,if_neg (by rw[ec];exact qO),ey,rW]⟩
  refine ⟨_,rfl,u.1,_,0,_,rfl,rfl,SqT.of hu,rfl,_,rfl,pl,_,rfl,.inr (SqT.of epl),rfl,cW ps,_,rfl,?_⟩
  show if (if true=true then !inV (.int a) (ps.map V.int) else _)=true then _ else _
  rw[if_pos rfl,cH]
  by_cases ha:a∈ps
  ·rw[decide_eq_true ha] at bb ⊢
   exact bj (bj (g0 bb))
  ·rw[decide_eq_false ha] at bb ⊢
   refine bC ⟨_,rfl,u.1,_,1,_,rfl,rfl,SqT.of hu,rfl,_,rfl,pl,_,rfl,.inr (SqT.of epl),rfl,cW ps,_,rfl,?_⟩
   show if (if true=true then !inV (.int b) (ps.map V.int) else _)=true then _ else _
   rw[if_pos rfl,cH]
   by_cases hb:b∈ps
   ·rw[decide_eq_true hb] at bb ⊢
    exact bj (g0 bb)
   ·rw[decide_eq_false hb] at bb ⊢
    exact bC ⟨_,rfl,g1 bb⟩
 rintro ys H9 hy ⟨rfl,ey⟩ l2 hl2
 rw[qu,rA (qz _)] at ey
 refine ⟨l2,_,rfl,.inl ⟨SqL.of ag,λkp hkp =>?_⟩⟩
 have s9:=(af hl2 (.lst ys)).trans (af hkp (.tup ys))
 have ekp:upd (upd H9 l2 (.lst ys)) kp (.tup ys) kp=some (.tup ((ts.filter λu=>off ps u.2).map λu =>.ref u.1)):=by rw[ag,ey]
 generalize upd (upd H9 l2 (.lst ys)) kp (.tup ys)=Ha at s9 ekp
 have W:=W.same s9
 have U:=U.same s9
 have epl:=s9 _ _ epl
 have kS:=s9 _ _ kS8
 have lf:=lf8.same s9
 clear s9 e1 e2 kS8 lf8 ey hy
 refine ⟨_,rfl,_,rfl,cc.mpr ⟨b,pl,m,ts,ps,rfl,W,epl,λz1 us1 Hb sb Wb1 eb =>?_⟩⟩
 refine ⟨_,rfl,_,rfl,(by show 2<=qD;decide),λz2 hz2 =>?_⟩
 have g2:=af hz2 (.tup [.int m,.ref kp])
 have sb2:=sb.trans g2
 have K2:Wd (upd Hb z2 (.tup [.int m,.ref kp])) z2 m (ts.filter λu=>off ps u.2):=⟨⟨kp,ag,sb2 _ _ ekp⟩,λu hu=>sb2 _ _ (W.tup u (tZ.mp hu).1),λu hu=>W.wd.two u (tZ.mp hu).1,rn (wq _ _) W.wd.len⟩
 refine aR.mpr ⟨_,_,rfl,bJ (Wb1.same g2).wd K2 (by rw[eb,xJ];rfl),λHc sc=>⟨_,rfl,bj ?_⟩⟩
 have sac:=sb2.trans sc
 have W:=W.same sac
 have U:=U.same sac
 have kS:=sac _ _ kS
 have lf:=lf.same sac
 clear K2 g2 sb2 sc sac eb Wb1 sb ekp epl
 refine ⟨_,rfl,(by show 0<=qD;decide),λz3 hz3 =>?_⟩
 have g3:=af hz3 (.tup [])
 refine cc.mpr ⟨b,z3,m,ts,[],rfl,W.same g3,ag,λz4 us4 Hd sd4 Wd4 ed =>?_⟩
 have s3d:=g3.trans sd4
 have fe:(ts.map (·.2)).filter (off [])=ts.map (·.2):=List.filter_eq_self.mpr λp _=>by simp[off]
 rw[fe] at ed
 refine ⟨_,rfl,aR.mpr ⟨_,_,rfl,bJ Wd4.wd (W.same s3d).wd ed,λHe se=>⟨_,rfl,bj ?_⟩⟩⟩
 have sce:=s3d.trans se
 have W:=W.same sce
 have U:=U.same sce
 have kS:=sce _ _ kS
 have lf:=lf.same sce
 clear g3 sd4 s3d se sce Wd4 ed fe
 refine ⟨_,rfl,_,rfl,cJ.mpr ⟨r,m,rfl,lf,by lia,λlo os Hf hlo sbf lff eo lno ro =>?_⟩⟩
 have W:=W.tp (sbf.tp lf)
 have U:=U.tp (sbf.tp lf)
 have kS:=sbf _ _ nS kS
 clear sbf
 have hg:∀k:Nat,k<m->os[k]? = some (os.getD k 0)/\0<=os.getD k 0/\os.getD k 0<(m:Int):=λk hk=>by
  have e:os[k]? = some os[k]:=qS (by lia)
  have e':os.getD k 0=os[k]:=by rw[rT,e];rfl
  rw[e']
  exact ⟨e,ro _ (uu _)⟩
 have at':∀x:Int,0<=x->x<m->atI (os.map V.int) x=some (.int (os.getD x.toNat 0)):=λx x0 xm=>by
  obtain ⟨n,rfl⟩:∃n:Nat,x=n:=⟨x.toNat,by lia⟩
  refine cM ?_
  rw[rK,(hg n (by lia)).1]
  rfl
 obtain ⟨t,e1,e2⟩:=W.at'
 have em:(ts.map λu=>(u.1,V.int (u.2.getD 0 0),V.int (u.2.getD 1 0))).map (λt=>V.ref t.1)=ts.map λu=>V.ref u.1:=by rw[uc];rfl
 refine ⟨_,rfl,_,rfl,b,_,1,_,rfl,rfl,SqT.of e1,rfl,t,rfl,⟨_,SqT.of e2⟩,fX (ts:=ts.map λu=>(u.1,V.int (u.2.getD 0 0),V.int (u.2.getD 1 0))) (λi ys H'=>aF Hf H'/\∃us,fv H' ys us/\us.map (·.2)=(ts.take i).map λu=>ren (λx=>os.getD x.toNat 0) u.2) (by decide) ⟨aF.refl _,[],⟨rfl,λu hu=>by cases hu⟩,rfl⟩ (by rw[qu];exact small (by lia)) ?_ ?_ ?_⟩
 ·rintro i ys H' _ ⟨s',_⟩
  rw[em]
  refine ⟨SqT.of (s' _ _ e2),λt ht =>?_⟩
  obtain ⟨u,hu,rfl⟩:=sj.mp ht
  obtain ⟨x,y,e3,_⟩:=W.pr u hu
  have:=s' _ _ (W.tup u hu)
  rw[e3] at this ⊢
  exact SqT.of this
 ·rintro i t' ys H' ht hy ⟨s',us,tu,eu⟩ R1 R0 r1 r0
  rw[rK] at ht
  cases hi:ts[i]? with
  | none=>rw[hi] at ht;cases ht
  | some u =>
  rw[hi] at ht
  have ht':=rE ht
  subst ht'
  obtain ⟨x,y,e3,x0,xy,ym⟩:=W.pr u (qV hi)
  have gx:u.2.getD 0 0=x:=by rw[e3];rfl
  have gy:u.2.getD 1 0=y:=by rw[e3];rfl
  refine bC ⟨_,rfl,_,rfl,lo,_,u.2.getD 0 0,_,rfl,rfl,SqL.of (s' _ _ eo),at' (u.2.getD 0 0) (by lia) (by lia),_,rfl,_,rfl,lo,_,u.2.getD 1 0,_,rfl,rfl,SqL.of (s' _ _ eo),at' (u.2.getD 1 0) (by lia) (by lia),_,_,rfl,λtn htn=>r1 _ _ ⟨s'.trans (af htn _),us++[(tn,ren (λx=>os.getD x.toNat 0) u.2)],tu.add htn _,?_⟩⟩
  rw[qQ,eu,sR,hi,qQ]
  rfl
 rintro ys Hg hy ⟨sg,us,tu,eu⟩ L hL
 rw[qu,rA (qz _)] at eu
 have g1:=af hL (.lst ys)
 have tu1:=tu.same g1
 have eL:upd Hg L (.lst ys) L=some (.lst (us.map λu =>.ref u.1)):=by rw[ag,tu.1]
 have sg1:=sg.trans g1
 generalize upd Hg L (.lst ys)=Hh at g1 tu1 eL sg1
 have keys:∀u∈us,∃x y:Int,u.2=[x,y]/\0<=x/\x<=y/\y<(m:Int):=λu hu=>by
  have:u.2∈ts.map λu=>ren (λx=>os.getD x.toNat 0) u.2:=by rw[<- eu];exact tS hu
  obtain ⟨t,ht,e⟩:=sj.mp this
  obtain ⟨x,y,e3,x0,xy,ym⟩:=W.pr t ht
  rw[<- e,e3]
  have h1:=hg x.toNat (by lia)
  have h2:=hg y.toNat (by lia)
  exact fq h1.2.1 h1.2.2 h2.2.1 h2.2.2
 have lu:us.length=ts.length:=by have:=congrArg List.length eu;rwa [qu,qu] at this
 refine ⟨L,us,rfl,.inl (SqL.of eL),λu hu=>⟨SqT.of (tu1.2 u hu),λz =>?_⟩,λL2 out hL2 po pS =>?_⟩
 ·obtain ⟨x,y,e,_⟩:=keys u hu
  rw[z] at e;cases e
 refine ⟨L2,_,rfl,.inl ⟨SqL.of ag,λl3 hl3=>⟨(by show 2<=qD;decide),λz5 hz5 =>?_⟩⟩⟩
 have g2:=af hL2 (.lst (out.map λu=>V.ref u.1))
 have g3:=af hl3 (.tup (out.map λu=>V.ref u.1))
 have g4:=af hz5 (.tup [.int (m:Int),.ref l3])
 have sfi:=sg1.trans (g2.trans (g3.trans g4))
 have D:Wb (upd (upd (upd Hh L2 (.lst (out.map λu=>V.ref u.1))) l3 (.tup (out.map λu=>V.ref u.1))) z5 (.tup [.int (m:Int),.ref l3])) z5 m out :=
  ⟨⟨l3,ag,g4 _ _ ag⟩,λu hu=>g4 _ _ (g3 _ _ (g2 _ _ (tu1.2 u (po.mem_iff.mp hu)))),λu hu=>keys u (po.mem_iff.mp hu),by rw[po.length_eq,lu];exact W.len⟩
 generalize upd (upd (upd Hh L2 (.lst (out.map λu=>V.ref u.1))) l3 (.tup (out.map λu=>V.ref u.1))) z5 (.tup [.int (m:Int),.ref l3])=Hi at sfi D
 have sD:Sd out:=fY pS
 have pD:(out.map (·.2)).Perm ((ts.map (·.2)).map (ren λx=>os.getD x.toNat 0)):=by
  have:=po.map (·.2)
  rw[eu] at this
  rw[uc]
  exact this
 have W:=W.same sfi
 have U:=U.same sfi
 have kS:=sfi _ _ kS
 have lf:=lff.same sfi
 have eo:=sfi _ _ eo
 clear g1 g2 g3 g4 sg sg1 sfi tu tu1 keys lu po pS eu e1 e2 lff
 have hg':∀k:Nat,k<m->os[k]? = some ((λx:Int=>os.getD x.toNat 0) k)/\0<=(λx:Int=>os.getD x.toNat 0) k/\(λx:Int=>os.getD x.toNat 0) k<(m:Int):=λk hk=>by
  show os[k]? = some (os.getD (k:Int).toNat 0)/\0<=os.getD (k:Int).toNat 0/\os.getD (k:Int).toNat 0<(m:Int)
  rw[tM]
  exact hg k hk
 generalize (λx:Int=>os.getD x.toNat 0)=gg at hg' pD
 refine ⟨_,rfl,lo,_,rfl,.inl (SqL.of eo),λld hld =>?_⟩
 have g1:=af hld (.lst (os.map V.int))
 have eld:upd Hi ld (.lst (os.map V.int)) ld=some (.lst (os.map V.int)):=ag
 generalize upd Hi ld (.lst (os.map V.int))=Hj at g1 eld
 refine ⟨_,rfl,_,rfl,cY.mpr ⟨b,ld,m,ts,os,gg,rfl,W.same g1,.inl eld,hg',λz6 us6 Hk sk W6 sd6 pm6 =>?_⟩⟩
 have sik:=g1.trans sk
 have Dk:=D.same sik
 refine ⟨_,rfl,aR.mpr ⟨_,_,rfl,bJ W6.wd Dk.wd (cb (pm6.trans pD.symm) sd6 sD),λHl sl=>⟨_,rfl,bj ?_⟩⟩⟩
 have sil:=sik.trans sl
 refine ⟨_,rfl,_,rfl,ld,lo,os,os,rfl,rfl,SqL.of (sl _ _ (sk _ _ eld)),SqL.of (sil _ _ eo),_,rfl,?_⟩
 rw[decide_eq_true (rfl:os=os)]
 refine bj ?_
 refine ⟨_,rfl,_,rfl,lo,_,rfl,.inl ⟨SqL.of (sil _ _ eo),λl8 hl8 =>?_⟩⟩
 have g8:=af hl8 (.tup (os.map V.int))
 have si8:=sil.trans g8
 refine cY.mpr ⟨b,l8,m,ts,os,gg,rfl,W.same si8,.inr ag,hg',λz7 us7 Hm sm W7 sd7 pm7 =>?_⟩
 have sim:=si8.trans sm
 have Dm:=D.same sim
 obtain ⟨ta,ea1,ea2⟩:=W7.at'
 obtain ⟨tb,eb1,eb2⟩:=Dm.at'
 refine ⟨_,rfl,z7,z5,_,_,rfl,rfl,SqT.of ea1,SqT.of eb1,iu ea2 eb2 W7.tup Dm.tup (cb (pm7.trans pD.symm) sd7 sD),_,rfl,bj ?_⟩
 have W:=W.same sim
 have U:=U.same sim
 have kS:=sim _ _ kS
 have lf:=lf.same sim
 clear sim si8 sil sik sm sl sk g1 g8 Dm Dk W7 W6 pm6 pm7 ea1 ea2 eb1 eb2 D hg' eo eld pD sD
 refine ⟨_,rfl,_,rfl,(m:Int),rfl,λa0 ha0 =>?_⟩
 have g1:=af ha0 (.rng 0 (m:Int))
 have ea0:upd Hm a0 (.rng 0 (m:Int)) a0=some (.rng 0 (m:Int)):=ag
 generalize upd Hm a0 (.rng 0 (m:Int))=Hn at g1 ea0
 refine ⟨a0,m,rfl,ea0,by lia,λl9 hl9 =>?_⟩
 have em9:(sN m).map (λi:Nat=>V.int (i:Int))=((sN m).map λi:Nat=>(i:Int)).map V.int:=by rw[uc];rfl
 rw[em9]
 have g2:=af hl9 (.tup (((sN m).map λi:Nat=>(i:Int)).map V.int))
 refine cc.mpr ⟨b,l9,m,ts,(sN m).map λi:Nat=>(i:Int),rfl,W.same (g1.trans g2),ag,λz8 us8 Ho so Wo eo =>?_⟩
 have mo:=(g1.trans g2).trans so
 have fe:(ts.map (·.2)).filter (off ((sN m).map λi:Nat=>(i:Int)))=[]:=List.filter_eq_nil_iff.mpr λp hp=>by
  obtain ⟨u,hu,rfl⟩:=sj.mp hp
  obtain ⟨x,y,e3,x0,xy,ym⟩:=W.pr u hu
  have:x∈(sN m).map λi:Nat=>(i:Int):=sj.mpr ⟨x.toNat,uL.mpr (by lia),by lia⟩
  rw[e3]
  show ¬ (!decide (x∈(sN m).map λi:Nat=>(i:Int)) && _)=true
  rw[decide_eq_true this]
  exact qO
 rw[fe] at eo
 refine ⟨_,rfl,(by show 0<=qD;decide),λz9 hz9=>⟨(by show 2<=qD;decide),λza hza =>?_⟩⟩
 have g3:=af hz9 (.tup [])
 have g4:=af hza (.tup [.int (m:Int),.ref z9])
 have K9:Wd (upd (upd Ho z9 (.tup [])) za (.tup [.int (m:Int),.ref z9])) za m []:=⟨⟨z9,ag,g4 _ _ ag⟩,λu hu=>(by cases hu),λu hu=>(by cases hu),by decide⟩
 refine aR.mpr ⟨_,_,rfl,bJ (Wo.same (g3.trans g4)).wd K9 eo,λHp' sp=>⟨_,rfl,bj ?_⟩⟩
 have smp:=mo.trans ((g3.trans g4).trans sp)
 have W:=W.same smp
 have U:=U.same smp
 have kS:=smp _ _ kS
 have lf:=lf.same smp
 clear smp K9 g1 g2 g3 g4 sp so mo fe eo Wo ea0
 obtain ⟨t2,f1,f2⟩:=U.at'
 have em2:(ts2.map λu=>(u.1,V.int (u.2.getD 0 0),V.int (u.2.getD 1 0))).map (λt=>V.ref t.1)=ts2.map λu=>V.ref u.1:=by rw[uc];rfl
 refine ⟨_,rfl,b2,_,1,_,rfl,rfl,SqT.of f1,rfl,t2,rfl,⟨_,SqT.of f2⟩,fX (ts:=ts2.map λu=>(u.1,V.int (u.2.getD 0 0),V.int (u.2.getD 1 0))) (λi ys H'=>aF Hp' H'/\∃us,fv H' ys us/\us.map (·.2)=(ts2.take i).map λu=>mv m u.2) (by decide) ⟨aF.refl _,[],⟨rfl,λu hu=>by cases hu⟩,rfl⟩ (by rw[qu];exact small (by lia)) ?_ ?_ ?_⟩
 ·rintro i ys H' _ ⟨s',_⟩
  rw[em2]
  refine ⟨SqT.of (s' _ _ f2),λt ht =>?_⟩
  obtain ⟨u,hu,rfl⟩:=sj.mp ht
  obtain ⟨x,y,e3,_⟩:=U.pr u hu
  have:=s' _ _ (U.tup u hu)
  rw[e3] at this ⊢
  exact SqT.of this
 ·rintro i t' ys H' ht hy ⟨s',us,tu,eu⟩ R1 R0 r1 r0
  rw[rK] at ht
  cases hi:ts2[i]? with
  | none=>rw[hi] at ht;cases ht
  | some u =>
  rw[hi] at ht
  have ht':=rE ht
  subst ht'
  refine bC ⟨_,rfl,_,rfl,_,_,rfl,rfl,_,rfl,_,rfl,_,_,rfl,rfl,(by show 2<=qD;decide),λtn htn=>r1 _ _ ⟨s'.trans (af htn _),us++[(tn,mv m u.2)],tu.add htn _,?_⟩⟩
  rw[qQ,eu,sR,hi,qQ]
  rfl
 rintro ys Hq hy ⟨sq,us,tu,eu⟩ lm hlm
 rw[qu,rA (qz _)] at eu
 have g1:=af hlm (.lst ys)
 have tu1:=tu.same g1
 have elm:upd Hq lm (.lst ys) lm=some (.lst (us.map λu =>.ref u.1)):=by rw[ag,tu.1]
 have sr:=sq.trans g1
 generalize upd Hq lm (.lst ys)=Hr at g1 tu1 elm sr
 have W:=W.same sr
 have U:=U.same sr
 have kS:=sr _ _ kS
 have lf:=lf.same sr
 obtain ⟨t,e1,e2⟩:=W.at'
 obtain ⟨t3,f3,f4⟩:=U.at'
 have lu:us.length=ts2.length:=by have:=congrArg List.length eu;rwa [qu,qu] at this
 refine ⟨_,rfl,_,rfl,b2,_,0,_,rfl,rfl,SqT.of f3,rfl,_,_,rfl,rfl,_,rfl,b,_,1,_,rfl,rfl,SqT.of e1,rfl,_,rfl,lm,_,rfl,.inl ⟨SqL.of elm,λl2 hl2 =>?_⟩⟩
 have g2:=af hl2 (.tup (us.map λu=>V.ref u.1))
 refine ⟨t,l2,_,_,rfl,rfl,g2 _ _ e2,ag,by rw[qu,qu];exact small (by lia),λp Hs ss ep=>⟨(by show 2<=qD;decide),λzj hzj =>?_⟩⟩
 have g3:=af hzj (.tup [.int ((m:Int)+m2),.ref p])
 have srt:=g2.trans (ss.trans g3)
 have J:Wd (upd Hs zj (.tup [.int ((m:Int)+m2),.ref p])) zj ((m:Int)+m2) (ts++us):=⟨⟨p,ag,by rw[qQ];exact g3 _ _ ep⟩,λu hu=>(by
   rcases qH.mp hu with y | y
   ·exact srt _ _ (W.tup u y)
   ·exact srt _ _ (tu1.2 u y)),λu hu=>(by
   rcases qH.mp hu with y | y
   ·exact W.wd.two u y
   ·have:u.2∈ts2.map λu=>mv m u.2:=by rw[<- eu];exact tS y
    obtain ⟨v,_,e⟩:=sj.mp this
    rw[<- e];rfl),by rw[qC];lia⟩
 generalize upd Hs zj (.tup [.int ((m:Int)+m2),.ref p])=Ht at srt J
 refine ⟨_,rfl,_,rfl,dq.mpr ⟨b,b2,m,m2,ts,ts2,rfl,W.same srt,U.same srt,λzk Hu ws su Wu ew =>?_⟩⟩
 refine ⟨_,rfl,aR.mpr ⟨_,_,rfl,bJ Wu (J.same su) (by rw[ew,qQ,eu,uc];rfl),λHv sv=>⟨_,rfl,bj ?_⟩⟩⟩
 have srv:=(srt.trans su).trans sv
 have W:=W.same srv
 have kS:=srv _ _ kS
 have lf:=lf.same srv
 refine ⟨_,rfl,_,_,rfl,rfl,_,rfl,?_⟩
 by_cases hm:(0:Int)<(m:Int)
 ·rw[decide_eq_true hm]
  refine bC ⟨_,rfl,_,rfl,cz.mpr ⟨r,b,m,ts,rfl,lf,W,sd,hm,by lia,by lia,λHw sw lw=>⟨_,rfl,bj ?_⟩⟩⟩
  exact ⟨⟨_,_,_,_,_,_,_,_,_,_,_,_,rfl⟩,sw _ _ nS kS⟩
 ·rw[decide_eq_false hm]
  exact bj (bj ⟨⟨_,_,_,_,_,_,_,_,_,_,_,_,rfl⟩,kS⟩)
end
open PySem L2
theorem all_mk {l:PySem.W.OpenLaw}{w:rO}{K:qv}{h:Heap}{mg:Str->Option qw}{fa:Addr}(X:K.In h)(G:h.Ns qT mg)(hfa:mg "law" = some (.ref fa))
  (h1:bL K "tie_of" ly) (h2:bL K "tied_times" fk) (h3:bL K "cut_web" ju) (h4:bL K "renamed_web" eD) (h5:bL K "side_by_side" cF) (h6:bL K "put_tie" jv) (h7:bL K "less_tie" ig) (h8:bL K "_law_mixed" jw) (h9:bL K "_law_deal" lA) (h10:bL K "_law_next" lB) (h11:bL K "_law_ties" lC) (h12:bL K "_law_web" nH) (h13:bL K "_law_same" lD) (h14:bL K "_law_order" gK) (h15:bL K "_law_tie" lE) (h16:bL K "_law_kind" iW) (h17:bL K "_law_one_tie" dG) (h18:bL K "law" j7)
  (y_all:rh K qT "all" = some none) (y_bool:rh K qT "bool" = some none) (y_divmod:rh K qT "divmod" = some none) (y_int:rh K qT "int" = some none) (y_isinstance:rh K qT "isinstance" = some none) (y_len:rh K qT "len" = some none) (y_list:rh K qT "list" = some none) (y_max:rh K qT "max" = some none) (y_min:rh K qT "min" = some none) (y_range:rh K qT "range" = some none) (y_sorted:rh K qT "sorted" = some none) (y_str:rh K qT "str" = some none) (y_tuple:rh K qT "tuple" = some none) (y_ValueError:rh K qT "ValueError" = some none)
  {t_MOST_TIES:Nat} (q_MOST_TIES:rh K qT "MOST_TIES" = some (some (.int 200 t_MOST_TIES)))
  {c_WebError:Addr} (e_WebError:rh K qT "WebError" = some (some (.ref c_WebError)))
  {c_BadWeb:Addr} (e_BadWeb:rh K qT "BadWeb" = some (some (.ref c_BadWeb)))
  {c_NoStep:Addr} (e_NoStep:rh K qT "NoStep" = some (some (.ref c_NoStep)))
  {c_NoText:Addr} (e_NoText:rh K qT "NoText" = some (some (.ref c_NoText)))
  {c_TooMany:Addr} (e_TooMany:rh K qT "TooMany" = some (some (.ref c_TooMany)))
  {c_NoTie:Addr} (e_NoTie:rh K qT "NoTie" = some (some (.ref c_NoTie)))
  {c_NoRing:Addr} (e_NoRing:rh K qT "NoRing" = some (some (.ref c_NoRing)))
  {c_NotClear:Addr} (e_NotClear:rh K qT "NotClear" = some (some (.ref c_NotClear)))
  {c_NotThree:Addr} (e_NotThree:rh K qT "NotThree" = some (some (.ref c_NotThree)))
  {c_BadBoard:Addr} (e_BadBoard:rh K qT "BadBoard" = some (some (.ref c_BadBoard)))
  {c_NoRow:Addr} (e_NoRow:rh K qT "NoRow" = some (some (.ref c_NoRow)))
  {c_NoBack:Addr} (e_NoBack:rh K qT "NoBack" = some (some (.ref c_NoBack)))
  (t_ex:PySem.W.excIn K c_TooMany hX "ValueError.__new__" = true)
  (t_ga:PySem.W.findIn K (.ref c_TooMany) "__getattribute__" = some (some (.builtin "BaseException.__getattribute__")))
  (t_gt:PySem.W.findIn K (.ref c_TooMany) "__getattr__" = some none)
  (t_cl:PySem.W.findIn K (.ref c_TooMany) "__class__" = some (some (.builtin "object.__class__")))
  (t_mo:PySem.W.subIn K (.ref c_TooMany) (.type "object")=some true)
  (t_sb:PySem.W.subIn K (.ref c_TooMany) (.type "BaseException")=some true)
  (t_it:(PySem.W.clsIn K c_TooMany).isSome=true)
  (t_m:PySem.W.exmOne K (.ref c_TooMany) (.ref c_WebError)=some true)
  (t_v:PySem.W.kitOne K (.ref c_TooMany) (.type "ValueError")=some true)
  (t_odd:PySem.W.kitAny K (.ref c_TooMany) [.ref c_BadBoard,.ref c_BadWeb,.ref c_NoBack,.ref c_NoRing,.ref c_NoRow,.ref c_NoStep,.ref c_NoText,.ref c_NotClear,.ref c_NotThree]=some false)
  (t_t:PySem.W.kitOne K (.ref c_TooMany) (.ref c_TooMany)=some true)
  (t_n:PySem.W.kitOne K (.ref c_TooMany) (.ref c_NoTie)=some false)
  (n_ex:PySem.W.excIn K c_NoTie hX "ValueError.__new__" = true)
  (n_ga:PySem.W.findIn K (.ref c_NoTie) "__getattribute__" = some (some (.builtin "BaseException.__getattribute__")))
  (n_gt:PySem.W.findIn K (.ref c_NoTie) "__getattr__" = some none)
  (n_cl:PySem.W.findIn K (.ref c_NoTie) "__class__" = some (some (.builtin "object.__class__")))
  (n_mo:PySem.W.subIn K (.ref c_NoTie) (.type "object")=some true)
  (n_sb:PySem.W.subIn K (.ref c_NoTie) (.type "BaseException")=some true)
  (n_it:(PySem.W.clsIn K c_NoTie).isSome=true)
  (n_m:PySem.W.exmOne K (.ref c_NoTie) (.ref c_WebError)=some true)
  (n_v:PySem.W.kitOne K (.ref c_NoTie) (.type "ValueError")=some true)
  (n_odd:PySem.W.kitAny K (.ref c_NoTie) [.ref c_BadBoard,.ref c_BadWeb,.ref c_NoBack,.ref c_NoRing,.ref c_NoRow,.ref c_NoStep,.ref c_NoText,.ref c_NotClear,.ref c_NotThree]=some false)
  (n_t:PySem.W.kitOne K (.ref c_NoTie) (.ref c_TooMany)=some false)
  (n_n:PySem.W.kitOne K (.ref c_NoTie) (.ref c_NoTie)=some true)
  : ∃fd:sA,(∀(s:qy) (v:qw),BindsTo s fd ⟨[v],[]⟩ [("script",v)])/\∀base:Heap,K.In base->base.Ns qT mg->bu l.prog w K mg base CX0 6 fa fd ["script"] (iy K):=by
 obtain ⟨fl,od,an,sl,oc,kV,dc,pm,cd,ct,al,ll,cl,kl⟩:=h18
 have e:=hfa.symm.trans (rV X G al)
 cases e
 have F18:=iF ll cl kl
 have z_all:=rF X G y_all
 have z_bool:=rF X G y_bool
 have z_divmod:=rF X G y_divmod
 have z_int:=rF X G y_int
 have z_isinstance:=rF X G y_isinstance
 have z_len:=rF X G y_len
 have z_list:=rF X G y_list
 have z_max:=rF X G y_max
 have z_min:=rF X G y_min
 have z_range:=rF X G y_range
 have z_sorted:=rF X G y_sorted
 have z_str:=rF X G y_str
 have z_tuple:=rF X G y_tuple
 have z_ValueError:=rF X G y_ValueError
 have w_MOST_TIES:=rV X G q_MOST_TIES
 refine ⟨PySem.W.fnOf "law" "law" (bN j7) (bz j7) (ao j7) .none kV dc pm an cd ct,λs v =>.of_eq rfl,λbase kb nb =>?_⟩
 have B:Blt mg:=⟨z_all,z_bool,z_divmod,z_int,z_isinstance,z_len,z_list,z_max,z_min,z_range,z_sorted,z_str,z_tuple,z_ValueError⟩
 have C:Cst mg:=⟨⟨_,w_MOST_TIES⟩⟩
 have x_WebError:=rV X G e_WebError
 have x_BadWeb:=rV X G e_BadWeb
 have x_NoStep:=rV X G e_NoStep
 have x_NoText:=rV X G e_NoText
 have x_TooMany:=rV X G e_TooMany
 have x_NoTie:=rV X G e_NoTie
 have x_NoRing:=rV X G e_NoRing
 have x_NotClear:=rV X G e_NotClear
 have x_NotThree:=rV X G e_NotThree
 have x_BadBoard:=rV X G e_BadBoard
 have x_NoRow:=rV X G e_NoRow
 have x_NoBack:=rV X G e_NoBack
 have Z:Exs K mg c_WebError c_BadWeb c_NoStep c_NoText c_TooMany c_NoTie c_NoRing c_NotClear c_NotThree c_BadBoard c_NoRow c_NoBack:=⟨x_WebError,x_BadWeb,x_NoStep,x_NoText,x_TooMany,x_NoTie,x_NoRing,x_NotClear,x_NotThree,x_BadBoard,x_NoRow,x_NoBack,t_ex,⟨t_ga,t_gt,t_cl,t_mo,t_sb,t_it⟩,t_m,t_v,t_odd,t_t,t_n,n_ex,⟨n_ga,n_gt,n_cl,n_mo,n_sb,n_it⟩,n_m,n_v,n_odd,n_t,n_n⟩
 have cLMixed:=h8.cal l.prog w base X G (λF=>m9 F) λ_ _ _ _ _ _ us hl=>match us,hl with | [_,_],_=>rfl
 have cLDeal:=h9.cal l.prog w base X G (λF=>o4 F cLMixed z_range) λ_ _ _ _ _ _ us hl=>match us,hl with | [_],_=>rfl
 have cLNext:=h10.cal l.prog w base X G (λF=>o5 F z_divmod) λ_ _ _ _ _ _ us hl=>match us,hl with | [_,_],_=>rfl
 have cLTies:=h11.cal l.prog w base X G (λF=>o6 F z_range z_min cLNext) λ_ _ _ _ _ _ us hl=>match us,hl with | [_,_,_],_=>rfl
 have cLWeb:=h12.cal l.prog w base X G (λF=>qm F B z_sorted z_max z_min cLNext cLTies) λ_ _ _ _ _ _ us hl=>match us,hl with | [_,_,_],_=>rfl
 have cLOrder:=h14.cal l.prog w base X G (λF=>lV F B cLNext C) λ_ _ _ _ _ _ us hl=>match us,hl with | [_,_],_=>rfl
 have cTieOf:=h1.cal l.prog w base X G (λF=>qi F z_max z_min) λ_ _ _ _ _ _ us hl=>match us,hl with | [_,_],_=>rfl
 have cRenamedWeb:=h4.cal l.prog w base X G (λF=>qr F B z_sorted cTieOf) λ_ _ _ _ _ _ us hl=>match us,hl with | [_,_],_=>rfl
 have cS0:=h13.cal l.prog w base X G (λF=>m8 F B) λ_ _ _ _ _ _ us hl=>match us,hl with | [_,_],_=>rfl
 have cS1:=h13.cal l.prog w base X G (λF=>gL F B cS0) λ_ _ _ _ _ _ us hl=>match us,hl with | [_,_],_=>rfl
 have cS2:=h13.cal l.prog w base X G (λF=>gL F B cS1) λ_ _ _ _ _ _ us hl=>match us,hl with | [_,_],_=>rfl
 have cLSame:=h13.cal l.prog w base X G (λF=>gL F B cS2) λ_ _ _ _ _ _ us hl=>match us,hl with | [_,_],_=>rfl
 have cCutWeb:=h3.cal l.prog w base X G (λF=>qp F B) λ_ _ _ _ _ _ us hl=>match us,hl with | [_,_],_=>rfl
 have cSideBySide:=h5.cal l.prog w base X G (λF=>gS F B C) λ_ _ _ _ _ _ us hl=>match us,hl with | [_,_],_=>rfl
 have cLTie:=h15.cal l.prog w base X G (λF=>pf F B C) λ_ _ _ _ _ _ us hl=>match us,hl with | [_,_],_=>rfl
 have xPut:=h6.qa l.prog w base X G (λF=>ql Z F B z_sorted w_MOST_TIES cTieOf) λ_ _ _ _ _ _ us hl=>match us,hl with | [_,_,_],_=>rfl
 have cPutTie:Cal l.prog w K mg base 2 "put_tie" ["web", "one", "other"] ik:=xPut.calm lO
 have cTiedTimes:=h2.cal l.prog w base X G (λF=>ni F cTieOf) λ_ _ _ _ _ _ us hl=>match us,hl with | [_,_,_],_=>rfl
 have xLess:=h7.qa l.prog w base X G (λF=>o7 Z F B cTieOf cTiedTimes) λ_ _ _ _ _ _ us hl=>match us,hl with | [_,_,_],_=>rfl
 have cLessTie:Cal l.prog w K mg base 3 "less_tie" ["web", "one", "other"] fu:=xLess.calm j9
 have cLKind:=h16.cal l.prog w base X G (λF=>nj F B Z xPut xLess C) λ_ _ _ _ _ _ us hl=>match us,hl with | [_,_,_,_],_=>rfl
 have cLOneTie:=h17.cal l.prog w base X G (λF=>kg F B cLNext cLTie cLKind cLSame cPutTie cLessTie C) λ_ _ _ _ _ _ us hl=>match us,hl with | [_,_],_=>rfl
 exact qs F18 B cLDeal cLWeb cLOrder cRenamedWeb cLSame cLNext cCutWeb cSideBySide cLOneTie cLTie C
theorem walk {l:PySem.W.OpenLaw}{q:qX}{loose:List Str}{XP:(Str->Option qw)->Heap->Prop}{YP:rO->Heap->Prop}{d:DefRec}{K:Params->qv}(hn:l.most=some 63)(hdf:d.params.defaults=[])
  (hY:∀(w:rO) (h:Heap),YP w h->(K w.params).In h)
  (F:∀(w:rO) (mg:Str->Option qw) (fa:Addr) (h:Heap),(K w.params).In h->h.Ns qT mg->mg d.name=some (.ref fa) →
   ∃fd:sA,(∀(s:qy) (u:qw),BindsTo s fd ⟨[u],[]⟩ [("script",u)])/\∀base:Heap,(K w.params).In base->base.Ns qT mg->bu l.prog w (K w.params) mg base CX0 6 fa fd ["script"] (iy (K w.params))) :
  PySem.W.WalkO q loose XP YP l.row.toRowW d [] (λf vs=>PySem.call f vs) :=
 L2.my (n:=63) (k:=6) (x := "script") (CX:=λ_=>CX0) (sp:=λw=>iy (K w.params)) hn (by decide) hdf ⟨rfl,by decide,by decide⟩ hY F (λ_ _ a ns hl _ hS=>⟨a,ns,rfl,hS,hl,λ_=>rfl⟩) λ_ _ _ _ _ z=>z
end K04
def PySem.W.Fast.tw6383415649337862728:Nat:=0
def PySem.W.Fast.tw15460797082251700639:Nat:=0
def PySem.W.Fast.tw4402395088082861496:Nat:=0
def PySem.W.Fast.tw10323372204031154049:Nat:=0
def PySem.W.Fast.tw3419853101547501716:Nat:=0
def PySem.W.Fast.tw10968540590478917508:Nat:=0
def PySem.W.Fast.tw934328113875404275:Nat:=0
def PySem.W.Fast.tw15586385457457488259:Nat:=0
def PySem.W.Fast.tw12583996882425133176:Nat:=0
def PySem.W.Fast.tw17336600036782266719:Nat:=0
def PySem.W.Fast.tw9199211293686343270:Nat:=0
def PySem.W.Fast.tw15137027864288913851:Nat:=0
def PySem.W.Fast.tw17556672810843376581:Nat:=0
def PySem.W.Fast.tw188208191941225039:Nat:=0
def PySem.W.Fast.tw3482693341335426218:Nat:=0
def PySem.W.Fast.tw2909797874306882059:Nat:=0
def PySem.W.Fast.tw10519692622993099513:Nat:=0
def PySem.W.Fast.tw9067079662753564497:Nat:=0
def PySem.W.Fast.tw17220512193538340331:Nat:=0
def PySem.W.Fast.tw5327805261575385811:Nat:=0
def PySem.W.Fast.tw7395159412693066341:Nat:=0
def PySem.W.Fast.tw10257271600993284510:Nat:=0
def PySem.W.Fast.tw2781933813375874181:Nat:=0
def PySem.W.Fast.tw12756773084877288054:Nat:=0
def PySem.W.Fast.tw7389308562171150137:Nat:=0
def PySem.W.Fast.tw17515439780071441248:Nat:=0
def PySem.W.Fast.tw5808605940792539673:Nat:=0
def PySem.W.Fast.tw15513932367992582099:Nat:=0
def PySem.W.Fast.tw17473072701015808355:Nat:=0
def PySem.W.Fast.tw12161482470689646081:Nat:=0
def PySem.W.Fast.tw7856388393173946470:Nat:=0
def PySem.W.Fast.tw6128092349919688602:Nat:=0
def PySem.W.Fast.tw6336715112344364370:Nat:=0
def PySem.W.Fast.tw7054662011990166971:Nat:=0
def PySem.W.Fast.tw9585576927685866951:Nat:=0
def PySem.W.Fast.tw12730626278196671099:Nat:=0
def PySem.W.Fast.tw10209152597263307577:Nat:=0
def PySem.W.Fast.tw14494232867369026879:Nat:=0
def PySem.W.Fast.tw13000234552307860696:Nat:=0
def PySem.W.Fast.tw5793844504988177266:Nat:=0
def PySem.W.Fast.tw18129721660818262367:Nat:=0
def PySem.W.Fast.tw2733030888509576705:Nat:=0
def PySem.W.Fast.tw5815995688399061125:Nat:=0
def PySem.W.Fast.tw9557444404579056070:Nat:=0
def PySem.W.Fast.tw8456445783023391051:Nat:=0
def PySem.W.Fast.tw5599737724147490982:Nat:=0
def PySem.W.Fast.tw7269378356625966023:Nat:=0
def PySem.W.Fast.tw9436689534702444223:Nat:=0
def PySem.W.Fast.tw11560662303256185776:Nat:=0
def PySem.W.Fast.tw16993830961788747796:Nat:=0
def PySem.W.Fast.tw17433662085076526268:Nat:=0
def PySem.W.Fast.tw15132488972168538593:Nat:=0
def PySem.W.Fast.tw10346878180960793467:Nat:=0
def PySem.W.Fast.tw14291776541139951842:Nat:=0
def PySem.W.Fast.tw10975790041215935504:Nat:=0
def PySem.W.Fast.tw16556945033764780527:Nat:=0
def PySem.W.Fast.tw2314956032671215145:Nat:=0
def PySem.W.Fast.tw9016857743313149606:Nat:=0
def PySem.W.Fast.tw7649679520371185294:Nat:=0
def PySem.W.Fast.tw15263298218482430860:Nat:=0
def PySem.W.Fast.tw6679146666538248378:Nat:=0
def PySem.W.Fast.tw346054757677851975:Nat:=0
def PySem.W.Fast.tw9688234229042291942:Nat:=0
def PySem.W.Fast.tw12418071672947299479:Nat:=0
def PySem.W.Fast.tw1544259434257005035:Nat:=0
def PySem.W.Fast.tw3164257238873817153:Nat:=0
def PySem.W.Fast.tw8966991555707347589:Nat:=0
def PySem.W.Fast.tw11993920699988952005:Nat:=0
def PySem.W.Fast.tw9530143053819312596:Nat:=0
def PySem.W.Fast.tw14230244911480144066:Nat:=0
def PySem.W.Fast.tw15695731199236992190:Nat:=0
def PySem.W.Fast.tw2210483817943131530:Nat:=0
def PySem.W.Fast.tw8919857551865135647:Nat:=0
def PySem.W.Fast.tw16718872485293493357:Nat:=0
def PySem.W.Fast.tw3867973627663691067:Nat:=0
def PySem.W.Fast.tw8715915918073119072:Nat:=0
def PySem.W.Fast.tw7967157679271718101:Nat:=0
def PySem.W.Fast.tw15098279205714895616:Nat:=0
def PySem.W.Fast.tw7227261385836217042:Nat:=0
def PySem.W.Fast.tw3609378053197801401:Nat:=0
def PySem.W.Fast.tw15036033140136797856:Nat:=0
def PySem.W.Fast.tw15831267099960240999:Nat:=0
def PySem.W.Fast.tw209481935021830668:Nat:=0
def PySem.W.Fast.tw10749660381399237551:Nat:=0
def PySem.W.Fast.tw14642521967196537923:Nat:=0
def PySem.W.Fast.tw12670539159398076351:Nat:=0
def PySem.W.Fast.tw3932615033280662808:Nat:=0
def PySem.W.Fast.tw3866079135823032644:Nat:=0
def PySem.W.Fast.tw14540816078302760949:Nat:=0
def PySem.W.Fast.tw14883606859485315457:Nat:=0
def PySem.W.Fast.tw17669436341249049117:Nat:=0
def PySem.W.Fast.tw12310100052284658527:Nat:=0
def PySem.W.Fast.tw7284644704624187493:Nat:=0
def PySem.W.Fast.tw15771947237523048826:Nat:=0
def PySem.W.Fast.tw9360800743177188852:Nat:=0
def PySem.W.Fast.tw7685033982147818643:Nat:=0
def PySem.W.Fast.tw18260002864741553939:Nat:=0
def PySem.W.Fast.tw4346853018793383797:Nat:=0
def PySem.W.Fast.tw8894485306556632441:Nat:=0
def PySem.W.Fast.tw4167453830873705529:Nat:=0
def PySem.W.Fast.tw7555851845002800944:Nat:=0
def PySem.W.Fast.tw14412158106562009602:Nat:=0
def PySem.W.Fast.tw1617343095763357263:Nat:=0
def PySem.W.Fast.tw18004601095277848701:Nat:=0
def PySem.W.Fast.tw13853947464474645021:Nat:=0
def PySem.W.Fast.tw2581661593804346984:Nat:=0
def PySem.W.Fast.tw10033001323164565521:Nat:=0
def PySem.W.Fast.tw11383748364785365172:Nat:=0
def PySem.W.Fast.tw11403087437452626542:Nat:=0
def PySem.W.Fast.tw10537584374840129002:Nat:=0
def PySem.W.Fast.tw922532616396579:Nat:=0
def PySem.W.Fast.tw897050221896912180:Nat:=0
def PySem.W.Fast.tw13432789939996413422:Nat:=0
def PySem.W.Fast.tw17340469384076044129:Nat:=0
def PySem.W.Fast.tw16487160988065995066:Nat:=0
def PySem.W.Fast.tw17466397659979185964:Nat:=0
def PySem.W.Fast.tw7334570212912946290:Nat:=0
def PySem.W.Fast.tw7465467361096685701:Nat:=0
def PySem.W.Fast.tw11724108495058386608:Nat:=0
def PySem.W.Fast.tw3163754843016669579:Nat:=0
def PySem.W.Fast.tw15090753561049555392:Nat:=0
def PySem.W.Fast.tw17691462973517356767:Nat:=0
def PySem.W.Fast.tw15857042532772224969:Nat:=0
def PySem.W.Fast.tw1707229187021945103:Nat:=0
def PySem.W.Fast.tw4460895122483394809:Nat:=0
def PySem.W.Fast.tw13867515363378178967:Nat:=0
def PySem.W.Fast.tw16707213401826589286:Nat:=0
def PySem.W.Fast.tw12880605845910984817:Nat:=0
def PySem.W.Fast.tw10908087368587392955:Nat:=0
def PySem.W.Fast.tw1828657691864945776:Nat:=0
def PySem.W.Fast.tw9243505123646613055:Nat:=0
def PySem.W.Fast.tw11756036849743129838:Nat:=0
def PySem.W.Fast.tw15321566088011032313:Nat:=0
def PySem.W.Fast.tw5664879548343130895:Nat:=0
def PySem.W.Fast.tw17634582995593287537:Nat:=0
def PySem.W.Fast.tw1919075759838528020:Nat:=0
def PySem.W.Fast.tw11008441651539116153:Nat:=0
def PySem.W.Fast.tw12241312281290553:Nat:=0
def PySem.W.Fast.tw8331486547763651429:Nat:=0
def PySem.W.Fast.tw11567625390213532184:Nat:=0
def PySem.W.Fast.tw13011383325333703791:Nat:=0
def PySem.W.Fast.tw3550011787924115300:Nat:=0
def PySem.W.Fast.tw5714264877923315166:Nat:=0
def PySem.W.Fast.tw4703787716214907739:Nat:=0
def PySem.W.Fast.tw7279897256788897545:Nat:=0
def PySem.W.Fast.tw4747117515729660280:Nat:=0
def PySem.W.Fast.tw5688968308760136050:Nat:=0
def PySem.W.Fast.tw13495065466362675521:Nat:=0
def PySem.W.Fast.tw968940376313694315:Nat:=0
def PySem.W.Fast.tw2840903280169573892:Nat:=0
def PySem.W.Fast.tw12981021653579618190:Nat:=0
def PySem.W.Fast.tw11461283383233794777:Nat:=0
def PySem.W.Fast.tw2295800308451994912:Nat:=0
def PySem.W.Fast.tw654699174340282235:Nat:=0
def PySem.W.Fast.tw13034892710201939198:Nat:=0
def PySem.W.Fast.tw6332285603060198748:Nat:=0
def PySem.W.Fast.tw99618222606849914:Nat:=0
def PySem.W.Fast.tw3918946149205626306:Nat:=0
def PySem.W.Fast.tw11333956911336014852:Nat:=0
def PySem.W.Fast.tw3347160899373801937:Nat:=0
def PySem.W.Fast.tw16439538107405979689:Nat:=0
def PySem.W.Fast.tw4939304269915062144:Nat:=0
def PySem.W.Fast.tw2202604984802937644:Nat:=0
def PySem.W.Fast.tw2801588328355765208:Nat:=0
def PySem.W.Fast.tw2917533435010376416:Nat:=0
def PySem.W.Fast.tw1017139825021055835:Nat:=0
def PySem.W.Fast.tw8548908847462531039:Nat:=0
open PySem PySem.W PyProof.Rows
set_option maxRecDepth 100000 in
set_option maxHeartbeats 0 in
theorem PySem.Challenge.cw_ringfell_k04_webs_cut_and_joined_holds : PySem.Challenge.rw_ringfell_k04_webs_cut_and_joined.Holds := by
 w_on;o_law;k_head;(case hw=>w_witness2)
 k_fill
 refine K04.walk (l:=PySem.Challenge.rw_ringfell_k04_webs_cut_and_joined) rfl rfl (λw h Y=>PySem.W.kIn_of Y) ?F
 case F =>
  intro w mg fa h KX G hmg
  refine' K04.all_mk KX G hmg ?_ ?_ ?_ ?_ ?_ ?_ ?_ ?_ ?_ ?_ ?_ ?_ ?_ ?_ ?_ ?_ ?_ ?_ ?_ ?_ ?_ ?_ ?_ ?_ ?_ ?_ ?_ ?_ ?_ ?_ ?_ ?_ ?_ ?_ ?_ ?_ ?_ ?_ ?_ ?_ ?_ ?_ ?_ ?_ ?_ ?_ ?_ ?_ ?_ ?_ ?_ ?_ ?_ ?_ ?_ ?_ ?_ ?_ ?_ ?_ ?_ ?_ ?_ ?_ ?_ ?_ ?_ ?_ ?_
  any_goals k_is
  any_goals (refine' L2.bL.mk ?a ?l ?c ?k;(case a=>k_is);(case l=>k_is);(case c=>k_is);(case k=>k_is))
  all_goals kernel_rfl
