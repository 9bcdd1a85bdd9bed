import PyProof.Rows.All
import Wide.All
import OpenK.AllK
import Wide.FinOn
import Lean
import PyProof.EqAt
import PyProof.EqKinds
import PyProof.TupleCall
import KE.KRevIter
import PyProof.ZipIter
import KE.KSortKey
import PySem.Challenge.RW_ringfell_k69_tables_judged
open List renaming length_map → uT,size_toArray → u0,length_append → u9,getElem?_eq_some_iff → vb,mem_of_getElem? → vf,getElem?_map → vi,map_append → vj,getElem?_eq_getElem → vk,map_cons → vw,mem_append → vx,getD_eq_getElem?_getD → vz,mem_singleton → vA,mem_cons_self → vC,take_of_length_le → vD,mem_cons_of_mem → vG,mem_cons → vM,mem_append_right → vN,take_add_one → vQ,length_cons → vT,append_assoc → vZ,length_take → v3,mem_iff_getElem? → v8,map_map → v9,pairwise_append → wd,replicate → wg,pairwise_map → wj,lookup_cons → wk,mem_map → wq,length_singleton → wx,pairwise_singleton → wz,extract_eq_take_drop → wD,range → wF,drop_sublist → wH,append_nil → wM,take_sublist → wQ,nodup_cons → xc,getElem?_zip_eq_some → xf,getElem?_set_self → xr,replicate_succ → xt,flatten_cons → xu,getElem?_toArray → xx,take_append_drop → xA,getElem?_take_of_lt → xD,getElem?_take → xF,length_drop → xH,mem_range → xM,mem_map_of_mem → xR,all_eq_true → xX,getElem?_eq_none → x3,getElem?_set_ne → x9,mem_of_mem_drop → yc,mem_of_mem_take → ye,getElem?_of_mem → yf,mem_filter → yg,map_congr_left → yo,pairwise_cons → yv,length_nil → yw,perm_append_comm → yx,length_zip → yy,find?_cons → yB,getElem?_append_right → yH,mem_append_left → yJ,getElem?_append_left → yL,pairwise_iff_getElem → yN,ext_getElem → yR,reverse_append → yV,length_reverse → yW,set_set → yY,of_mem_zip → y3,zip_cons_cons → y6,any_cons → y9,getElem?_drop → zc,sum_cons → zg,ext_getElem? → zp,getElem?_inj → zt,nodup_nil → zv,getElem_mem → zD,drop_append_of_le_length → zE,take_append_of_le_length → zF,filterMap_cons → zN,length_set → zO,nil_append → zP,map_eq_nil_iff → zT,length_pos_iff → zV,take_zero → Ah,drop_left → Ai,getElem?_eq_none_iff → Aj,zipIdx_cons → AH,any_eq_true → AI,filter_cons → AK,drop_eq_nil_of_le → AQ,length_replicate → AU,forIn_cons → AV,reverse_reverse → A5,getElem_of_mem → Bc,length_take_le → Bd,mem_filterMap → Bk,map_inj_right → Bo,map_take → Bq,filter_append → Br,reverse_cons → BE,mapM_toArray → BG,nodup_append → BH,map_nil → BL,perm_middle → BV,foldl_cons → B5,zipIdx_nil → Ca,drop_drop → Cm,drop_zero → Cn,forIn_nil → Cp,all_cons → Cz,set_comm → CA,map_drop → CF,all_map → CH
open PySem renaming wpAny_bind → uU,Value → uW,Shared → uZ,wpAny_pure → vg,sizeLine → vm,Program → vI,wpAny → vJ,model → vK,mainGlobals → v5,Around → v7,World → wc,bootBuiltins → we,wpAny_ite_split → wB,starEach → wC,wpAny_call_entry → wG,wpAny_callSpecial?_slot → wL,FuncData → wO,wpAny_newObj_type → wU,wpAny_field → wW,codeAny_builtin → xo,wpAny_attempt → xp,builtinLookup_eq_fast → xB,wpAny_mono → xG,wpAny_holding → xK,mem_of_lookup → xP,compareOp → xS,richCompare_meets_room → xV,wpAny_rule → xY,wpAny_Call_Name_kw → x4,wpAny_setField_rec → x5,wpAny_seqItems → x6,wpAny_of_eq → x8,wpAny_truthy_bool → yk,wpAny_specialOf → yD,typeLookup_type → yE,plainId_quiet → yG,isSubtype_type → yQ,wpAny_isInstance → yT,wpAny_passesOwn → zh,wpAny_newList → zj,wpAny_pyIter_list → zu,wpAny_setField → zw,wpAny_typeOf → zB,wpAny_updateSeq_pair → zI,rawInt → zX,wpAny_pyIter_tuple → Ac,backTo → Ae,wpAny_runValue → Am,call_meets → Aq,wpAny_standAt → AA,wpAny_onRaise → AB,wpAny_letGo → AD,codeAny → AE,noFill_tuple_add → AL,wpAny_isTrue_Compare1 → A0,wpAny_execs_nil → A1,concat_meets → A2,callType_new → A3,wpAny_load → A4,codeAny_extend_loopS → A8,wpAny_newTuple → A9,isSubtype_stop → Ba,sizeLine_eq → Be,seqIndex_of → Bf,seq_tuple_add → Bs,wpAny_eqBool_tuple → Bt,tupleKind_room_in1 → Bv,signature?_of → Bw,init_tuple_lookup → BJ,wpAny_pyIter_slot → BK,codeAny_mono → BM,seqIndex_neg → BN,intItems → B4,wpAny_Name → Cw,typeIs_int → Cy,numAt_eq → CG
open PySem.Heap renaming get?_push_of_some → uV,get?_push_size → ve,lt_size → vh,get?_update_self → vW,get?_update_other → vX,get?_update_ne → xh,size_push → yM,size_update → BZ
open PySem.W renaming Frag → u6,mg_none_of → wb,nsIn → wV,kia_one → xb,cellsFrom_some → AM,mg_of → Bp,kitx_list → Bx,kitx_dict → Bz,kat_cons → B2,kat_yes → Cb,kat_one → Cc,kat_no → Cq
open Nat renaming le_refl → va,lt_of_lt_of_le → vF,ne_of_lt → vH,le_trans → vP,zero_le → vY,lt_of_le_of_lt → wI,lt_irrefl → wX,ne_of_gt → xw,le_sub_one_of_lt → xI,pow_le_pow_right → xJ,lt_succ_of_lt → yh,le_of_lt → ym,add_sub_cancel_left → yn,le_add_right → yq,eq_zero_of_not_pos → yu,add_le_add_left → yU,zero_add → yZ,le_succ_of_le → zo,sub_one_lt_of_lt → zH,lt_of_succ_lt → Ao,le_of_sub_eq_zero → AX,min_self → AY,lt_of_le_of_ne → Bn,sub_pos_of_lt → BC,le_of_succ_le → BD,le_of_not_lt → BR,lt_succ_self → BS,succ_le_succ → BW,lt_of_not_le → B3,le_antisymm → B8,mul_le_mul → Cr,add_assoc → CB
open Array renaming length_toList → vo,getElem?_toList → vv,toList_append → vS,getElem?_eq_some_iff → wZ,toList_extract → w4,toList_push → xN,size_push → xQ,toList_reverse → yd,size_append → yF,getElem?_eq_getElem → yO,toList_setIfInBounds → z9,perm_iff_toList_perm → Aa,toList_inj → AG,getElem?_eq_none → AR,toList_map → BX,size_map → Co
open Bool renaming false_ne_true → vp,and_eq_true → wN,false_eq_true → w6,eq_iff_iff → w9,eq_false_iff → zr,not_true → Au,false_and → Cf,false_or → CC
open PySem.Value renaming ref → vq,none → xq,int → xC,type → yr
open PyProof.Rows renaming wpS_bind → vt,Keyed → vy,wpS_pure → vB,arrOf → vE,pendingOf → vL,SortSt → vO,wpS_forRange → wJ,callWith_type1 → xj,wpS_mono → xv,wpS_modify → xO,IntsAre → xT,listUpdate_at → yp,get?_update_seq → zi,slot_tuple_getitem → zq,listItems_at → zA,reverseSlice'_eq → zG,KeyOrd → zJ,wpS_get → zW,wpS_lift → Ad,subscriptTail_builtinR → AS,getElem?_mirror_all → Bg,seqEpoch_at → Bh,size_push' → BI,plain_sorted → BO,entry_sorted → BP,len_tuple → Cd,kind_sorted → Ce
open Option.some renaming inj → vR
open PyProof.Rows.KeyOrd renaming kle_trans → vU,kle_of_klt → wR,kle_refl → xk,kle_antisymm → Bb
open PySem.Obj renaming mapSeq → vV,data_mapFields → xZ,isFreed_of_fields → zy,cls_mapFields → BB
open PySem.Builtin.List renaming listExtendWith → wm,listSameRef → yl,listLengthHint → zY
open Int renaming toNat_natCast → wu,fdiv_eq_ediv_of_nonneg → z0,emod_lt_of_pos → Ab,emod_nonneg → AZ
open PySem.PassesOwn renaming never → wA
open PySem.F renaming slot_dict_itemiterator_next → wK,plainAttrs_list → wY,plain_extend_loop → xg,plain_list_iadd → xn,slot_tuple_iterator_next → xW,slot_list_append → yi,type_list_append → yj,entry_proto_collect → yz,plain_proto_collect → yA,args_object_init_2 → yI,args_dict_itemiterator_next_1 → yK,entry_dict_itemiterator_next → yP,args_tuple_add_2 → yX,entry_tuple_add → y7,entry_list_iadd → zd,slot_list_index → ze,slot_dict_items → zf,slot_tuple_add → zk,slot_tuple_lt → zx,args_list_ne_2 → zC,args_tuple_iterator_next_1 → zK,slot_dict_items_iter → zL,entry_list_ne → zQ,entry_tuple_iterator_next → zR,slot_zip_next → zU,slot_list_ne → Af,entry_extend_loop → Al,typeCall_tuple_1 → Ap,args_tuple_lt_2 → Ar,newCall_tuple_1 → Av,entry_tuple_new → Aw,type_list_index → Ax,plainAttrs_dict → Ay,type_dict_items → Az,entry_tuple_lt → AN,called_tuple → A6,mro_reversed → A7,args_zip_next_1 → BF,entry_zip_next → B0,slot_int_rmul → B6
open PySem.Around renaming under_plainId → w5,in1_units → yS
open Ne renaming symm → xi
open List.Perm renaming append_left → xy,append_right → xU,refl → Ag
open PySem.SeqAt.EqAt renaming int_int → xE,same → y8,int_str → Bi,str_int → Bj,of_refs → Bm
open PySem.SeqAt renaming EqAt → yt,list_ne_lengthsAt → As,list_neAt → B7
open Iff renaming rfl → yC
open PySem.Paired renaming length → y2,snoc → CK
open List.cons renaming inj → zM
open PySem.Heap.SameBut renaming update → zS
open PySem.Calls renaming Name_function_global → zZ,call_function_entry → Ak,callWith_builtin → AO,spliced_cons → Bl,spliced_nil → BA
open PySem.SeqAt.RcAt renaming tuples → An,lists → BU
open PySem.AutoListH renaming list_insert_list_int_val_1 → AF
open PySem.W.Looks renaming ld → AJ,here → CO
open Option renaming map_some → AW,getD_none → BQ
open PySem.Heap.ExtBut renaming push → B1
open StateT renaming run_pure → B9
open PySem.EqMixed renaming eq_bool_str → Cg,eq_str_bool → Ci,ne_bool_str → Cj,ne_str_bool → Ck,eq_int_str → Cs,eq_str_int → Ct,ne_int_str → Cu,ne_str_int → Cv
open PySem.Moved renaming eq_with → CD
open PySem.W.KatTups renaming cons → CI
open List.Pairwise renaming filter → CJ
open PySem.ItemsOf renaming nil → CL
open PySem.Heap.IsSliceOf renaming new → CM
open Prod renaming ext → CN
set_option Elab.async false
set_option linter.all false
set_option maxRecDepth 100000
namespace L2
open PySem PySem.Spec PyProof.Rows
abbrev Key:=Sum Int Str
def iF:Key->uW->Bool
 | .inl k,v=>Value.isInt k v
 | .inr x,v=>Value.isStrOf x v
def keyH (w:wc):Key->Int
 | .inl k=>hashInt k
 | .inr x=>hashStr w x
theorem aY:∀{k:Key} {v:uW},iF k v=true->(∃i t,k=Sum.inl i/\v=xC i t)\/(∃x t,k=Sum.inr x/\v=Value.str x t)
 | .inl i,v,h=>by
  obtain ⟨t,e⟩:=Value.isInt_shape (k:=i) (v:=v) h
  exact .inl ⟨i,t,rfl,e⟩
 | .inr x,v,h=>by
  obtain ⟨t,e⟩:=Value.isStrOf_shape (x:=x) (v:=v) h
  exact .inr ⟨x,t,rfl,e⟩
theorem mO (i:Int)(t:Tok):iF (.inl i) (.int i t)=true:=by simp[iF,Value.isInt]
theorem mP (x:Str)(t:Tok):iF (.inr x) (.str x t)=true:=by simp[iF,Value.isStrOf]
theorem rV (a b:Int):decide ((Sum.inl a:Key)=Sum.inl b)=(a == b):=by
 by_cases e:a=b
 ·subst e;simp
 ·have h:¬ (Sum.inl a:Key)=Sum.inl b:=λq=>e (Sum.inl.inj q)
  rw[decide_eq_false h]
  exact (beq_eq_false_iff_ne.mpr e).symm
theorem rW (a b:Str):decide ((Sum.inr a:Key)=Sum.inr b)=decide (a=b):=by
 by_cases e:a=b
 ·subst e;simp
 ·have h:¬ (Sum.inr a:Key)=Sum.inr b:=λq=>e (Sum.inr.inj q)
  rw[decide_eq_false h,decide_eq_false e]
theorem rX (a:Int)(b:Str):decide ((Sum.inl a:Key)=Sum.inr b)=false:=decide_eq_false (λq=>nomatch q)
theorem rY (a:Str)(b:Int):decide ((Sum.inr a:Key)=Sum.inl b)=false:=decide_eq_false (λq=>nomatch q)
def bq (prog:vI)(w:wc):PySem.KeyKind prog w Key where
 is:=iF
 hash:=keyH w
 inj:=λv a b ha hb=>by
  rcases aY ha with ⟨i,t,rfl,rfl⟩ | ⟨x,t,rfl,rfl⟩
  ·rcases aY hb with ⟨j,u,rfl,e⟩ | ⟨y,u,rfl,e⟩
   ·injection e with e1 _;rw[e1]
   ·exact nomatch e
  ·rcases aY hb with ⟨j,u,rfl,e⟩ | ⟨y,u,rfl,e⟩
   ·exact nomatch e
   ·injection e with e1 _;rw[e1]
 byValue:=λk v h=>by
  rcases aY h with ⟨i,t,rfl,rfl⟩ | ⟨x,t,rfl,rfl⟩ <;> rfl
 pyHash:=λhv h=>by
  rcases aY hv with ⟨i,t,rfl,rfl⟩ | ⟨x,t,rfl,rfl⟩
  ·exact wpAny_pyHash_int h
  ·exact wpAny_pyHash_str h
 eqBool:=λhu hv h=>by
  rcases aY hu with ⟨i,t,rfl,rfl⟩ | ⟨x,t,rfl,rfl⟩
  ·rcases aY hv with ⟨j,u,rfl,rfl⟩ | ⟨y,u,rfl,rfl⟩
   ·rw[rV] at h;exact wpAny_eqBool_int h
   ·rw[rX] at h;exact Bi i t y u _ _ _ _ h
  ·rcases aY hv with ⟨j,u,rfl,rfl⟩ | ⟨y,u,rfl,rfl⟩
   ·rw[rY] at h;exact Bj x t j u _ _ _ _ h
   ·rw[rW] at h;exact wpAny_eqBool_str h
 «strs» := λk x t v h=>by
  rcases aY h with ⟨i,u,rfl,e⟩ | ⟨y,u,rfl,e⟩
  ·exact nomatch e
  ·injection e with e1 _
   subst e1
   cases v <;> rfl
theorem jK (prog:vI)(w:wc)(i:Int)(t:Tok):(bq prog w).is (.inl i) (.int i t)=true:=mO i t
theorem jL (prog:vI)(w:wc)(x:Str)(t:Tok):(bq prog w).is (.inr x) (.str x t)=true:=mP x t
open PySem PySem.Spec PyProof.Rows
inductive V where
 | non | bl (b:Bool) | int (i:Int) | str (x:Str) | byt (b:Array UInt8) | flt (b:UInt64) | ref (a:Addr) | ty (n:String)
 deriving DecidableEq
def RelV:V->uW->Prop
 | .non,u=>u=xq
 | .bl b,u=>u=Value.bool b
 | .int i,u=>∃t,u=xC i t
 | .str x,u=>∃t,u=Value.str x t
 | .byt b,u=>∃t,u=Value.bytes b t
 | .flt b,u=>∃t,u=Value.float b t
 | .ref a,u=>u=vq a
 | .ty n,u=>u=yr n
abbrev Vals:List V->List uW->Prop:=Paired RelV
theorem Vals.length {xs:List V}{us:List uW}(r:Vals xs us):xs.length=us.length:=y2 r
theorem Vals.get:∀{xs:List V} {us:List uW} {i:Nat} {x:V},Vals xs us->xs[i]? = some x->∃u,us[i]? = some u/\RelV x u
 | _,_,_,_,.nil,e=>by simp at e
 | _,_,0,_,.cons r _,e=>by simp at e;subst e;exact ⟨_,rfl,r⟩
 | _,_,i+1,x,.cons _ t,e=>by
  obtain ⟨u,h1,h2⟩:=Vals.get (i:=i) (x:=x) t (by simpa using e)
  exact ⟨u,by simpa using h1,h2⟩
theorem Vals.set {x:V}{u:uW}(r:RelV x u):∀{xs:List V} {us:List uW} (i:Nat),Vals xs us->Vals (xs.set i x) (us.set i u)
 | _,_,_,.nil =>.nil
 | _,_,0,.cons _ t =>.cons r t
 | _,_,i+1,.cons q t =>.cons q (Vals.set r i t)
theorem Vals.append:∀{xs ys:List V} {us ws:List uW},Vals xs us->Vals ys ws->Vals (xs++ys) (us++ws)
 | _,_,_,_,.nil,s=>s
 | _,_,_,_,.cons r t,s =>.cons r (Vals.append t s)
theorem Vals.take:∀{xs:List V} {us:List uW} (n:Nat),Vals xs us->Vals (xs.take n) (us.take n)
 | _,_,0,_ =>.nil
 | _,_,_+1,.nil =>.nil
 | _,_,n+1,.cons r t =>.cons r (Vals.take n t)
theorem Vals.drop:∀{xs:List V} {us:List uW} (n:Nat),Vals xs us->Vals (xs.drop n) (us.drop n)
 | _,_,0,r=>r
 | _,_,_+1,.nil =>.nil
 | _,_,n+1,.cons _ t=>Vals.drop n t
def gB:Option V->Option uW->Prop
 | some v,some u=>RelV v u
 | none,none=>True
 | _,_=>False
def KV {κ:Type}:List (κ×V)->List (κ×uW)->Prop:=Paired λ(p:κ×V) (q:κ×uW)=>p.1=q.1/\RelV p.2 q.2
def kV:Key->V
 | .inl i =>.int i
 | .inr x =>.str x
inductive HO where
  | lst (xs:List V)
  | tup (xs:List V)
  | dK (kvs:List (Key×V)) | dT (kvs:List (List Key×V))
  | set (S:Int->Bool) (n:Nat)
  | ins (C dx:Addr) (fs:List (Str×V))
  | own (x:Addr)
  | xd (fs:List (Str×V))
  | met (f x:Addr)
  | rng (lo hi:Int)
  | frz (o:Obj) (u:HO)
  | tbl (ps:Array uW)
  | ext (φ:Heap->Prop)
abbrev Hp:=Addr->Option HO
def upd (H:Hp)(a:Addr)(o:HO):Hp:=λb=>if b=a then some o else H b
theorem af {H:Hp}{a:Addr}{o:HO}:upd H a o a=some o:=by unfold upd;rw[if_pos rfl]
theorem ax {H:Hp}{a b:Addr}{o:HO}(h:b≠a):upd H a o b=H b:=by unfold upd;rw[if_neg h]
theorem lO {H:Hp}{a b:Addr}{o u:HO}(h:H a=some o)(h':H b=some u)(d:o≠u):a≠b:=by
 intro e;subst e;rw[h] at h';exact d (vR h')
theorem ak {H:Hp}{a b:Addr}{o:HO}(h:H a=some o)(h':H b=none):a≠b:=by
 intro e;subst e;rw[h] at h';cases h'
def cJ (h:Heap)(a:Addr)(items:Array uW):Prop:=∃o,h.get? a=some o/\(o.cls = .type "tuple" /\ o.dict=none)/\∃n,o.data = .seq items n
theorem cJ.tup {h:Heap}{a:Addr}{items:Array uW}(x:cJ h a items):IsTup h a items:=let ⟨o,e,c,n,d⟩:=x;⟨o,e,c.1,n,d⟩
theorem cJ.new (h:Heap)(items:Array uW):cJ (h.push { cls :=.type "tuple",data :=.seq items }) h.objs.size items:=⟨_,ve _ rfl,⟨rfl,rfl⟩,_,rfl⟩
section
variable  (P:vI)(w:wc)
def aT (H:Hp)(h:Heap)(a:Addr):HO->Prop
 | .lst xs=>xs.length<=vm/\∃(its:List uW) (n:Nat),Vals xs its/\h.get? a=some { cls :=.type "list",data :=.seq its.toArray n }
 | .tup xs=>xs.length<=vm/\∃its:List uW,Vals xs its/\cJ h a its.toArray
 | .dK kvs=>kvs.length<=vm/\(a == sysModules)=false/\∃vs,KV kvs vs/\h.DictOf (bq P w) a vs
 | .dT kvs=>kvs.length<=vm/\(a == sysModules)=false/\∃xs:List (List Key×Addr×uW),
   Paired (λ(p:List Key×V) (q:List Key×Addr×uW)=>p.1=q.1/\H q.2.1=some (.tup (p.1.map kV))/\RelV p.2 q.2.2) kvs xs ∧
   ∃o es ep,h.get? a=some o/\o.ExactDict/\o.data = .dict es ep/\es.toList=xs.map (entryOfKey (tupleKind (bq P w)))/\(xs.map (·.1)).Nodup
 | .set S n=>h.SetOf (intKind P w) a S n
 | .ins C dx fs=>H dx=some (.own a)/\fs.length<=1000/\dx≠a/\h.get? a=some (PySem.W.instObj C dx) ∧
   ∃mA,h.Ns1 dx mA/\(∀f,gB (fs.lookup f) (mA f))/\PySem.Within mA (fs.map (·.1))
 | .own _=>∃o,h.get? a=some o
 | .xd fs=>∃mA,h.Ns1 a mA/\∀f,gB (fs.lookup f) (mA f)
 | .rng lo hi=>∃t u v,h.get? a=some { cls :=.type "range",data :=.fields #[.int lo t,.int hi u,.int 1 v] }
 | .frz o u=>h.get? a=some o/\aT H h a u
 | .tbl ps=>h.get? a=some { cls :=.none,data :=.fields ps }
 | .met f x=>h.get? a=some (PySem.W.methodObj (.ref f) (.ref x))
 | .ext φ=>φ h/\(∃o,h.get? a=some o)/\∀h1 h2:Heap, φ h1->(∀o,h1.get? a=some o->h2.get? a=some o) -> φ h2
def HOk (H:Hp)(h:Heap):Prop:=∀a o,H a=some o->aT P w H h a o
end
section
variable  {P:vI}{w:wc}{H H':Hp}{h h':Heap}{a:Addr}{o:HO}
theorem aT.lt (x:aT P w H h a o):a<h.objs.size:=by
 cases o with
 | lst xs=>obtain ⟨_,_,_,_,e⟩:=x;exact vh e
 | tup xs=>obtain ⟨_,_,_,p⟩:=x;exact (cJ.tup p).lt
 | dK kvs=>obtain ⟨_,_,_,_,o,_,_,e,_⟩:=x;exact vh e
 | dT kvs=>obtain ⟨_,_,_,_,o,_,_,e,_⟩:=x;exact vh e
 | set S n=>obtain ⟨o,_,_,_,e,_⟩:=x;exact vh e
 | ins C dx fs=>obtain ⟨_,_,_,e,_⟩:=x;exact vh e
 | own y=>obtain ⟨_,e⟩:=x;exact vh e
 | xd fs=>obtain ⟨_,⟨_,_,_,e,_⟩,_⟩:=x;exact vh e
 | rng lo hi=>obtain ⟨_,_,_,e⟩:=x;exact vh e
 | frz ob u=>obtain ⟨e,_⟩:=x;exact vh e
 | tbl ps=>exact vh (show h.get? a=some _ from x)
 | met f y=>exact vh (show h.get? a=some _ from x)
 | ext φ=>obtain ⟨_,⟨_,e⟩,_⟩:=x;exact vh e
theorem Paired.rZ {α β:Type}{F G:α -> β -> Prop}:∀{l₁:List α} {l₂:List β},Paired F l₁ l₂->(∀a b,F a b->G a b)->Paired G l₁ l₂
 | _,_,.nil,_ =>.nil
 | _,_,.cons r t,f =>.cons (f _ _ r) (Paired.rZ t f)
theorem aT.stay (x:aT P w H h a o)(k:∀b u,(b=a\/H b=some (.own a))->h.get? b=some u->h'.get? b=some u)
  (ho:∀b,H b=some (.own a)->H' b=some (.own a)) (ht:∀b xs,H b=some (.tup xs)->H' b=some (.tup xs)):aT P w H' h' a o:=by
 induction o with
 | lst xs=>obtain ⟨z,its,n,r,e⟩:=x;exact ⟨z,its,n,r,k _ _ (.inl rfl) e⟩
 | tup xs=>obtain ⟨z,its,r,ob,e,c⟩:=x;exact ⟨z,its,r,ob,k _ _ (.inl rfl) e,c⟩
 | dK kvs=>obtain ⟨z,y,vs,r,ob,es,ep,e,c⟩:=x;exact ⟨z,y,vs,r,ob,es,ep,k _ _ (.inl rfl) e,c⟩
 | dT kvs =>
  obtain ⟨z,y,xs,r,ob,es,ep,e,c⟩:=x
  exact ⟨z,y,xs,Paired.rZ r λp q z=>⟨z.1,ht _ _ z.2.1,z.2.2⟩,ob,es,ep,k _ _ (.inl rfl) e,c⟩
 | set S n=>obtain ⟨ob,es,ep,t,e,c⟩:=x;exact ⟨ob,es,ep,t,k _ _ (.inl rfl) e,c⟩
 | ins C dx fs =>
  obtain ⟨d,z,ne,e,mA,⟨od,es,ep,e2,c⟩,r⟩:=x
  exact ⟨ho _ d,z,ne,k _ _ (.inl rfl) e,mA,⟨od,es,ep,k _ _ (.inr d) e2,c⟩,r⟩
 | own y=>obtain ⟨ob,e⟩:=x;exact ⟨ob,k _ _ (.inl rfl) e⟩
 | xd fs=>obtain ⟨mA,⟨od,es,ep,e,c⟩,r⟩:=x;exact ⟨mA,⟨od,es,ep,k _ _ (.inl rfl) e,c⟩,r⟩
 | rng lo hi=>obtain ⟨t,u,v,e⟩:=x;exact ⟨t,u,v,k _ _ (.inl rfl) e⟩
 | frz ob u ih=>obtain ⟨e,q⟩:=x;exact ⟨k _ _ (.inl rfl) e,ih q⟩
 | tbl ps =>
  have e:h.get? a=some { cls :=.none,data :=.fields ps }:=x
  show h'.get? a=some { cls :=.none,data :=.fields ps }
  exact k a _ (.inl rfl) e
 | met f y =>
  have e:h.get? a=some (PySem.W.methodObj (.ref f) (.ref y)):=x
  show h'.get? a=some (PySem.W.methodObj (.ref f) (.ref y))
  exact k a _ (.inl rfl) e
 | ext φ=>obtain ⟨p,⟨o,e⟩,st⟩:=x;exact ⟨st _ _ p λo q=>k _ _ (.inl rfl) q,⟨o,k _ _ (.inl rfl) e⟩,st⟩
theorem HOk.lt (x:HOk P w H h)(e:H a=some o):a<h.objs.size:=(x a o e).lt
theorem HOk.fresh (x:HOk P w H h)(e:h.objs.size<=a):H a=none:=by
 cases q:H a with
 | none=>rfl
 | some u=>exact absurd (vF (x.lt q) e) (wX _)
theorem HOk.kept (x:HOk P w H h)(k:∀b u,h.get? b=some u->h'.get? b=some u):HOk P w H h':=λa o e =>
 (x a o e).stay (λb u _ q=>k b u q) (λ_ q=>q) λ_ _ q=>q
theorem HOk.laid (x:HOk P w H h)(k:∀b u,h.get? b=some u->h'.get? b=some u)(hp:h.objs.size<=a)(new:aT P w (upd H a o) h' a o):HOk P w (upd H a o) h':=λb u e=>by
 have hn:=x.fresh hp
 by_cases hb:b=a
 ·subst hb;rw[af] at e;cases e;exact new
 ·rw[ax hb] at e
  exact (x b u e).stay (λc v _ q=>k c v q) (λc q=>by rw[ax (ak q hn)];exact q) λc xs q=>by rw[ax (ak q hn)];exact q
end
def Rd (H:Hp)(a:Addr)(u:HO):Prop:=H a=some u\/∃o,H a=some (.frz o u)
theorem Rd.ok {P:vI}{w:wc}{H:Hp}{h:Heap}{a:Addr}{u:HO}(r:Rd H a u)(x:HOk P w H h):aT P w H h a u:=by
 rcases r with r | ⟨o,r⟩
 ·exact x a u r
 ·obtain ⟨_,q⟩:=x a _ r
  exact q
def Mut:Option HO->Prop
 | some (.lst _)=>True
 | some (.dK _)=>True
 | some (.dT _)=>True
 | some (.set _ _)=>True
 | some (.ins _ _ _)=>True
 | some (.ext _)=>True
 | _=>False
section
variable  {P:vI}{w:wc}{H:Hp}{h h':Heap}{x e:Addr}{o':HO}
theorem HOk.write (ok:HOk P w H h)(mu:Mut (H x))(he:e=x\/H e=some (.own x))(k:∀b u,b≠e->h.get? b=some u->h'.get? b=some u)(heo:∃u,h'.get? e=some u)
  (new:aT P w (upd H x o') h' x o'):HOk P w (upd H x o') h':=λb u q=>by
 have nown:∀c y,H c=some (.own y)->c≠x:=λc y r z=>by subst z;rw[r] at mu;exact mu
 have ntup:∀c xs,H c=some (.tup xs)->c≠x:=λc xs r z=>by subst z;rw[r] at mu;exact mu
 by_cases hb:b=x
 ·subst hb;rw[af] at q;cases q;exact new
 ·rw[ax hb] at q
  by_cases hbe:b=e
  ·have q':H b=some (.own x):=by
    rcases he with z | z
    ·exact absurd (hbe.trans z) hb
    ·rw[hbe];exact z
   rw[q] at q';cases q'
   obtain ⟨v,hv⟩:=heo
   exact ⟨v,by rw[hbe];exact hv⟩
  ·refine (ok b u q).stay (λc v hc r=>k c v ?_ r) (λc r=>by rw[ax (nown c b r)];exact r) λc xs r=>by rw[ax (ntup c xs r)];exact r
   rcases hc with rfl | hc
   ·exact hbe
   ·rintro rfl
    rcases he with z | z
    ·exact nown c b hc z
    ·rw[hc] at z;cases z;exact hb rfl
end
structure Un (fs ex:List Addr)(H H':Hp)(h h':Heap):Prop where
 keep:∀b o,h.get? b=some o->H b=none->b∉fs->b∉ex->h'.get? b=some o
 slot:∀b o,h.get? b=some o->H b=none->b∈fs->b∉ex->∃sl,h'.get? b=some { o with slots:=sl }
 free:∀b o,h.get? b=some o->H b=none->b∉ex->H' b=none
 there:∀b o,h.get? b=some o->b∉ex->∃o',h'.get? b=some o'
 tups:∀b xs,H b=some (.tup xs)->H' b=some (.tup xs)
 frzs:∀b o u,H b=some (.frz o u)->H' b=some (.frz o u)
 tbls:∀b ps,H b=some (.tbl ps)->∃more,H' b=some (.tbl (ps++more))
section
variable  {fs fs' ex ex':List Addr}{H H1 H2:Hp}{h h1 h2 h':Heap}{a x e:Addr}{o:HO}
theorem Un.any (u:Un fs ex H H1 h h1){b:Addr}{ob:Obj}(q:h.get? b=some ob)(n:H b=none)(hx:b∉ex):∃sl,h1.get? b=some { ob with slots:=sl }:=by
 by_cases hb:b∈fs
 ·exact u.slot b ob q n hb hx
 ·exact ⟨ob.slots,u.keep b ob q n hb hx⟩
theorem Un.kept (k:∀b u,h.get? b=some u->h'.get? b=some u):Un fs ex H H h h' :=
 ⟨λb ob q _ _ _=>k b ob q,λb ob q _ _ _=>⟨ob.slots,k b ob q⟩,λ_ _ _ n _=>n,λb ob q _=>⟨ob,k b ob q⟩,λ_ _ q=>q,λ_ _ _ q=>q,λ_ ps q=>⟨#[],by rw[q];simp⟩⟩
theorem Un.refl:Un fs ex H H h h:=Un.kept λ_ _ q=>q
theorem Un.laid (k:∀b u,h.get? b=some u->h'.get? b=some u)(hp:h.objs.size<=a)(hn:H a=none):Un fs ex H (upd H a o) h h' where
 keep:=λb u q _ _ _=>k b u q
 slot:=λb u q _ _ _=>⟨u.slots,k b u q⟩
 free:=λb u q n _=>by rw[ax (vH (vF (vh q) hp))];exact n
 there:=λb u q _=>⟨u,k b u q⟩
 tups:=λb xs q=>by rw[ax (ak q hn)];exact q
 frzs:=λb u xs q=>by rw[ax (ak q hn)];exact q
 tbls:=λb ps q=>⟨#[],by rw[ax (ak q hn),q];simp⟩
theorem Un.write (mu:Mut (H x))(he:e=x\/H e=some (.own x))(k:∀b u,b≠e->h.get? b=some u->h'.get? b=some u)(heo:∃u,h'.get? e=some u):Un fs ex H (upd H x o) h h':=by
 have hx:∀b,H b=none->b≠x:=λb n z=>by subst z;rw[n] at mu;exact mu
 have hb:∀b,H b=none->b≠e:=λb n z=>by
  subst z
  rcases he with r | r
  ·exact hx b n r
  ·rw[n] at r;cases r
 have hm:∀b u,H b=some u->¬ Mut (some u)->b≠x:=λb u q nm z=>by subst z;rw[q] at mu;exact nm mu
 refine ⟨λb u q n _ _=>k b u (hb b n) q,λb u q n _ _=>⟨u.slots,k b u (hb b n) q⟩,λb u q n _=>by rw[ax (hx b n)];exact n,λb u q _ =>?_,
  λb xs q=>by rw[ax (hm b _ q λz=>z)];exact q,λb u xs q=>by rw[ax (hm b _ q λz=>z)];exact q,λb ps q=>⟨#[],by rw[ax (hm b _ q λz=>z),q];simp⟩⟩
 by_cases hbe:b=e
 ·subst hbe;exact heo
 ·exact ⟨u,k b u hbe q⟩
end
def trk (h:Heap)(H:Hp):List Addr:=(wF h.objs.size).filter λa=>(H a).isSome
def ji (h:Heap)(H:Hp):Heap:=PySem.W.hideAll h (trk h H)
theorem mQ (h:Heap)(H:Hp):(ji h H).objs.size=h.objs.size:=PySem.W.hideAll_size _ _
theorem oF {h:Heap}{H:Hp}{b:Addr}{o:Obj}(e:h.get? b=some o)(n:H b=none):(ji h H).get? b=some o :=
 PySem.W.hideAll_get _ e λhm=>by
  have q:(H b).isSome=true:=(yg.mp hm).2
  rw[n] at q;simp at q
theorem qv {h:Heap}{H:Hp}{b:Addr}{o:Obj}(e:(ji h H).get? b=some o):h.get? b=some o/\H b=none:=by
 have e':h.get? b=some o:=PySem.W.of_hideAll (trk h H) e
 refine ⟨e',?_⟩
 cases q:H b with
 | none=>rfl
 | some x =>
  have hm:b∈trk h H:=yg.mpr ⟨xM.mpr (vh e'),by simp[q]⟩
  have z:(ji h H).get? b=none:=PySem.W.hideAll_none (trk h H) hm
  rw[z] at e;cases e
def qw (g h:Heap)(L:Addr):List (Addr×Obj):=(wF h.objs.size).filterMap λa=>if a=L\/(g.get? a).isSome=true then none else (h.get? a).map λo=>(a,o)
def rest (g h:Heap)(L d:Addr):List (Addr×Obj):=(qw g h L).filter λp=>decide (p.1≠d)
open PySem PySem.Spec PyProof.Rows
structure Mod (K:u6)(mg:Str->Option uW)(base:Heap):Prop where
 kin:K.In base
 glob:base.Ns v5 mg
 blt:∃mb,base.Ns builtinsNs mb/\∀x:Str,x ≠ "__name__" -> mb x=we x
 nolimit:base.NoLimit
structure Cx where
 prog:vI
 w:wc
 K:u6
 mg:Str->Option uW
 base:Heap
 A:v7
 N:List Str
 s₀:uZ
 H₀:Hp
 env:Env
 outer:List Env
 stack:List Env
 ex:List Addr
 fn:Str->Bool
 calm:Bool
 pn:List (Addr×Obj)
 xe:uW->uZ->Prop
def frs (l:List Env):List Addr:=l.filterMap (·.frame)
abbrev Cx.fs (X:Cx):List Addr:=frs X.outer
def Vis (sc:Scope)(x:Str):Prop:=sc.names.lookup x=some .local\/sc.names.lookup x=some .cell\/sc.names.lookup x=some .free
def Loc (sc:Scope)(x:Str):Prop:=sc.names.lookup x=some .local\/sc.names.lookup x=some .cell
def Look (env:Env)(h:Heap)(m:Str->Option uW)(x:Str)(u:uW):Prop :=
 (env.kindOf x=some .local/\m x=some u)\/((env.kindOf x=some .cell\/env.kindOf x=some .free)/\∃c,env.cells.lookup x=some c/\h.IsCell c (some u))
structure Cx.Ok (X:Cx):Prop where
 mod:Mod X.K X.mg X.base
 kind:X.env.scope.kind = .function
 glob:X.env.globals=v5
 blt:X.env.builtins=builtinsNs
 above:X.s₀.heap.objs.size<=X.env.locals
 inj:∀x y c,X.env.cells.lookup x=some c->X.env.cells.lookup y=some c->x=y
 has:∀x,(X.env.kindOf x=some .cell\/X.env.kindOf x=some .free)->∃c,X.env.cells.lookup x=some c
 cab:∀x c,X.fn x=true->X.env.cells.lookup x=some c->X.s₀.heap.objs.size<=c
 hd:X.calm=true->X.A.handled=none
 frames:X.A.frames=some X.stack
 stk:X.stack=X.outer\/(X.stack=X.env :: X.outer/\X.env.frame=some X.env.locals)
 exf:∀b∈X.ex,b≠X.env.locals/\∀x c,X.env.cells.lookup x=some c->c≠b
 bs:∀b o,X.base.get? b=some o->X.s₀.heap.get? b=some o/\X.H₀ b=none
 bsz:X.base.objs.size<=X.s₀.heap.objs.size
 noex:∀b o,X.base.get? b=some o->b∉X.ex
 exfs:∀b∈X.ex,b∉X.fs
 funs:X.s₀.heap.FunFrames X.base X.outer
 frf:∀b∈X.fs,X.H₀ b=none
structure Inv (X:Cx)(pins:List (Addr×Obj))(σ:List (Option V))(H:Hp)(s:uZ):Prop where
 ok:X.Ok
 os:s.os=X.s₀.os
 bare:AllBare s.gens
 base:Un X.fs X.ex X.H₀ H X.s₀.heap s.heap
 loc:∃m,s.heap.Ns X.env.locals m/\∀(i:Nat) (x:Str) (v:V),X.N[i]? = some x->σ[i]? = some (some v)->Vis X.env.scope x->∃u,RelV v u/\Look X.env s.heap m x u
 cell:∀x c,X.env.cells.lookup x=some c->∃v,s.heap.IsCell c v
 free:H X.env.locals=none
 freeC:∀x c,X.env.cells.lookup x=some c->H c=none
 pin:∀p∈X.pn++pins,s.heap.get? p.1=some p.2/\H p.1=none/\p.1≠X.env.locals/\p.1∉X.fs/\∀v,p.2.data ≠ .cell v
 hok:HOk X.prog X.w H s.heap
 len:σ.length=X.N.length
section
variable  {X:Cx}{pins:List (Addr×Obj)}{σ:List (Option V)}{H H':Hp}{s:uZ}{h':Heap}
theorem Cx.Ok.nofr (ok:X.Ok){b:Addr}{o:Obj}(e:X.base.get? b=some o):b∉X.fs:=λhb=>by
 have:=(ok.funs.mem hb).1
 rw[e] at this;cases this
theorem Inv.bs (I:Inv X pins σ H s):∀b o,X.base.get? b=some o->s.heap.get? b=some o/\H b=none:=λb o e =>
 ⟨I.base.keep b o (I.ok.bs b o e).1 (I.ok.bs b o e).2 (I.ok.nofr e) (I.ok.noex b o e),I.base.free b o (I.ok.bs b o e).1 (I.ok.bs b o e).2 (I.ok.noex b o e)⟩
theorem Inv.bk (I:Inv X pins σ H s):∀b o,X.base.get? b=some o->s.heap.get? b=some o:=λb o e=>(I.bs b o e).1
theorem Inv.mod (I:Inv X pins σ H s):Mod X.K X.mg X.base:=I.ok.mod
theorem Inv.kIn (I:Inv X pins σ H s):X.K.In s.heap:=I.ok.mod.kin.keeps I.bk
theorem Inv.lt (I:Inv X pins σ H s):X.env.locals<s.heap.objs.size:=let ⟨_,hn,_⟩:=I.loc;hn.lt
theorem Inv.sz (I:Inv X pins σ H s):X.s₀.heap.objs.size<=s.heap.objs.size:=vP I.ok.above (ym I.lt)
theorem Inv.r6 (I:Inv X pins σ H s){a:Addr}(h:s.heap.objs.size<=a):a∉X.fs:=λhb=>by
 obtain ⟨_,o,ho,_⟩:=I.ok.funs.mem hb
 exact absurd (vF (vh ho) (vP I.sz h)) (wX _)
theorem Inv.cne (I:Inv X pins σ H s):∀x c,X.env.cells.lookup x=some c->c≠X.env.locals:=λx c e z=>by
 obtain ⟨v,o,ho,hd⟩:=I.cell x c e
 obtain ⟨m,⟨o',es,ep,ho',hd',_⟩,_⟩:=I.loc
 rw[z,ho'] at ho;cases ho;rw[hd'] at hd;cases hd
theorem Inv.funs (I:Inv X pins σ H s):s.heap.FunFrames X.base X.outer:=by
 have all:∀(l:List Env),(∀b∈frs l,b∈X.fs)->X.s₀.heap.FunFrames X.base l->s.heap.FunFrames X.base l:=by
  intro l
  induction l with
  | nil=>intro _ _;trivial
  | cons env r ih =>
   intro hs hl
   obtain ⟨hk,⟨L,o,hf,hn,ho,hd⟩,hr⟩:=hl
   have hL:L∈X.fs:=hs L (by unfold frs;rw[zN,hf];exact vC)
   obtain ⟨sl,e⟩:=I.base.slot L o ho (I.ok.frf L hL) hL λz=>I.ok.exfs L z hL
   exact ⟨hk,⟨L,_,hf,hn,e,hd⟩,ih (λb hb=>hs b (by unfold frs;rw[zN,hf];exact vG _ hb)) hr⟩
 exact all X.outer (λ_ hb=>hb) I.ok.funs
theorem Inv.stack (I:Inv X pins σ H s):s.heap.FunFrames X.base X.stack:=by
 rcases I.ok.stk with e | ⟨e,hf⟩
 ·rw[e];exact I.funs
 ·rw[e]
  obtain ⟨m,hn,_⟩:=I.loc
  refine .cons (by rw[I.ok.kind];decide) hf hn ?_ I.funs
  exact Heap.get?_none_of_le (vP I.ok.bsz I.ok.above)
theorem Inv.jj (I:Inv X pins σ H s):∀b∈frs X.stack,b∈X.env.locals :: X.fs:=λb hb=>by
 rcases I.ok.stk with e | ⟨e,hf⟩
 ·rw[e] at hb;exact vG _ hb
 ·rw[e] at hb
  unfold frs at hb
  rw[zN,hf] at hb
  exact hb
theorem Inv.lP (I:Inv X pins σ H s):∀b∈frs X.stack,H b=none:=λb hb=>by
 rcases vM.mp (I.jj b hb) with e | hb
 ·rw[e];exact I.free
 ·obtain ⟨_,o,ho,_⟩:=I.ok.funs.mem hb
  exact I.base.free b o ho (I.ok.frf b hb) λz=>I.ok.exfs b z hb
theorem Inv.step {g':Array GenState}{t':Nat}{d':Drawn}{ch:List Addr}(I:Inv X pins σ H s)
  (hch:∀b∈ch,(b∈X.ex\/X.s₀.heap.objs.size<=b)/\b≠X.env.locals/\(∀x c,X.env.cells.lookup x=some c->c≠b)/\∀p∈X.pn++pins,p.1≠b)
  (keep:∀b o,b≠X.env.locals->b∉X.fs->b∉ch->s.heap.get? b=some o->H b=none->h'.get? b=some o)
  (slot:∀b o,b≠X.env.locals->b∈X.fs->b∉ch->s.heap.get? b=some o->H b=none->∃sl,h'.get? b=some { o with slots:=sl }) (free:∀b o,b∉ch->s.heap.get? b=some o->H b=none->H' b=none)
  (there:∀b o,b∉ch->s.heap.get? b=some o->∃o',h'.get? b=some o')
  (tups:∀b xs,H b=some (.tup xs)->H' b=some (.tup xs)) (frzs:∀b o u,H b=some (.frz o u)->H' b=some (.frz o u)) (tbls:∀b ps,H b=some (.tbl ps)->∃more,H' b=some (.tbl (ps++more)))
  (ns:∀m,s.heap.Ns X.env.locals m->h'.Ns X.env.locals m) (hok:HOk X.prog X.w H' h') (hg:AllBare g') :
  Inv X pins σ H' { s with heap:=h',gens:=g',drawn:=d',toks:=t' }:=by
 have neL:∀b o,X.s₀.heap.get? b=some o->b≠X.env.locals:=λb o e=>vH (vF (vh e) I.ok.above)
 have neC:∀b o,X.s₀.heap.get? b=some o->b∉X.ex->b∉ch:=λb o e hx hb=>by
  rcases (hch b hb).1 with z | z
  ·exact hx z
  ·exact absurd (vF (vh e) z) (wX _)
 have cellK:∀x c,X.env.cells.lookup x=some c->∀v,s.heap.IsCell c v->h'.IsCell c v:=λx c e v ⟨o,ho,hd⟩=>by
  have nch:c∉ch:=λz=>(hch c z).2.2.1 x c e rfl
  by_cases hc:c∈X.fs
  ·obtain ⟨sl,q⟩:=slot c o (I.cne x c e) hc nch ho (I.freeC x c e)
   exact ⟨_,q,hd⟩
  ·exact ⟨o,keep c o (I.cne x c e) hc nch ho (I.freeC x c e),hd⟩
 refine ⟨I.ok,I.os,hg,⟨λb o e n hb hx =>?_,λb o e n hb hx =>?_,λb o e n hx =>?_,λb o e hx =>?_,λb xs e=>tups b xs (I.base.tups b xs e),λb o xs e=>frzs b o xs (I.base.frzs b o xs e),λb ps e =>?_⟩,?_,λx c e =>?_,?_,λx c e =>?_,λp hp =>?_,hok,I.len⟩
 ·exact keep b o (neL b o e) hb (neC b o e hx) (I.base.keep b o e n hb hx) (I.base.free b o e n hx)
 ·obtain ⟨sl,e1⟩:=I.base.slot b o e n hb hx
  obtain ⟨sl',e2⟩:=slot b _ (neL b o e) hb (neC b o e hx) e1 (I.base.free b o e n hx)
  exact ⟨sl',e2⟩
 ·obtain ⟨o',e1⟩:=I.base.there b o e hx
  exact free b o' (neC b o e hx) e1 (I.base.free b o e n hx)
 ·obtain ⟨o',e1⟩:=I.base.there b o e hx
  exact there b o' (neC b o e hx) e1
 ·obtain ⟨m1,e1⟩:=I.base.tbls b ps e
  obtain ⟨m2,e2⟩:=tbls b _ e1
  exact ⟨m1++m2,by rw[e2,Array.append_assoc]⟩
 ·obtain ⟨m,hn,hl⟩:=I.loc
  refine ⟨m,ns m hn,λi x v e1 e2 e3 =>?_⟩
  obtain ⟨u,r,l⟩:=hl i x v e1 e2 e3
  refine ⟨u,r,?_⟩
  rcases l with l | ⟨k,c,e,z⟩
  ·exact .inl l
  ·exact .inr ⟨k,c,e,cellK x c e _ z⟩
 ·obtain ⟨v,z⟩:=I.cell x c e
  exact ⟨v,cellK x c e v z⟩
 ·obtain ⟨m,⟨o,_,_,ho,_⟩,_⟩:=I.loc
  exact free _ o (λz=>(hch _ z).2.1 rfl) ho I.free
 ·obtain ⟨v,o,ho,hd⟩:=I.cell x c e
  exact free c o (λz=>(hch c z).2.2.1 x c e rfl) ho (I.freeC x c e)
 ·obtain ⟨e,n,ne,nf,d⟩:=I.pin p hp
  have nch:p.1∉ch:=λz=>(hch p.1 z).2.2.2 p hp rfl
  exact ⟨keep p.1 p.2 ne nf nch e n,free p.1 p.2 nch e n,ne,nf,d⟩
theorem Inv.un {t':Nat}(I:Inv X pins σ H s)(u:Un X.fs [] H H' s.heap h')(hok:HOk X.prog X.w H' h'):Inv X pins σ H' { s with heap:=h',toks:=t' }:=by
 obtain ⟨m,⟨o,es,ep,ho,r⟩,_⟩:=id I.loc
 obtain ⟨sl,hL⟩:=u.any ho I.free (by simp)
 exact I.step (g':=s.gens) (d':=s.drawn) (ch:=[]) (λ_ z=>nomatch z) (λb o _ hb _ e n=>u.keep b o e n hb (by simp)) (λb o _ hb _ e n=>u.slot b o e n hb (by simp)) (λb o _ e n=>u.free b o e n (by simp)) (λb o _ e=>u.there b o e (by simp)) u.tups u.frzs u.tbls (λm' hm=>by
  obtain ⟨o',es',ep',ho',r'⟩:=hm
  rw[ho] at ho';cases ho'
  exact ⟨_,es',ep',hL,r'⟩) hok I.bare
theorem Inv.call {g':Array GenState}{t':Nat}{d':Drawn}{ch:List Addr}(I:Inv X pins σ H s)(u:Un (frs X.stack) ch H H' s.heap h')(hok:HOk X.prog X.w H' h')(hg:AllBare g')
  (hch:∀b∈ch,(b∈X.ex\/X.s₀.heap.objs.size<=b)/\b≠X.env.locals/\(∀x c,X.env.cells.lookup x=some c->c≠b)/\∀p∈X.pn++pins,p.1≠b) :
  Inv X pins σ H' { s with heap:=h',gens:=g',drawn:=d',toks:=t' }:=by
 obtain ⟨m,⟨o,es,ep,ho,r⟩,_⟩:=id I.loc
 obtain ⟨sl,hL⟩:=u.any ho I.free λz=>(hch _ z).2.1 rfl
 exact I.step (ch:=ch) hch (λb o hL hb hc e n=>u.keep b o e n (λz=>(vM.mp (I.jj b z)).elim hL hb) hc) (λb o _ _ hc e n=>u.any e n hc) (λb o hc e n=>u.free b o e n hc) (λb o hc e=>u.there b o e hc) u.tups u.frzs u.tbls (λm' hm=>by
  obtain ⟨o',es',ep',ho',r'⟩:=hm
  rw[ho] at ho';cases ho'
  exact ⟨_,es',ep',hL,r'⟩) hok hg
theorem Inv.turned {t':Nat}{it:Addr}(I:Inv X pins σ H s)(k:∀b o,b≠it->s.heap.get? b=some o->h'.get? b=some o)(hn:H it=none)(hL:it≠X.env.locals)
  (h1:it∈X.ex\/X.s₀.heap.objs.size<=it) (h2:∀x c,X.env.cells.lookup x=some c->c≠it) (h3:∀p∈X.pn++pins,p.1≠it):Inv X pins σ H { s with heap:=h',toks:=t' }:=by
 have nit:∀b u,H b=some u->b≠it:=λb u e z=>by rw[z,hn] at e;cases e
 refine I.step (g':=s.gens) (d':=s.drawn) (ch:=[it]) (λb hb =>?_) (λb o _ _ hc e _=>k b o (λz=>hc (by simp[z])) e) (λb o _ _ hc e _=>⟨o.slots,k b o (λz=>hc (by simp[z])) e⟩) (λ_ _ _ _ n=>n)
  (λb o hc e=>⟨o,k b o (λz=>hc (by simp[z])) e⟩) (λ_ _ e=>e) (λ_ _ _ e=>e) (λb ps e=>⟨#[],by rw[e];simp⟩) (λm hm =>?_) (λb u e =>?_) I.bare
 ·have e:b=it:=by simpa using hb
  subst e
  exact ⟨h1,hL,h2,h3⟩
 ·obtain ⟨o,es,ep,ho,r⟩:=hm
  exact ⟨o,es,ep,k _ o (xi hL) ho,r⟩
 ·refine (I.hok b u e).stay (λc v hc q=>k c v ?_ q) (λ_ q=>q) λ_ _ q=>q
  rcases hc with z | z
  ·rw[z];exact nit b u e
  ·exact nit c _ z
theorem Inv.tok (I:Inv X pins σ H s)(t:Nat):Inv X pins σ H { s with toks:=t }:=I.un (h':=s.heap) (t':=t) Un.refl I.hok
theorem Inv.kept {t':Nat}(I:Inv X pins σ H s)(k:∀b u,s.heap.get? b=some u->h'.get? b=some u):Inv X pins σ H { s with heap:=h',toks:=t' }:=I.un (Un.kept k) (I.hok.kept k)
theorem Inv.laid {a:Addr}{o:HO}{t':Nat}(I:Inv X pins σ H s)(k:∀b u,s.heap.get? b=some u->h'.get? b=some u)(hp:s.heap.objs.size<=a)(new:aT X.prog X.w (upd H a o) h' a o) :
  Inv X pins σ (upd H a o) { s with heap:=h',toks:=t' }:=I.un (Un.laid k hp (I.hok.fresh hp)) (I.hok.laid k hp new)
theorem Inv.write {x e:Addr}{o:HO}{t':Nat}(I:Inv X pins σ H s)(mu:Mut (H x))(he:e=x\/H e=some (.own x))(k:∀b u,b≠e->s.heap.get? b=some u->h'.get? b=some u)(heo:∃u,h'.get? e=some u)
  (new:aT X.prog X.w (upd H x o) h' x o):Inv X pins σ (upd H x o) { s with heap:=h',toks:=t' }:=I.un (Un.write mu he k heo) (I.hok.write mu he k heo new)
theorem Inv.eR {pins':List (Addr×Obj)}(I:Inv X pins σ H s)(h:∀p∈pins',s.heap.get? p.1=some p.2/\H p.1=none/\p.1≠X.env.locals/\p.1∉X.fs/\∀v,p.2.data ≠ .cell v):Inv X pins' σ H s :=
 ⟨I.ok,I.os,I.bare,I.base,I.loc,I.cell,I.free,I.freeC,λp hp=>(vx.mp hp).elim (λz=>I.pin p (yJ _ z)) (h p),I.hok,I.len⟩
theorem jM {N:List Str}(hN:N.Nodup){i j:Nat}{x:Str}(a:N[i]? = some x)(b:N[j]? = some x):i=j:=by
 obtain ⟨h1,e1⟩:=vb.mp a
 obtain ⟨h2,e2⟩:=vb.mp b
 exact (List.getElem_inj hN).mp (e1.trans e2.symm)
theorem mR {M:Model}{A:v7}{E:uW->uZ->Prop}{i:Nat}{x:Str}{v:V}{u:uW}{Q:Unit->uZ->Prop}(I:Inv X pins σ H s)(hN:X.N.Nodup)(hi:X.N[i]? = some x)(hx:Loc X.env.scope x)(r:RelV v u)
  (h:∀s',Inv X pins (σ.set i (some v)) H s'->(∃a,Heap.SameBut a s.heap s'.heap/\(a=X.env.locals\/X.env.cells.lookup x=some a))->Q () s') (hf:X.fn x=true\/X.env.scope.names.lookup x=some .local:=by first | exact .inl rfl | exact .inr rfl | assumption):vJ M A (storeName X.env x u) Q E s:=by
 obtain ⟨m,hn,hl⟩:=id I.loc
 have hcls:(X.env.scope.kind == .class || (X.env.scope.kind == .module && X.env.locals != X.env.globals))=false:=by rw[I.ok.kind];rfl
 have hiσ:i<σ.length:=by rw[I.len];exact (vb.mp hi).1
 have cne:=I.cne
 have tracked:∀{a:Addr} {h':Heap},(∃o,s.heap.get? a=some o/\H a=none)->Heap.SameBut a s.heap h'->HOk X.prog X.w H h':=λ{a h'} ha hs b ob e=>by
  obtain ⟨_,_,hfree⟩:=ha
  refine (I.hok b ob e).stay (λc w' hc q=>(hs.2 c ?_).trans q) (λ_ q=>q) λ_ _ q=>q
  rintro rfl
  rcases hc with rfl | hc
  ·rw[hfree] at e;cases e
  ·rw[hfree] at hc;cases hc
 rcases hx with hk | hk
 ·refine wpAny_storeName_local hk hn (λh' hn' hs =>?_) hcls
  obtain ⟨oL,_,_,hoL,_⟩:=id hn
  refine h _ ⟨I.ok,I.os,I.bare,⟨λb o e n hb hx =>?_,λb o e n hb hx =>?_,I.base.free,λb o e hx =>?_,I.base.tups,I.base.frzs,I.base.tbls⟩,⟨_,hn',λj y v' e1 e2 e3 =>?_⟩,λy c e =>?_,I.free,I.freeC,λp hp =>?_,tracked ⟨oL,hoL,I.free⟩ hs,by simpa using I.len⟩ ⟨_,hs,.inl rfl⟩
  ·exact (hs.2 b (vH (vF (vh e) I.ok.above))).trans (I.base.keep b o e n hb hx)
  ·obtain ⟨sl,e1⟩:=I.base.slot b o e n hb hx
   exact ⟨sl,(hs.2 b (vH (vF (vh e) I.ok.above))).trans e1⟩
  ·obtain ⟨o',e1⟩:=I.base.there b o e hx
   exact ⟨o',(hs.2 b (vH (vF (vh e) I.ok.above))).trans e1⟩
  ·by_cases hj:j=i
   ·subst hj
    rw[hi] at e1;cases e1
    rw[xr hiσ] at e2
    cases e2
    exact ⟨u,r,.inl ⟨hk,by simp⟩⟩
   ·rw[x9 (xi hj)] at e2
    obtain ⟨u',r',q⟩:=hl j y v' e1 e2 e3
    refine ⟨u',r',?_⟩
    rcases q with ⟨k,e⟩ | ⟨k,c,e,z⟩
    ·refine .inl ⟨k,?_⟩
     have:y≠x:=λe=>hj (jM hN e1 (e ▸ hi))
     simp[this,e]
    ·exact .inr ⟨k,c,e,z.sameBut hs (cne y c e)⟩
  ·obtain ⟨w',z⟩:=I.cell y c e
   exact ⟨w',z.sameBut hs (cne y c e)⟩
  ·obtain ⟨e,n,ne,nf,d⟩:=I.pin p hp
   exact ⟨(hs.2 p.1 ne).trans e,n,ne,nf,d⟩
 ·have hfn:X.fn x=true:=by
   rcases hf with z | z
   ·exact z
   ·rw[z] at hk;cases hk
  obtain ⟨c,hc⟩:=I.ok.has x (.inl hk)
  obtain ⟨w',z⟩:=I.cell x c hc
  refine wpAny_storeName_cell I.ok.kind hk hc z (λh' hc' hs =>?_)
  obtain ⟨oc,hoc,hocd⟩:=id z
  refine h { s with heap:=h' } ⟨I.ok,I.os,I.bare,⟨λb o e n hb hx =>?_,λb o e n hb hx =>?_,I.base.free,λb o e hx =>?_,I.base.tups,I.base.frzs,I.base.tbls⟩,⟨m,hn.sameBut hs (xi (cne x c hc)),λj y v' e1 e2 e3 =>?_⟩,λy c' e =>?_,I.free,I.freeC,λp hp =>?_,tracked ⟨oc,hoc,I.freeC x c hc⟩ hs,by simpa using I.len⟩ ⟨c,hs,.inr hc⟩
  ·exact (hs.2 b (vH (vF (vh e) (I.ok.cab x c hfn hc)))).trans (I.base.keep b o e n hb hx)
  ·obtain ⟨sl,e1⟩:=I.base.slot b o e n hb hx
   exact ⟨sl,(hs.2 b (vH (vF (vh e) (I.ok.cab x c hfn hc)))).trans e1⟩
  ·obtain ⟨o',e1⟩:=I.base.there b o e hx
   exact ⟨o',(hs.2 b (vH (vF (vh e) (I.ok.cab x c hfn hc)))).trans e1⟩
  ·by_cases hj:j=i
   ·subst hj
    rw[hi] at e1;cases e1
    rw[xr hiσ] at e2
    cases e2
    exact ⟨u,r,.inr ⟨.inl hk,c,hc,hc'⟩⟩
   ·rw[x9 (xi hj)] at e2
    obtain ⟨u',r',q⟩:=hl j y v' e1 e2 e3
    refine ⟨u',r',?_⟩
    rcases q with q | ⟨k,c',e,z'⟩
    ·exact .inl q
    ·refine .inr ⟨k,c',e,z'.sameBut hs ?_⟩
     rintro rfl
     exact hj (jM hN e1 (I.ok.inj _ _ _ e hc ▸ hi))
  ·by_cases hcc:c'=c
   ·subst hcc;exact ⟨_,hc'⟩
   ·obtain ⟨w2,z2⟩:=I.cell y c' e
    exact ⟨w2,z2.sameBut hs hcc⟩
  ·obtain ⟨e,n,ne,nf,d⟩:=I.pin p hp
   refine ⟨(hs.2 p.1 ?_).trans e,n,ne,nf,d⟩
   intro q
   rw[q,hoc] at e
   have q':oc=p.2:=vR e
   exact d w' (by rw[<- q'];exact hocd)
theorem jN {M:Model}{A:v7}{E:uW->uZ->Prop}{i:Nat}{x:Str}{v:V}{u:uW}{Q:Unit->uZ->Prop}(I:Inv X pins σ H s)(hN:X.N.Nodup)(hi:X.N[i]? = some x)(hx:Loc X.env.scope x)(r:RelV v u)
  (h:∀s',Inv X pins (σ.set i (some v)) H s'->Q () s') (hf:X.fn x=true\/X.env.scope.names.lookup x=some .local:=by first | exact .inl rfl | exact .inr rfl | assumption):vJ M A (storeName X.env x u) Q E s :=
 mR I hN hi hx r (λs' I' _=>h s' I') hf
theorem Inv.tT {s':uZ}{ch:List Addr}(I:Inv X pins σ H s)(ho:s'.os=s.os)(u:Un (frs X.stack) ch H H' s.heap s'.heap)(hok:HOk X.prog X.w H' s'.heap)(hg:AllBare s'.gens)
  (hch:∀b∈ch,(b∈X.ex\/X.s₀.heap.objs.size<=b)/\b≠X.env.locals/\(∀x c,X.env.cells.lookup x=some c->c≠b)/\∀p∈X.pn++pins,p.1≠b):Inv X pins σ H' s':=by
 obtain ⟨h',g',d',t',o'⟩:=s'
 have e:o'=s.os:=ho
 subst e
 exact I.call (g':=g') (t':=t') (d':=d') u hok hg hch
end
abbrev XK:=uW->Option Addr->Hp->Prop
abbrev St:=List (Option V)
abbrev VK:=V->Hp->Prop
abbrev TE:=St->Hp->VK->Prop
abbrev TT:=St->Hp->(Bool->Hp->Prop)->Prop
abbrev TA:=St->Hp->(List V->Hp->Prop)->Prop
structure Ends where
 nx:St->Hp->Prop
 rt:VK
 bk:St->Hp->Prop:=λ_ _=>False
 ct:St->Hp->Prop:=λ_ _=>False
abbrev TS:=Ends->St->Hp->Prop
def EP (X:Cx)(pins:List (Addr×Obj))(σ:St)(Q:VK)(u:uW)(s':uZ):Prop:=∃v H',Inv X pins σ H' s'/\RelV v u/\Q v H'
def TP (X:Cx)(pins:List (Addr×Obj))(σ:St)(Q:Bool->Hp->Prop)(b:Bool)(s':uZ):Prop:=∃H',Inv X pins σ H' s'/\Q b H'
def AP (X:Cx)(pins:List (Addr×Obj))(σ:St)(Q:List V->Hp->Prop)(us:List uW)(s':uZ):Prop:=∃vs H',Inv X pins σ H' s'/\Vals vs us/\Q vs H'
def SP (X:Cx)(pins:List (Addr×Obj))(D:Ends)(f:Flow)(s':uZ):Prop :=
 match f with
 | .next=>∃σ' H',Inv X pins σ' H' s'/\D.nx σ' H'
 | .brk=>∃σ' H',Inv X pins σ' H' s'/\D.bk σ' H'
 | .cont=>∃σ' H',Inv X pins σ' H' s'/\D.ct σ' H'
 | .ret u=>∃v σ' H',Inv X pins σ' H' s'/\RelV v u/\D.rt v H'
def PE (X:Cx)(e:Expr)(t:TE):Prop :=
 ∀(pins:List (Addr×Obj)) (s:uZ) (σ:St) (H:Hp) (Q:VK),Inv X pins σ H s->t σ H Q->vJ (vK X.prog X.w) X.A (eval e X.env) (EP X pins σ Q) X.xe s
def PT (X:Cx)(e:Expr)(t:TT):Prop :=
 ∀(pins:List (Addr×Obj)) (s:uZ) (σ:St) (H:Hp) (Q:Bool->Hp->Prop),Inv X pins σ H s->t σ H Q->vJ (vK X.prog X.w) X.A (isTrue e X.env (eval e X.env)) (TP X pins σ Q) X.xe s
def PW (X:Cx)(e:Expr)(t:TT):Prop :=
 ∀(whole:Sem uW) (pins:List (Addr×Obj)) (s:uZ) (σ:St) (H:Hp) (Q:Bool->Hp->Prop),Inv X pins σ H s->t σ H Q->vJ (vK X.prog X.w) X.A (isTrue e X.env whole) (TP X pins σ Q) X.xe s
theorem PW.pt {X:Cx}{e:Expr}{t:TT}(h:PW X e t):PT X e t:=h _
def PA (X:Cx)(es:List Expr)(t:TA):Prop :=
 ∀(pos:Pos) (pins:List (Addr×Obj)) (s:uZ) (σ:St) (H:Hp) (Q:List V->Hp->Prop),Inv X pins σ H s->t σ H Q->vJ (vK X.prog X.w) X.A (spliced (Ae pos (wC es X.env))) (AP X pins σ Q) X.xe s
def PS (X:Cx)(st:Stmt)(t:TS):Prop :=
 ∀(pins:List (Addr×Obj)) (s:uZ) (σ:St) (H:Hp) (D:Ends),Inv X pins σ H s->t D σ H->vJ (vK X.prog X.w) X.A (exec st X.env) (SP X pins D) X.xe s
def PSs (X:Cx)(st:List Stmt)(t:TS):Prop :=
 ∀(pins:List (Addr×Obj)) (s:uZ) (σ:St) (H:Hp) (D:Ends),Inv X pins σ H s->t D σ H->vJ (vK X.prog X.w) X.A (execs st X.env) (SP X pins D) X.xe s
theorem thn {α:Type}{t:Sem α}{Q Q':α -> uZ->Prop}{M:Model}{A:v7}{E:uW->uZ->Prop}{s:uZ}(h:vJ M A t Q E s)(hQ:∀a s,Q a s->Q' a s):vJ M A t Q' E s:=xG h hQ λ_ _ x=>x
open PySem PySem.Spec PyProof.Rows
section
variable  {X:Cx}
theorem bin {a b:Expr}{ta tb:TE}(ha:PE X a ta)(hb:PE X b tb){pins:List (Addr×Obj)}{s:uZ}{σ:St}{H:Hp}{R:V->V->Hp->Prop}(I:Inv X pins σ H s)(h:ta σ H λx H1=>tb σ H1 λy H2=>R x y H2)
  {α:Type} {Q:α -> uZ->Prop} {f:uW->uW->Sem α}
  (hf:∀v u s2 x y H2,Inv X pins σ H2 s2->RelV x v->RelV y u->R x y H2->vJ (vK X.prog X.w) X.A (f v u) Q X.xe s2) :
  vJ (vK X.prog X.w) X.A (eval a X.env) (λv s₁=>vJ (vK X.prog X.w) X.A (eval b X.env) (λu s₂=>vJ (vK X.prog X.w) X.A (f v u) Q X.xe s₂) X.xe s₁) X.xe s:=by
 refine thn (ha pins s σ H _ I h) λv s1 ⟨x,H1,I1,r1,q1⟩ =>?_
 refine thn (hb pins s1 σ H1 _ I1 q1) λu s2 ⟨y,H2,I2,r2,q2⟩ =>?_
 exact hf v u s2 x y H2 I2 r1 r2 q2
def tU (i:Nat):TE:=λσ H Q=>∃v,σ[i]? = some (some v)/\Q v H
def tC (v:V):TE:=λ_ H Q=>Q v H
theorem r9 {i:Nat}{x:Str}{pos:Pos}(hN:X.N[i]? = some x)(hv:Vis X.env.scope x)(hd:(x == ("__debug__" : Str))=false:=by decide)(hcd:(x == ("__classdict__" : Str))=false:=by decide):PE X (.Name x pos) (tU i):=by
 intro pins s σ H Q I h
 obtain ⟨v,e,h⟩:=h
 obtain ⟨m,hn,hl⟩:=I.loc
 obtain ⟨u,r,l⟩:=hl i x v hN e hv
 have fin:EP X pins σ Q u s:=⟨v,H,I,r,h⟩
 rcases l with ⟨hk,hm⟩ | ⟨hk,c,hc,hcell⟩
 ·exact Cw (wpAny_loadName_local I.ok.kind hk hn hm fin) hd
 ·rcases hk with hk | hk
  ·exact Cw (wpAny_loadName_cell I.ok.kind hk hc hcell fin) hd
  ·exact Cw (wpAny_loadName_free I.ok.kind hk hc hcell fin hcd) hd
theorem ag {i j pos}:PE X (.Constant (.int i) j pos) (tC (.int i)):=λ_ _ _ H _ I h=>wpAny_Constant_int ⟨.int i,H,I.tok _,⟨_,rfl⟩,h⟩
theorem oG {b j pos}:PE X (.Constant (.bool b) j pos) (tC (.bl b)):=λ_ _ _ H _ I h=>Constant_bool ⟨.bl b,H,I,rfl,h⟩
def Gl (X:Cx)(x:Str):Prop:=X.env.kindOf x=some .globalImplicit
theorem lQ {E:uW->uZ->Prop}{pins:List (Addr×Obj)}{s:uZ}{σ:St}{H:Hp}{x:Str}{u:uW}{pos:Pos}{Q:uW->uZ->Prop}(I:Inv X pins σ H s)(hg:Gl X x)(hm:X.mg x=some u)(h:Q u s)
  (hd:(x == ("__debug__" : Str))=false:=by decide):vJ (vK X.prog X.w) X.A (eval (.Name x pos) X.env) Q E s :=
 zZ I.ok.kind hg (Calls.loadGlobal_global (by rw[I.ok.glob];exact I.mod.glob.keeps I.bk) hm h) hd
theorem cY {E:uW->uZ->Prop}{pins:List (Addr×Obj)}{s:uZ}{σ:St}{H:Hp}{x:Str}{u:uW}{pos:Pos}{Q:uW->uZ->Prop}(I:Inv X pins σ H s)(hg:Gl X x)(hm:X.mg x=none)(hv:we x=some u)(h:Q u s)
  (hn:x ≠ "__name__" := by decide) (hd:(x == ("__debug__" : Str))=false:=by decide):vJ (vK X.prog X.w) X.A (eval (.Name x pos) X.env) Q E s:=by
 obtain ⟨mb,h1,h2⟩:=I.mod.blt
 exact zZ I.ok.kind hg (Calls.loadGlobal_builtin (by rw[I.ok.glob];exact I.mod.glob.keeps I.bk) hm (by rw[I.ok.blt];exact h1.keeps I.bk) ((h2 x hn).trans hv) h) hd
theorem qx {x:Str}{v:V}{u:uW}{pos:Pos}(hg:Gl X x)(hm:X.mg x=some u)(r:RelV v u)(hd:(x == ("__debug__" : Str))=false:=by decide):PE X (.Name x pos) (tC v) :=
 λ_ _ _ H _ I h=>lQ I hg hm ⟨v,H,I,r,h⟩ hd
theorem qy {x:Str}{v:V}{u:uW}{pos:Pos}(hg:Gl X x)(hm:X.mg x=none)(hv:we x=some u)(r:RelV v u)(hn:x ≠ "__name__" := by decide)(hd:(x == ("__debug__" : Str))=false:=by decide):PE X (.Name x pos) (tC v) :=
 λ_ _ _ H _ I h=>cY I hg hm hv ⟨v,H,I,r,h⟩ hn hd
variable  {a b:Expr}{ta tb:TE}{pos:Pos}
def PC (X:Cx)(op:CmpOp)(a b:Expr)(t:TE):Prop :=
 ∀(pins:List (Addr×Obj)) (s:uZ) (σ:St) (H:Hp) (Q:VK),Inv X pins σ H s->t σ H Q →
  vJ (vK X.prog X.w) X.A (eval a X.env) (λv s₁=>vJ (vK X.prog X.w) X.A (eval b X.env) (λu s₂=>vJ (vK X.prog X.w) X.A (xS op v u) (EP X pins σ Q) X.xe s₂) X.xe s₁) X.xe s
theorem oH (b:Expr){op:CmpOp}(h:op ≠ .In)(h2:op ≠ .NotIn):behindInMarks op b=false:=by
 have e1:(op == CmpOp.In)=false:=by cases op <;> first | rfl | exact absurd rfl h
 have e2:(op == CmpOp.NotIn)=false:=by cases op <;> first | rfl | exact absurd rfl h2
 cases b <;> simp[behindInMarks,e1,e2]
def tB (t:TE):TT:=λσ H Q=>t σ H λx H1=>∃c,x = .bl c/\Q c H1
theorem pt_cmp {op:CmpOp}{t:TE}(h:PC X op a b t)(h1:behindInMarks op b=false:=by first | exact oH _ (by decide) (by decide) | rfl):PT X (.Compare a [op] [b] pos) (tB t):=by
 intro pins s σ H Q I hw
 refine A0 (thn (h pins s σ H _ I hw) λv s1 h1=>thn h1 λu s2 h2=>thn h2 λc s3 ⟨x,H1,I1,r1,q1⟩ =>?_) h1
 obtain ⟨d,rfl,q⟩:=q1
 cases r1
 exact yk ⟨H1,I1,q⟩
theorem kP {e:Expr}{t:TE}(h:PE X e t)(he:∀whole,isTrue e X.env whole=(do let v ← whole;standAt e.pos;holding [v] (truthy v)):=by intro _;rfl):PT X e (tB t):=by
  intro pins s σ H Q I hw
  refine isTrue_plain (thn (h pins s σ H _ I hw) λv s1 ⟨x,H1,I1,r1,q1⟩ =>?_) (he _)
  obtain ⟨d,rfl,q⟩:=q1
  cases r1
  exact yk ⟨H1,I1,q⟩
variable  {tA tB':TT}{rest:List Expr}
def tAnd (t u:TT):TT:=λσ H Q=>t σ H λc H1=>if c=true then u σ H1 Q else Q false H1
def tOr (t u:TT):TT:=λσ H Q=>t σ H λc H1=>if c=true then Q true H1 else u σ H1 Q
def tNot (t:TT):TT:=λσ H Q=>t σ H λc H1=>Q (!c) H1
theorem jk (ha:PT X a tA):PW X (.BoolOp .And [a] pos) tA:=by
 intro wh pins s σ H Q I h
 refine isTrue_and (thn (ha pins s σ H Q I h) λc s1 e =>?_)
 cases c with
 | true=>exact isTrue_and_nil e
 | false=>exact e
theorem kQ (ha:PT X a tA):PW X (.BoolOp .Or [a] pos) tA:=by
 intro wh pins s σ H Q I h
 refine isTrue_or (thn (ha pins s σ H Q I h) λc s1 e =>?_)
 cases c with
 | false=>exact isTrue_or_nil e
 | true=>exact e
theorem jl (ha:PT X a tA)(hb:PW X (.BoolOp .And (b :: rest) pos) tB'):PW X (.BoolOp .And (a :: b :: rest) pos) (tAnd tA tB'):=by
 intro wh pins s σ H Q I h
 refine isTrue_and (thn (ha pins s σ H _ I h) λc s1 ⟨H1,I1,q1⟩ =>?_)
 cases c with
 | true=>exact hb wh pins s1 σ H1 Q I1 q1
 | false=>exact ⟨H1,I1,q1⟩
theorem oI (ha:PT X a tA)(hb:PW X (.BoolOp .Or (b :: rest) pos) tB'):PW X (.BoolOp .Or (a :: b :: rest) pos) (tOr tA tB'):=by
 intro wh pins s σ H Q I h
 refine isTrue_or (thn (ha pins s σ H _ I h) λc s1 ⟨H1,I1,q1⟩ =>?_)
 cases c with
 | true=>exact ⟨H1,I1,q1⟩
 | false=>exact hb wh pins s1 σ H1 Q I1 q1
theorem sd (ha:PT X a tA):PT X (.UnaryOp .Not a pos) (tNot tA):=by
 intro pins s σ H Q I h
 exact isTrue_not (ha pins s σ H (λc H1=>Q (!c) H1) I h)
def tV (ta tb:TE):TE:=λσ H Q=>ta σ H λx H1=>∃c,x = .bl c/\if c=true then tb σ H1 Q else Q (.bl false) H1
theorem se {op}{t:TE}(h:PE X a t):PE X (.BoolOp op [a] pos) t:=λpins s σ H Q I hw=>BoolOp_one (h pins s σ H Q I hw)
theorem sf (ha:PE X a ta)(hb:PE X (.BoolOp .And (b :: rest) pos) tb):PE X (.BoolOp .And (a :: b :: rest) pos) (tV ta tb):=by
 intro pins s σ H Q I h
 refine BoolOp_and (thn (ha pins s σ H _ I h) λv s1 ⟨x,H1,I1,r1,q1⟩ =>?_)
 obtain ⟨c,rfl,q1⟩:=q1
 cases r1
 refine yk ?_
 cases c with
 | true=>exact hb pins s1 σ H1 Q I1 q1
 | false=>exact ⟨.bl false,H1,I1,rfl,q1⟩
end
open PySem PySem.Spec PyProof.Rows
def SqL (K:u6)(H:Hp)(a:Addr)(xs:List V):Prop :=
 Rd H a (.lst xs) ∨
  ∃(o:Obj) (its:Array uW) (n:Nat),K.lookup a=some o/\o.cls = .type "list" /\ o.dict=none/\o.data = .seq its n/\its.size<=vm/\Vals xs its.toList
def SqT (K:u6)(H:Hp)(a:Addr)(xs:List V):Prop :=
 Rd H a (.tup xs) ∨
  ∃(o:Obj) (its:Array uW) (n:Nat),K.lookup a=some o/\o.cls = .type "tuple" /\ o.data = .seq its n/\its.size<=vm/\Vals xs its.toList
def absV:uW->Option V
 | .none=>some .non
 | .bool b=>some (.bl b)
 | .int i _=>some (.int i)
 | .str x _=>some (.str x)
 | .bytes b _=>some (.byt b)
 | .float b _=>some (.flt b)
 | .ref a=>some (.ref a)
 | .type n=>some (.ty n)
 | _=>none
theorem RelV.abs {x:V}{u:uW}(r:RelV x u):absV u=some x:=by
 cases x with
 | non=>cases r;rfl
 | bl _=>cases r;rfl
 | int _=>obtain ⟨t,rfl⟩:=r;rfl
 | str _=>obtain ⟨t,rfl⟩:=r;rfl
 | byt _=>obtain ⟨t,rfl⟩:=r;rfl
 | flt _=>obtain ⟨t,rfl⟩:=r;rfl
 | ref _=>cases r;rfl
 | ty _=>cases r;rfl
theorem RelV.inj {x y:V}{u:uW}(r:RelV x u)(q:RelV y u):x=y:=vR (r.abs.symm.trans q.abs)
theorem Vals.inj:∀{xs ys:List V} {us:List uW},Vals xs us->Vals ys us->xs=ys
 | _,_,_,.nil,.nil=>rfl
 | _,_,_,.cons r t,.cons r' t'=>by rw[r.inj r',Vals.inj t t']
section
variable  {X:Cx}{pins:List (Addr×Obj)}{σ:St}{H:Hp}{s:uZ}{a:Addr}{xs ys:List V}
theorem SqL.of {K:u6}(h:H a=some (.lst xs)):SqL K H a xs :=.inl (.inl h)
theorem SqT.of {K:u6}(h:H a=some (.tup xs)):SqT K H a xs :=.inl (.inl h)
theorem Inv.list (I:Inv X pins σ H s)(h:SqL X.K H a xs):∃its:List uW,Vals xs its/\PlainL s.heap a its.toArray/\xs.length<=vm:=by
 rcases h with h | ⟨o,its,n,hk,hc,hd,hs,hz,r⟩
 ·obtain ⟨z,its,n,r,e⟩:=h.ok I.hok
  exact ⟨its,r,⟨_,n,e,rfl,rfl,rfl⟩,z⟩
 ·refine ⟨its.toList,r,⟨o,n,I.kIn a o hk,hc,hd,by simpa using hs⟩,?_⟩
  have e:=r.length
  simp only[vo] at e
  omega
theorem Inv.tuple (I:Inv X pins σ H s)(h:SqT X.K H a xs):∃its:List uW,Vals xs its/\IsTup s.heap a its.toArray/\xs.length<=vm:=by
 rcases h with h | ⟨o,its,n,hk,hc,hs,hz,r⟩
 ·obtain ⟨z,its,r,p⟩:=h.ok I.hok
  exact ⟨its,r,p.tup,z⟩
 ·refine ⟨its.toList,r,⟨o,I.kIn a o hk,hc,n,by simpa using hs⟩,?_⟩
  have e:=r.length
  simp only[vo] at e
  omega
theorem Inv.jP (I:Inv X pins σ H s)(h:SqL X.K H a xs)(h':SqL X.K H a ys):xs=ys:=by
 obtain ⟨its,r,⟨o,n,e,_,_,d⟩,_⟩:=I.list h
 obtain ⟨its',r',⟨o',n',e',_,_,d'⟩,_⟩:=I.list h'
 rw[e] at e';cases e'
 rw[d] at d'
 injection d' with d1 _
 have:its=its':=by simpa using congrArg Array.toList d1
 subst this
 exact r.inj r'
theorem Inv.iG (I:Inv X pins σ H s)(h:SqT X.K H a xs)(h':SqT X.K H a ys):xs=ys:=by
 obtain ⟨its,r,⟨o,e,_,n,d⟩,_⟩:=I.tuple h
 obtain ⟨its',r',⟨o',e',_,n',d'⟩,_⟩:=I.tuple h'
 rw[e] at e';cases e'
 rw[d] at d'
 injection d' with d1 _
 have:its=its':=by simpa using congrArg Array.toList d1
 subst this
 exact r.inj r'
end
abbrev Cx.iu (X:Cx)(E:uW->uZ->Prop):Cx:={ X with xe:=E }
abbrev Cx.nox (X:Cx):Cx:=X.iu λ_ _=>False
theorem Cx.Ok.iu {X:Cx}(ok:X.Ok)(E:uW->uZ->Prop):(X.iu E).Ok :=
 ⟨ok.mod,ok.kind,ok.glob,ok.blt,ok.above,ok.inj,ok.has,ok.cab,ok.hd,ok.frames,ok.stk,ok.exf,ok.bs,ok.bsz,ok.noex,ok.exfs,ok.funs,ok.frf⟩
theorem Cx.Ok.dz {X:Cx}{E:uW->uZ->Prop}(ok:(X.iu E).Ok):X.Ok :=
 ⟨ok.mod,ok.kind,ok.glob,ok.blt,ok.above,ok.inj,ok.has,ok.cab,ok.hd,ok.frames,ok.stk,ok.exf,ok.bs,ok.bsz,ok.noex,ok.exfs,ok.funs,ok.frf⟩
section
variable  {X:Cx}{pins:List (Addr×Obj)}{σ:St}{H:Hp}{s:uZ}{E:uW->uZ->Prop}
theorem Inv.iu (I:Inv X pins σ H s)(E:uW->uZ->Prop):Inv (X.iu E) pins σ H s:=⟨I.ok.iu E,I.os,I.bare,I.base,I.loc,I.cell,I.free,I.freeC,I.pin,I.hok,I.len⟩
theorem Inv.dz (I:Inv (X.iu E) pins σ H s):Inv X pins σ H s:=⟨I.ok.dz,I.os,I.bare,I.base,I.loc,I.cell,I.free,I.freeC,I.pin,I.hok,I.len⟩
theorem SP.dz {D:Ends}{f:Flow}{s':uZ}(h:SP (X.iu E) pins D f s'):SP X pins D f s':=by
 cases f with
 | next=>obtain ⟨σ',H',I,q⟩:=h;exact ⟨σ',H',I.dz,q⟩
 | brk=>obtain ⟨σ',H',I,q⟩:=h;exact ⟨σ',H',I.dz,q⟩
 | cont=>obtain ⟨σ',H',I,q⟩:=h;exact ⟨σ',H',I.dz,q⟩
 | ret u=>obtain ⟨v,σ',H',I,r,q⟩:=h;exact ⟨v,σ',H',I.dz,r,q⟩
theorem PSs.nox {st:List Stmt}{t:TS}(h:PSs X.nox st t):PSs X st t:=λpins s σ H D I hw =>
 xG (h pins s σ H D (I.iu _) hw) (λ_ _ q=>q.dz) λ_ _ z=>False.elim z
end
section
variable  {X:Cx}{st:Stmt}{rest:List Stmt}{t u:TS}{e:Expr}{te:TE}{pos:Pos}
def tW:TS:=λD σ H=>D.nx σ H
def tSeq (t u:TS):TS:=λD σ H=>t { D with nx:=u D } σ H
theorem aP:PSs X [] tW:=λ_ _ σ H _ I h=>A1 ⟨σ,H,I,h⟩
theorem ai (h1:PS X st t)(h2:PSs X rest u):PSs X (st :: rest) (tSeq t u):=by
 intro pins s σ H D I h
 refine wpAny_execs_cons (thn (h1 pins s σ H { D with nx:=u D } I h) λf s1 q =>?_)
 cases f with
 | next =>
  obtain ⟨σ',H',I',q⟩:=q
  exact h2 pins s1 σ' H' D I' q
 | ret v=>exact q
 | brk=>exact q
 | cont=>exact q
theorem aj (h1:PS X st t):PSs X [st] t:=by
 intro pins s σ H D I h
 refine wpAny_execs_cons (thn (h1 pins s σ H D I h) λf s1 q =>?_)
 cases f with
 | next=>exact A1 q
 | ret v=>exact q
 | brk=>exact q
 | cont=>exact q
theorem Inv.quiet {pins:List (Addr×Obj)}{σ:St}{H:Hp}{s:uZ}(I:Inv X pins σ H s):interactive X.env=false:=by simp[interactive,I.ok.kind]
def tX (te:TE):TS:=λD σ H=>te σ H λ_ H1=>D.nx σ H1
theorem dJ (he:PE X e te)(hs:swapsWith e none pos.line X.env=pure false:=by rfl):PS X (.Expr e pos) (tX te):=by
 intro pins s σ H D I h
 exact wpAny_Expr_any (thn (he pins s σ H _ I h) λv s1 ⟨x,H1,I1,r1,q1⟩=>⟨σ,H1,I1,q1⟩) I.quiet hs
def tRet (te:TE):TS:=λD σ H=>te σ H D.rt
theorem aO (he:PE X e te):PS X (.Return (some e) pos) (tRet te):=by
 intro pins s σ H D I h
 exact wpAny_Return_some (thn (he pins s σ H _ I h) λv s1 ⟨x,H1,I1,r1,q1⟩=>⟨x,σ,H1,I1,r1,q1⟩)
def tIfS (c:TT)(t u:TS):TS:=λD σ H=>c σ H λb H1=>if b=true then t D σ H1 else u D σ H1
theorem bo {c:Expr}{a b:List Stmt}{tc:TT}(hc:PT X c tc)(ha:PSs X a t)(hb:PSs X b u):PS X (.If c a b pos) (tIfS tc t u):=by
 intro pins s σ H D I h
 refine wpAny_If (thn (hc pins s σ H _ I h) λd s1 ⟨H1,I1,q1⟩ =>?_)
 cases d with
 | true=>exact ha pins s1 σ H1 D I1 q1
 | false=>exact hb pins s1 σ H1 D I1 q1
def sg:TS:=λ_ _ _=>False
theorem fH {sts:List Stmt}:PSs X sts sg:=λ_ _ _ _ _ _ h=>h.elim
end
abbrev TG:=V->St->Hp->(St->Hp->Prop)->Prop
abbrev TGs:=List V->St->Hp->(St->Hp->Prop)->Prop
def PG (X:Cx)(target:Expr)(t:TG):Prop :=
 ∀(pins:List (Addr×Obj)) (s:uZ) (σ:St) (H:Hp) (v:V) (u:uW) (Q:St->Hp->Prop),Inv X pins σ H s->RelV v u->t v σ H Q →
  vJ (vK X.prog X.w) X.A (assign target X.env u) (λ_ s'=>∃σ' H',Inv X pins σ' H' s'/\Q σ' H') X.xe s
def PGs (X:Cx)(ts:List Expr)(t:TGs):Prop :=
 ∀(pins:List (Addr×Obj)) (s:uZ) (σ:St) (H:Hp) (vs:List V) (us:List uW) (Q:St->Hp->Prop),Inv X pins σ H s->Vals vs us->t vs σ H Q →
  vJ (vK X.prog X.w) X.A (assignInOrder ((assignEach ts X.env).map (·.2)) us) (λ_ s'=>∃σ' H',Inv X pins σ' H' s'/\Q σ' H') X.xe s
abbrev si:=V->V->V->Hp->(Hp->Prop)->Prop
def tY (X:Cx)(t:si):Prop :=
 ∀(pins:List (Addr×Obj)) (s:uZ) (σ:St) (H:Hp) (o i v:V) (ov iv u:uW) (Q:Hp->Prop),Inv X pins σ H s->RelV o ov->RelV i iv->RelV v u->t o i v H Q →
  vJ (vK X.prog X.w) X.A (setItem ov iv u) (λ_ s'=>∃H',Inv X pins σ H' s'/\Q H') X.xe s
section
variable  {X:Cx}{pos:Pos}
def eA (i:Nat):TG:=λv σ H Q=>Q (σ.set i (some v)) H
theorem av {i:Nat}{x:Str}(hN:X.N.Nodup)(hi:X.N[i]? = some x)(hx:Loc X.env.scope x)(hf:X.fn x=true\/X.env.scope.names.lookup x=some .local:=by first | exact .inl rfl | exact .inr rfl | assumption):PG X (.Name x pos) (eA i):=by
 intro pins s σ H v u Q I r h
 exact wpAny_assign_Name (jN I hN hi hx r (λs' I'=>⟨_,H,I',h⟩) hf)
def tZ:TGs:=λvs σ H Q=>vs=[]/\Q σ H
def oJ (t:TG)(u:TGs):TGs:=λvs σ H Q=>∃v r,vs=v :: r/\t v σ H λσ' H'=>u r σ' H' Q
theorem dM:PGs X [] tZ:=by
 intro pins s σ H vs us Q I r h
 obtain ⟨e,h⟩:=h
 subst e
 cases r
 exact assignInOrder_nil ⟨σ,H,I,h⟩
theorem bg {e:Expr}{es:List Expr}{t:TG}{u:TGs}(h1:PG X e t)(h2:PGs X es u)
  (hs:(assignEach (e :: es) X.env).map (·.2)=assign e X.env :: (assignEach es X.env).map (·.2):=by rfl):PGs X (e :: es) (oJ t u):=by
 intro pins s σ H vs us Q I r h
 obtain ⟨v,vr,e1,h⟩:=h
 subst e1
 cases r with
 | cons r rr =>
  rw[hs]
  refine assignInOrder_cons (thn (h1 pins s σ H _ _ _ I r h) λ_ s1 ⟨σ1,H1,I1,q1⟩ =>?_)
  exact h2 pins s1 σ1 H1 _ _ Q I1 rr q1
def t8 (K:u6)(n:Nat)(t:TGs):TG:=λv σ H Q=>∃a xs,v = .ref a/\SqT K H a xs/\xs.length=n/\t xs σ H Q
theorem fI {es:List Expr}{k:Nat}{t:TGs}{n:Nat}(hc:X.calm=true)(h:PGs X es t)
  (hn:(assignEach es X.env).length=n:=by rfl) (hst:(assignEach es X.env).findIdx? (·.1)=none:=by rfl):PG X (.Tuple es k pos) (t8 X.K n t):=by
 intro pins s σ H v u Q I r hw
 obtain ⟨a,xs,e1,hq,hl,hw⟩:=hw
 subst e1
 cases r
 obtain ⟨its,rv,ht,hz⟩:=I.tuple hq
 refine assign_Tuple_tuple (I.ok.hd hc) ht (by simp[hn, <- hl,rv.length]) hst λh' hx =>?_
 have I1:Inv X pins σ H { s with heap:=h' }:=I.kept (t':=s.toks) λb o e=>hx b o (vH (vh e)) e
 exact h pins _ σ H xs _ Q I1 (by simpa using rv) hw
def gSub (to ti:TE)(t:si):TG:=λv σ H Q=>to σ H λo H1=>ti σ H1 λi H2=>t o i v H2 λH3=>Q σ H3
theorem kR {o i:Expr}{to ti:TE}{t:si}(ho:PE X o to)(hi:PE X i ti)(hs:tY X t)
    (ha:∀v,assign (.Subscript o i pos) X.env v=(do
      let ov ← holding [v] (eval o X.env)
      let iv ← holding [v,ov] (eval i X.env)
      standAt pos
      holding [v,ov,iv] (setItem ov iv v)
      release [v,ov,iv] []):=by intro _;rfl):PG X (.Subscript o i pos) (gSub to ti t):=by
  intro pins s σ H v u Q I r h
  rw[ha]
  refine uU (xK (thn (ho pins s σ H _ I h) λov s1 ⟨x,H1,I1,r1,q1⟩ =>?_))
  refine uU (xK (thn (hi pins s1 σ H1 _ I1 q1) λiv s2 ⟨y,H2,I2,r2,q2⟩ =>?_))
  refine uU (AA (uU (xK (thn (hs pins s2 σ H2 x y v ov iv u _ I2 r1 r2 r q2) λ_ s3 ⟨H3,I3,q3⟩ =>?_))))
  exact wpAny_release ⟨σ,H3,I3,q3⟩
def sj (te:TE)(g:TG):TS:=λD σ H=>te σ H λx H1=>g x σ H1 D.nx
theorem jm {tg e:Expr}{te:TE}{g:TG}(he:PE X e te)(hg:PG X tg g)(hs:swapsWithSole [tg] e pos.line X.env=pure false:=by rfl)(hw:swappedStores [tg] e X.env=pure none:=by rfl)
  (h1:(assignEach [tg] X.env).map (·.2)=[assign tg X.env]:=by rfl):PS X (.Assign [tg] e pos) (sj te g):=by
 intro pins s σ H D I h
 refine wpAny_Assign_stores (thn (he pins s σ H _ I h) λv s1 ⟨x,H1,I1,r1,q1⟩ =>?_) hs hw
 rw[h1]
 exact thn (hg pins s1 σ H1 x v _ I1 r1 q1) λ_ s2 q=>q
theorem az {i:Nat}{x:Str}{e:Expr}{te:TE}{pos':Pos}(hN:X.N.Nodup)(hi:X.N[i]? = some x)(hx:Loc X.env.scope x)(he:PE X e te)(hs:swapsWith e (some (.Name x pos')) pos.line X.env=pure false:=by rfl)(hf:X.fn x=true\/X.env.scope.names.lookup x=some .local:=by first | exact .inl rfl | exact .inr rfl | assumption) :
  PS X (.Assign [.Name x pos'] e pos) (sj te (eA i)):=by
 intro pins s σ H D I h
 refine wpAny_Assign_Name (thn (he pins s σ H _ I h) λv s1 ⟨y,H1,I1,r1,q1⟩ =>?_) hs
 exact jN I1 hN hi hx r1 (λs2 I2=>⟨_,H1,I2,q1⟩) hf
end
section
variable  {X:Cx}{pos:Pos}
end
structure It where
 go:Nat->Hp->Prop
 yld:Nat->Hp->V->Hp->Prop
 stop:Nat->Hp->Prop
def fJ (X:Cx)(pins:List (Addr×Obj))(H:Hp)(b:Addr):Prop :=
 H b=none/\b≠X.env.locals/\b∉X.fs/\(b∈X.ex\/X.s₀.heap.objs.size<=b)/\(∀x c,X.env.cells.lookup x=some c->c≠b)/\∀p∈X.pn++pins,p.1≠b
theorem Inv.oK {X:Cx}{pins:List (Addr×Obj)}{σ:St}{H H':Hp}{s:uZ}{b:Addr}(I:Inv X pins σ H s)(hb:s.heap.objs.size<=b)(hn:H' b=none):fJ X pins H' b:=by
 refine ⟨hn,xw (vF I.lt hb),I.r6 hb,.inr (vP I.sz hb),λx c e z =>?_,λp hp z =>?_⟩
 ·obtain ⟨v,q⟩:=I.cell x c e
  exact absurd (vF q.lt (by rw[z];exact hb)) (wX _)
 ·exact absurd (vF (vh (I.pin p hp).1) (by rw[z];exact hb)) (wX _)
structure Turn (P:vI)(w:wc)(K:u6)(tg:Expr)(J:It)(fp:List Addr)(it:Addr)(tn:Nat->Heap->Prop):Prop where
 mem:it∈fp
 obj:∀i h,tn i h->∀b∈fp,∃o,h.get? b=some o/\∀v,o.data ≠ .cell v
 keep:∀i h h',tn i h->(∀b∈fp,∀o,h.get? b=some o->h'.get? b=some o)->tn i h'
 item:∀(X:Cx),X.prog=P->X.w=w->X.K=K->X.calm=true->∀(i:Nat) (pins:List (Addr×Obj)) (s:uZ) (σ:St) (H:Hp) (E:uW->uZ->Prop),Inv X pins σ H s->(∀b∈fp,fJ X pins H b)->tn i s.heap->J.go i H →
  vJ (vK P w) X.A (pyNext (.ref it)) (λr s1=>∃u,r=some u ∧
   vJ (vK P w) X.A (letOwnedTupleGo tg (.ref it) u) (λ_ s2=>∃x H',Inv X pins σ H' s2/\RelV x u/\J.yld i H x H'/\tn (i+1) s2.heap/\∀b∈fp,H' b=none) E s1) E s
 done:∀(X:Cx),X.prog=P->X.w=w->X.K=K->X.calm=true->∀(i:Nat) (pins:List (Addr×Obj)) (s:uZ) (σ:St) (H:Hp) (E:uW->uZ->Prop),Inv X pins σ H s->(∀b∈fp,fJ X pins H b)->tn i s.heap->J.stop i H →
  vJ (vK P w) X.A (pyNext (.ref it)) (λr s1=>r=none/\Inv X pins σ H s1) E s
 self:∀(A:v7) (i:Nat) (s:uZ) (Q:uW->uZ->Prop) (E:uW->uZ->Prop),tn i s.heap->Q (.ref it) s->vJ (vK P w) A (pyIter (.ref it)) Q E s
abbrev TI:=St->Hp->(It->Hp->Prop)->Prop
def PIE (X:Cx)(pins:List (Addr×Obj))(σ:St)(tg:Expr)(R:It->Hp->Prop)(itv:uW)(s2:uZ):Prop :=
 ∃(it:Addr) (fp:List Addr) (tn:Nat->Heap->Prop) (J:It) (H':Hp),itv = .ref it/\Inv X pins σ H' s2/\Turn X.prog X.w X.K tg J fp it tn/\tn 0 s2.heap/\(∀b∈fp,fJ X pins H' b)/\R J H'
def PI (X:Cx)(tg iter:Expr)(wi:TI):Prop :=
 ∀(pins:List (Addr×Obj)) (s:uZ) (σ:St) (H:Hp) (R:It->Hp->Prop),Inv X pins σ H s->wi σ H R →
  vJ (vK X.prog X.w) X.A (eval iter X.env) (λv s1=>vJ (vK X.prog X.w) X.A (pyIter v) (PIE X pins σ tg R) X.xe s1) X.xe s
theorem oM {M:Model}{A:v7}{E:uW->uZ->Prop}{s:uZ}{tg:Expr}{it:Addr}{u:uW}{o:Obj}{n:String}{vs:Array uW}{Q:Unit->uZ->Prop}(ho:s.heap.get? it=some o)(hc:o.cls = .type n)(hd:o.data = .fields vs)
    (hn:["enumerate", "zip", "dict_itemiterator", "dict_reverseitemiterator", "odict_iterator", "itertools.zip_longest", "itertools.pairwise"].contains n=false) (hQ:Q () s):vJ M A (letOwnedTupleGo tg (.ref it) u) Q E s:=by
  unfold letOwnedTupleGo
  cases tg <;> first
    | exact vg hQ
    | (cases u <;> first
        | exact vg hQ
        | (refine uU (A4 ho ?_)
           rw[hc,hd]
           show vJ M A (if (["enumerate", "zip", "dict_itemiterator", "dict_reverseitemiterator", "odict_iterator", "itertools.zip_longest", "itertools.pairwise"].contains n && vs[0]? == some (zX _))=true then _ else _) Q E s
           rw[if_neg (by intro h;rw[hn,Cf] at h;cases h)]
           exact vg hQ))
def Itl (K:u6)(a:Addr):It :=
 ⟨λi H=>∃xs x,SqL K H a xs/\xs[i]? = some x,λi H x H'=>H'=H/\∀xs,SqL K H a xs->xs[i]? = some x,λi H=>∃xs,SqL K H a xs/\xs.length<=i⟩
def Itt (K:u6)(a:Addr):It :=
 ⟨λi H=>∃xs x,SqT K H a xs/\xs[i]? = some x,λi H x H'=>H'=H/\∀xs,SqT K H a xs->xs[i]? = some x,λi H=>∃xs,SqT K H a xs/\xs.length<=i⟩
def Itr (lo:Int)(n:Nat):It:=⟨λi _=>i<n,λi H x H'=>H'=H/\x = .int (lo+i),λi _=>n<=i⟩
theorem iH {P:vI}{w:wc}{K:u6}{tg:Expr}(a it:Addr):Turn P w K tg (Itl K a) [it] it (λi h=>h.IsListIter it a i) where
 mem:=by simp
 obj:=λi h st b hb=>by
  have e:b=it:=by simpa using hb
  subst e
  obtain ⟨o,e,c,d⟩:=st
  exact ⟨o,e,λv z=>by rw[d] at z;cases z⟩
 keep:=λi h h' st k=>st.at λo e=>k it (by simp) o e
 item:=by
  intro X hP hw hK hc i pins s σ H E I hf st hg
  subst hP hw hK
  obtain ⟨xs,x,hq,hx⟩:=hg
  obtain ⟨its,rv,p,hz⟩:=I.list hq
  obtain ⟨u,hu,ru⟩:=rv.get hx
  obtain ⟨f0,f1,f2,f3,f4,f5⟩:=hf it (by simp)
  refine wpAny_pyNext_list_item st p.isList (x:=u) (by simpa using hu) λh' st' sb =>?_
  have I1:Inv X pins σ H { s with heap:=h' }:=I.turned (t':=s.toks) (λb o hb e=>(sb.2 b hb).trans e) f0 f1 f3 f4 f5
  obtain ⟨o,e,c,d⟩:=id st'
  exact ⟨u,rfl,oM (s:={ s with heap:=h' }) e c d (by decide) ⟨x,H,I1,ru,⟨rfl,λys hy=>by rw[I.jP hy hq];exact hx⟩,st',λb hb=>(hf b hb).1⟩⟩
 done:=by
  intro X hP hw hK hc i pins s σ H E I hf st hg
  subst hP hw hK
  obtain ⟨xs,hq,hx⟩:=hg
  obtain ⟨its,rv,p,hz⟩:=I.list hq
  obtain ⟨f0,f1,f2,f3,f4,f5⟩:=hf it (by simp)
  have hl:=rv.length
  exact wpAny_pyNext_list_end (I.ok.hd hc) st p.isList (by simp;omega) λh' eb=>⟨rfl,I.turned (t':=s.toks) (λb o hb e=>eb b o hb e) f0 f1 f3 f4 f5⟩
 self:=λ_ _ _ _ _ st h=>wpAny_pyIter_listiter st h
theorem gC {P:vI}{w:wc}{K:u6}{tg:Expr}(a it:Addr):Turn P w K tg (Itt K a) [it] it (λi h=>h.IsTupleIter it a i) where
 mem:=by simp
 obj:=λi h st b hb=>by
  have e:b=it:=by simpa using hb
  subst e
  obtain ⟨o,e,c,d⟩:=st
  exact ⟨o,e,λv z=>by rw[d] at z;cases z⟩
 keep:=λi h h' st k=>st.at λo e=>k it (by simp) o e
 item:=by
  intro X hP hw hK hc i pins s σ H E I hf st hg
  subst hP hw hK
  obtain ⟨xs,x,hq,hx⟩:=hg
  obtain ⟨its,rv,p,hz⟩:=I.tuple hq
  obtain ⟨u,hu,ru⟩:=rv.get hx
  obtain ⟨f0,f1,f2,f3,f4,f5⟩:=hf it (by simp)
  refine wpAny_pyNext_tuple_item st (show s.heap.IsTuple a its.toArray from p) (x:=u) (by simpa using hu) λh' st' sb =>?_
  have I1:Inv X pins σ H { s with heap:=h' }:=I.turned (t':=s.toks) (λb o hb e=>(sb.2 b hb).trans e) f0 f1 f3 f4 f5
  obtain ⟨o,e,c,d⟩:=id st'
  exact ⟨u,rfl,oM (s:={ s with heap:=h' }) e c d (by decide) ⟨x,H,I1,ru,⟨rfl,λys hy=>by rw[I.iG hy hq];exact hx⟩,st',λb hb=>(hf b hb).1⟩⟩
 done:=by
  intro X hP hw hK hc i pins s σ H E I hf st hg
  subst hP hw hK
  obtain ⟨xs,hq,hx⟩:=hg
  obtain ⟨its,rv,p,hz⟩:=I.tuple hq
  obtain ⟨f0,f1,f2,f3,f4,f5⟩:=hf it (by simp)
  have hl:=rv.length
  exact wpAny_pyNext_tuple_end (I.ok.hd hc) st (show s.heap.IsTuple a its.toArray from p) (by simp;omega) λh' eb=>⟨rfl,I.turned (t':=s.toks) (λb o hb e=>eb b o hb e) f0 f1 f3 f4 f5⟩
 self:=λ_ _ _ _ _ st h=>wpAny_pyIter_tupleiter st h
theorem kT {P:vI}{w:wc}{K:u6}{tg:Expr}(it:Addr)(lo:Int)(n:Nat):Turn P w K tg (Itr lo n) [it] it (λi h=>IsRangeIter h it (lo+(i:Nat)*1) ((n:Int)-(i:Nat)) 1) where
 mem:=by simp
 obj:=λi h st b hb=>by
  have e:b=it:=by simpa using hb
  subst e
  exact ⟨_,st,λv z=>by
   have z':Data.fields _=Data.cell v:=z
   cases z'⟩
 keep:=λi h h' st k=>k it (by simp) _ st
 item:=by
  intro X hP hw hK hc i pins s σ H E I hf st hg
  subst hP hw hK
  obtain ⟨f0,f1,f2,f3,f4,f5⟩:=hf it (by simp)
  have W:=Walks.range (prog:=X.prog) (w:=X.w) (I.ok.hd hc) it lo 1 n
  refine W.item i s _ _ hg st λv h' tk hv st' kk =>?_
  obtain ⟨t,rfl⟩:=hv
  have I1:Inv X pins σ H { s with heap:=h',toks:=tk }:=I.turned (λb o hb e=>kk b o (by simpa using hb) e) f0 f1 f3 f4 f5
  refine ⟨_,rfl,oM (s:={ s with heap:=h',toks:=tk }) (n := "range_iterator") st' rfl rfl (by decide) ⟨.int (lo+i),H,I1,⟨t,?_⟩,⟨rfl,rfl⟩,st',λb hb=>(hf b hb).1⟩⟩
  rw[Int.mul_one]
 done:=by
  intro X hP hw hK hc i pins s σ H E I hf st hg
  subst hP hw hK
  obtain ⟨f0,f1,f2,f3,f4,f5⟩:=hf it (by simp)
  exact wpAny_pyNext_range_end (I.ok.hd hc) st (by have:n<=i:=hg;omega) λh' eb=>⟨rfl,I.turned (t':=s.toks) (λb o hb e=>eb b o hb e) f0 f1 f3 f4 f5⟩
 self:=λ_ _ _ _ _ st h=>wpAny_pyIter_rangeiter st h
open PySem PySem.Spec PyProof.Rows
section
variable  {X:Cx}{tg:Expr}
def t9 (K:u6)(tl:TE):TI:=λσ H R=>tl σ H λx H1=>∃a,x = .ref a/\(∃xs,SqL K H1 a xs)/\R (Itl K a) H1
def iTup (K:u6)(tl:TE):TI:=λσ H R=>tl σ H λx H1=>∃a,x = .ref a/\(∃xs,SqT K H1 a xs)/\R (Itt K a) H1
theorem bW {l:Expr}{tl:TE}(hl:PE X l tl):PI X tg l (t9 X.K tl):=by
 intro pins s σ H R I h
 refine thn (hl pins s σ H _ I h) λv s1 ⟨x,H1,I1,r1,q1⟩ =>?_
 obtain ⟨a,e,⟨xs,hq⟩,q⟩:=q1
 subst e
 cases r1
 obtain ⟨its,rv,p,hz⟩:=I1.list hq
 refine zu p.isList ?_
 refine ⟨s1.heap.objs.size,[s1.heap.objs.size],_,_,H1,rfl,I1.kept (t':=s1.toks) λb o e=>uV _ e,iH a _,⟨_,ve _ rfl,rfl,rfl⟩,λb hb =>?_,q⟩
 have e:b=s1.heap.objs.size:=by simpa using hb
 subst e
 exact I1.oK (va _) (I1.hok.fresh (va _))
theorem dA {l:Expr}{tl:TE}(hl:PE X l tl):PI X tg l (iTup X.K tl):=by
 intro pins s σ H R I h
 refine thn (hl pins s σ H _ I h) λv s1 ⟨x,H1,I1,r1,q1⟩ =>?_
 obtain ⟨a,e,⟨xs,hq⟩,q⟩:=q1
 subst e
 cases r1
 obtain ⟨its,rv,p,hz⟩:=I1.tuple hq
 refine Ac (show s1.heap.IsTuple a its.toArray from p) ?_
 refine ⟨s1.heap.objs.size,[s1.heap.objs.size],_,_,H1,rfl,I1.kept (t':=s1.toks) λb o e=>uV _ e,gC a _,⟨_,ve _ rfl,rfl,rfl⟩,λb hb =>?_,q⟩
 have e:b=s1.heap.objs.size:=by simpa using hb
 subst e
 exact I1.oK (va _) (I1.hok.fresh (va _))
theorem oN {pins:List (Addr×Obj)}{σ:St}{H:Hp}{s:uZ}{R:It->Hp->Prop}{E:uW->uZ->Prop}{lo hi:Int}{t u v:Tok}{tk:Nat}(I:Inv X pins σ H s)(h1 : -(2 ^ 62)<=lo)(h2:lo<2 ^ 62)(h3 : -(2 ^ 62)<=hi)(h4:hi<2 ^ 62)
  (q:R (Itr lo (hi-lo).toNat) H):vJ (vK X.prog X.w) X.A (pyIter (.ref s.heap.objs.size)) (PIE X pins σ tg R) E { s with heap:=s.heap.push { cls :=.type "range",data :=.fields #[.int lo t,.int hi u,.int 1 v] },toks:=tk }:=by
 refine wpAny_pyIter_range (IsRange.new ..) (small_one h1 h2 h3 h4) ?_
 have I1:Inv X pins σ H { s with heap:=s.heap.push { cls :=.type "range",data :=.fields #[.int lo t,.int hi u,.int 1 v] },toks:=tk }:=I.kept λb o e=>uV _ e
 refine ⟨(s.heap.push { cls :=.type "range",data :=.fields #[.int lo t,.int hi u,.int 1 v] }).objs.size,[(s.heap.push { cls :=.type "range",data :=.fields #[.int lo t,.int hi u,.int 1 v] }).objs.size],_,_,H,rfl,
  I1.kept (t':=tk) λb o e=>uV _ e,kT _ lo (hi-lo).toNat,?_,λb hb =>?_,q⟩
 ·have e1:lo+((0:Nat):Int)*1=lo:=by simp
  have e2:(((hi-lo).toNat:Nat):Int)-((0:Nat):Int)=Builtin.Range.rangeSize lo hi 1:=by rw[rangeSize_one];split <;> omega
  show IsRangeIter _ _ (lo+((0:Nat):Int)*1) ((((hi-lo).toNat:Nat):Int)-((0:Nat):Int)) 1
  rw[e1,e2]
  exact ve _ rfl
 ·have e:b=(s.heap.push { cls :=.type "range",data :=.fields #[.int lo t,.int hi u,.int 1 v] }).objs.size:=by simpa using hb
  subst e
  exact I1.oK (va _) (I1.hok.fresh (va _))
def uc (ta:TA):TI:=λσ H R=>ta σ H λvs H1=>∃j:Int,vs=[.int j] /\ -(2 ^ 62)<=j/\j<2 ^ 62/\R (Itr 0 j.toNat) H1
theorem bR {a:Expr}{ta:TA}{p pos:Pos}(hg:Gl X "range")(hm:X.mg "range" = none)(ha:PA X [a] ta)(hs:wC [a] X.env=[(false,eval a X.env)]:=by rfl):PI X tg (.Call (.Name "range" p) [a] [] pos) (uc ta):=by
 intro pins s σ H R I h
 refine Call_ (cY I hg hm boot_range (xj (thn (ha pos pins s σ H _ I h) λus s1 ⟨vs,H1,I1,r1,q1⟩ =>?_) hs rfl))
 obtain ⟨j,e,q1,q2,q⟩:=q1
 subst e
 cases r1 with
 | cons r rr =>
  cases rr
  obtain ⟨t,rfl⟩:=r
  exact call_range_1 (oN I1 (by omega) (by omega) q1 q2 (by simpa using q))
def tFor (wi:TI)(g:TG)(tb:TS):TS:=λD σ H=>wi σ H λJ H1=>∃W:Nat->Nat->St->Hp->Prop,(∃m,W 0 m σ H1)/\∀i m σ H,W i m σ H →
 (J.stop i H/\D.nx σ H)\/(J.go i H/\∃N:St->Hp->Prop,(∀σ' H',N σ' H'->∃m',m'<m/\W (i+1) m' σ' H')/\∀x H',J.yld i H x H'->g x σ H' λσ2 H2=>tb { D with nx:=N,ct:=N,bk:=D.nx } σ2 H2)
def eF (fp:List Addr)(h:Heap):List (Addr×Obj):=fp.filterMap λb=>(h.get? b).map λo=>(b,o)
theorem cv {fp:List Addr}{h:Heap}{b:Addr}{o:Obj}(hb:b∈fp)(e:h.get? b=some o):(b,o)∈eF fp h:=Bk.mpr ⟨b,hb,by rw[e];rfl⟩
theorem iI {fp:List Addr}{h:Heap}{p:Addr×Obj}(hp:p∈eF fp h):p.1∈fp/\h.get? p.1=some p.2:=by
 obtain ⟨b,hb,e⟩:=Bk.mp hp
 cases q:h.get? b with
 | none=>rw[q] at e;cases e
 | some o =>
  rw[q] at e
  have e':(b,o)=p:=vR e
  subst e'
  exact ⟨hb,q⟩
theorem Inv.pinned {pins:List (Addr×Obj)}{σ:St}{H:Hp}{s:uZ}{fp:List Addr}(I:Inv X pins σ H s)(hf:∀b∈fp,fJ X pins H b)(ho:∀b∈fp,∃o,s.heap.get? b=some o/\∀v,o.data ≠ .cell v):Inv X (pins++eF fp s.heap) σ H s :=
 I.eR λp hp=>(vx.mp hp).elim (λz=>I.pin p (vN _ z)) λz=>by
  obtain ⟨hb,e⟩:=iI z
  obtain ⟨f0,f1,f2,_⟩:=hf p.1 hb
  obtain ⟨o,e',d⟩:=ho p.1 hb
  rw[e] at e';cases e'
  exact ⟨e,f0,f1,f2,d⟩
theorem Inv.cQ {pins pl:List (Addr×Obj)}{σ:St}{H:Hp}{s:uZ}(I:Inv X (pins++pl) σ H s):Inv X pins σ H s:=I.eR λp hp=>I.pin p (vN _ (yJ _ hp))
theorem bL {iter:Expr}{body:List Stmt}{wi:TI}{g:TG}{tb:TS}{pos:Pos}(hp:PassesOwn (vK X.prog X.w) X.A X.env X.xe)(hc:X.calm=true)(hi:PI X tg iter wi)(hg:PG X tg g)(hb:PSs X body tb)
  (hs:∀x,foldedSetIterable iter X.env x=pure x:=by intro _;rfl):PS X (.For tg iter body [] pos) (tFor wi g tb):=by
 intro pins s σ H D I h
 refine wpAny_For (thn (hi pins s σ H _ I h) λv s1 h1=>thn h1 λitv s2 h2 =>?_) hs
 obtain ⟨it,fp,tn,J,H2,e,I2,T,st2,f2,W,⟨m0,w0⟩,turn⟩:=h2
 subst e
 have stat:∀{H':Hp},(∀b∈fp,H' b=none)->∀b∈fp,fJ X pins H' b:=λhn b hb=>⟨hn b hb,(f2 b hb).2⟩
 refine codeAny_forLoop_any (λn s'=>∃i σ' H',Inv X pins σ' H' s'/\tn i s'.heap/\(∀b∈fp,H' b=none)/\W i n σ' H') ?_ m0 ⟨0,σ,H2,I2,st2,λb hb=>(f2 b hb).1,w0⟩
 rintro n s3 ⟨i,σ3,H3,I3,st3,fr3,w3⟩
 rcases turn i n σ3 H3 w3 with ⟨stop,qn⟩ | ⟨go,N,hN,step⟩
 ·refine zh hp (thn (T.done X rfl rfl rfl hc i pins s3 σ3 H3 X.xe I3 (stat fr3) st3 stop) λr s4 ⟨hr,I4⟩ =>?_)
  subst hr
  exact A1 ⟨σ3,H3,I4,qn⟩
 ·refine zh hp (thn (T.item X rfl rfl rfl hc i pins s3 σ3 H3 X.xe I3 (stat fr3) st3 go) λr s4 ⟨u,hr,h4⟩ =>?_)
  subst hr
  refine zh hp (thn h4 λ_ s5 ⟨x,H5,I5,r5,y5,st5,fr5⟩ =>?_)
  have I5':=I5.pinned (stat fr5) (T.obj _ _ st5)
  refine zh hp (thn (hg _ s5 σ3 H5 x u _ I5' r5 (step x H5 y5)) λ_ s6 ⟨σ6,H6,I6,q6⟩ =>?_)
  refine zh hp (thn (hb _ s6 σ6 H6 _ I6 q6) λf s7 q7 =>?_)
  have again:∀{σ7:St} {H7:Hp},Inv X (pins++eF fp s5.heap) σ7 H7 s7->N σ7 H7->∃m,m<n/\∃i σ' H',Inv X pins σ' H' s7/\tn i s7.heap/\(∀b∈fp,H' b=none)/\W i m σ' H':=λ{σ7 H7} I7 n7=>by
   obtain ⟨m',hm,w7⟩:=hN σ7 H7 n7
   refine ⟨m',hm,i+1,σ7,H7,I7.cQ,T.keep _ _ _ st5 λb hb o e=>(I7.pin (b,o) (vN _ (vN _ (cv hb e)))).1,λb hb =>?_,w7⟩
   obtain ⟨o,e,d⟩:=T.obj _ _ st5 b hb
   exact (I7.pin (b,o) (vN _ (vN _ (cv hb e)))).2.1
  cases f with
  | next=>obtain ⟨σ7,H7,I7,n7⟩:=q7;exact again I7 n7
  | cont=>obtain ⟨σ7,H7,I7,n7⟩:=q7;exact again I7 n7
  | brk=>obtain ⟨σ7,H7,I7,q7⟩:=q7;exact ⟨σ7,H7,I7.cQ,q7⟩
  | ret v=>obtain ⟨x7,σ7,H7,I7,r7,q7⟩:=q7;exact ⟨x7,σ7,H7,I7.cQ,r7,q7⟩
end
theorem eU {K:u6}{a:Addr}{xs:List V}{g:TG}{tb:TS}{D:Ends}{σ:St}{H:Hp}(Pv:Nat->St->Hp->Prop)(h0:Pv 0 σ H)(hl:∀i σ H,i<=xs.length->Pv i σ H->SqL K H a xs)
  (hs:∀i x σ H,xs[i]? = some x->Pv i σ H->g x σ H λσ2 H2=>tb { D with nx:=Pv (i+1),ct:=Pv (i+1),bk:=D.nx } σ2 H2) (hd:∀σ H,Pv xs.length σ H->D.nx σ H) :
  ∃W:Nat->Nat->St->Hp->Prop,(∃m,W 0 m σ H)/\∀i m σ H,W i m σ H →
   ((Itl K a).stop i H/\D.nx σ H)\/((Itl K a).go i H/\∃N:St->Hp->Prop,(∀σ' H',N σ' H'->∃m',m'<m/\W (i+1) m' σ' H')/\∀x H',(Itl K a).yld i H x H'->g x σ H' λσ2 H2=>tb { D with nx:=N,ct:=N,bk:=D.nx } σ2 H2):=by
 refine ⟨λi m σ H=>m=xs.length-i/\i<=xs.length/\Pv i σ H,⟨xs.length,by simp,vY _,h0⟩,?_⟩
 rintro i m σ H ⟨rfl,hi,p⟩
 have q:=hl i σ H hi p
 by_cases hlt:i<xs.length
 ·refine .inr ⟨⟨xs,xs[i],q,by simp[hlt]⟩,Pv (i+1),λσ' H' p'=>⟨xs.length-(i+1),by omega,rfl,hlt,p'⟩,λx H' y =>?_⟩
  obtain ⟨e,y⟩:=y
  subst e
  exact hs i x σ _ (y xs q) p
 ·have e:i=xs.length:=by omega
  subst e
  exact .inl ⟨⟨xs,q,va _⟩,hd σ H p⟩
theorem gn {K:u6}{a:Addr}{xs:List V}{g:TG}{tb:TS}{D:Ends}{σ:St}{H:Hp}(Pv:Nat->St->Hp->Prop)(h0:Pv 0 σ H)(hl:∀i σ H,i<=xs.length->Pv i σ H->SqT K H a xs)
  (hs:∀i x σ H,xs[i]? = some x->Pv i σ H->g x σ H λσ2 H2=>tb { D with nx:=Pv (i+1),ct:=Pv (i+1),bk:=D.nx } σ2 H2) (hd:∀σ H,Pv xs.length σ H->D.nx σ H) :
  ∃W:Nat->Nat->St->Hp->Prop,(∃m,W 0 m σ H)/\∀i m σ H,W i m σ H →
   ((Itt K a).stop i H/\D.nx σ H)\/((Itt K a).go i H/\∃N:St->Hp->Prop,(∀σ' H',N σ' H'->∃m',m'<m/\W (i+1) m' σ' H')/\∀x H',(Itt K a).yld i H x H'->g x σ H' λσ2 H2=>tb { D with nx:=N,ct:=N,bk:=D.nx } σ2 H2):=by
 refine ⟨λi m σ H=>m=xs.length-i/\i<=xs.length/\Pv i σ H,⟨xs.length,by simp,vY _,h0⟩,?_⟩
 rintro i m σ H ⟨rfl,hi,p⟩
 have q:=hl i σ H hi p
 by_cases hlt:i<xs.length
 ·refine .inr ⟨⟨xs,xs[i],q,by simp[hlt]⟩,Pv (i+1),λσ' H' p'=>⟨xs.length-(i+1),by omega,rfl,hlt,p'⟩,λx H' y =>?_⟩
  obtain ⟨e,y⟩:=y
  subst e
  exact hs i x σ _ (y xs q) p
 ·have e:i=xs.length:=by omega
  subst e
  exact .inl ⟨⟨xs,q,va _⟩,hd σ H p⟩
theorem cR {lo:Int}{n:Nat}{g:TG}{tb:TS}{D:Ends}{σ:St}{H:Hp}(Pv:Nat->St->Hp->Prop)(h0:Pv 0 σ H)
  (hs:∀i σ H,i<n->Pv i σ H->g (.int (lo+i)) σ H λσ2 H2=>tb { D with nx:=Pv (i+1),ct:=Pv (i+1),bk:=D.nx } σ2 H2) (hd:∀σ H,Pv n σ H->D.nx σ H) :
  ∃W:Nat->Nat->St->Hp->Prop,(∃m,W 0 m σ H)/\∀i m σ H,W i m σ H →
   ((Itr lo n).stop i H/\D.nx σ H)\/((Itr lo n).go i H/\∃N:St->Hp->Prop,(∀σ' H',N σ' H'->∃m',m'<m/\W (i+1) m' σ' H')/\∀x H',(Itr lo n).yld i H x H'->g x σ H' λσ2 H2=>tb { D with nx:=N,ct:=N,bk:=D.nx } σ2 H2):=by
 refine ⟨λi m σ H=>m=n-i/\i<=n/\Pv i σ H,⟨n,by simp,vY _,h0⟩,?_⟩
 rintro i m σ H ⟨rfl,hi,p⟩
 by_cases hlt:i<n
 ·refine .inr ⟨hlt,Pv (i+1),λσ' H' p'=>⟨n-(i+1),by omega,rfl,hlt,p'⟩,λx H' y =>?_⟩
  obtain ⟨e,y⟩:=y
  subst e y
  exact hs i σ _ hlt p
 ·have e:i=n:=by omega
  subst e
  exact .inl ⟨va _,hd σ H p⟩
open PySem PySem.Spec PyProof.Rows
abbrev R2:=V->V->Hp->VK->Prop
def OpR (X:Cx)(f:uW->uW->Sem uW)(r:R2):Prop :=
 ∀(pins:List (Addr×Obj)) (s:uZ) (σ:St) (H:Hp) (x y:V) (v u:uW) (Q:VK),Inv X pins σ H s->RelV x v->RelV y u->r x y H Q →
  vJ (vK X.prog X.w) X.A (f v u) (EP X pins σ Q) X.xe s
def UnR (X:Cx)(f:uW->Sem uW)(r:V->Hp->VK->Prop):Prop :=
 ∀(pins:List (Addr×Obj)) (s:uZ) (σ:St) (H:Hp) (x:V) (v:uW) (Q:VK),Inv X pins σ H s->RelV x v->r x H Q →
  vJ (vK X.prog X.w) X.A (f v) (EP X pins σ Q) X.xe s
def bY (X:Cx)(f:uW)(r:List V->Hp->VK->Prop):Prop :=
 ∀(pins:List (Addr×Obj)) (s:uZ) (σ:St) (H:Hp) (xs:List V) (us:List uW) (Q:VK),Inv X pins σ H s->Vals xs us->r xs H Q →
  vJ (vK X.prog X.w) X.A (call f us) (EP X pins σ Q) X.xe s
def tOp (r:R2)(ta tb:TE):TE:=λσ H Q=>ta σ H λx H1=>tb σ H1 λy H2=>r x y H2 Q
def tUn (r:V->Hp->VK->Prop)(ta:TE):TE:=λσ H Q=>ta σ H λx H1=>r x H1 Q
def rI (C:Int->Int->Prop)(g:Int->Int->V):R2:=λx y H Q=>∃i j,x = .int i/\y = .int j/\C i j/\Q (g i j) H
def rI0 (g:Int->Int->V):R2:=λx y H Q=>∃i j,x = .int i/\y = .int j/\Q (g i j) H
def rU (g:Int->V):V->Hp->VK->Prop:=λx H Q=>∃i,x = .int i/\Q (g i) H
section
variable  {X:Cx}{a b c:Expr}{ta tb tc:TE}{pos:Pos}
theorem sk (ha:PE X a ta)(hb:PE X b tb){pins:List (Addr×Obj)}{s:uZ}{σ:St}{H:Hp}{R:V->V->Hp->Prop}(I:Inv X pins σ H s)
  (h:ta σ H λx H1=>tb σ H1 λy H2=>R x y H2) {Q:uW->uZ->Prop} {f:uW->uW->Sem uW}
  (hf:∀v u s2 x y H2,Inv X pins σ H2 s2->RelV x v->RelV y u->R x y H2->vJ (vK X.prog X.w) X.A (f v u) Q X.xe s2) :
  vJ (vK X.prog X.w) X.A (eval a X.env) (λv s₁=>vJ (vK X.prog X.w) X.A (eval b X.env) (λu s₂=>vJ (vK X.prog X.w) X.A (f v u) Q X.xe s₂) X.xe s₁) X.xe s:=by
 refine thn (ha pins s σ H _ I h) λv s1 ⟨x,H1,I1,r1,q1⟩ =>?_
 refine thn (hb pins s1 σ H1 _ I1 q1) λu s2 ⟨y,H2,I2,r2,q2⟩ =>?_
 exact hf v u s2 x y H2 I2 r1 r2 q2
theorem au {op:Operator}{r:R2}(ho:OpR X (binaryOp op) r)(ha:PE X a ta)(hb:PE X b tb):PE X (.BinOp a op b pos) (tOp r ta tb):=by
 intro pins s σ H Q I h
 exact wpAny_BinOp (sk ha hb I h λv u s2 x y H2 I2 rx ry q=>ho pins s2 σ H2 x y v u Q I2 rx ry q)
theorem rF {op:UnaryOp}{r:V->Hp->VK->Prop}(ho:UnR X (unaryOp op) r)(ha:PE X a ta):PE X (.UnaryOp op a pos) (tUn r ta):=by
 intro pins s σ H Q I h
 exact UnaryOp_ (thn (ha pins s σ H _ I h) λv s1 ⟨x,H1,I1,r1,q1⟩=>ho pins s1 σ H1 x v Q I1 r1 q1)
theorem opI {f:uW->uW->Sem uW}{C:Int->Int->Prop}{g:Int->Int->Int}
  (rule:∀(i j:Int) (t u:Tok) (s:uZ) (Q:uW->uZ->Prop) (E:uW->uZ->Prop),C i j->Q (.int (g i j) s.toks) { s with toks:=s.toks+1 }->vJ (vK X.prog X.w) X.A (f (.int i t) (.int j u)) Q E s) :
  OpR X f (rI C λi j =>.int (g i j)):=by
 intro pins s σ H x y v u Q I rx ry h
 obtain ⟨i,j,rfl,rfl,hc,q⟩:=h
 obtain ⟨t,rfl⟩:=rx
 obtain ⟨t',rfl⟩:=ry
 exact rule i j t t' s _ _ hc ⟨.int (g i j),H,I.tok _,⟨_,rfl⟩,q⟩
theorem ud {f:uW->uW->Sem uW}{g:Int->Int->Int}
  (rule:∀(i j:Int) (t u:Tok) (s:uZ) (Q:uW->uZ->Prop) (E:uW->uZ->Prop),Q (.int (g i j) s.toks) { s with toks:=s.toks+1 }->vJ (vK X.prog X.w) X.A (f (.int i t) (.int j u)) Q E s) :
  OpR X f (rI0 λi j =>.int (g i j)):=by
 intro pins s σ H x y v u Q I rx ry h
 obtain ⟨i,j,rfl,rfl,q⟩:=h
 obtain ⟨t,rfl⟩:=rx
 obtain ⟨t',rfl⟩:=ry
 exact rule i j t t' s _ _ ⟨.int (g i j),H,I.tok _,⟨_,rfl⟩,q⟩
theorem sq {f:uW->uW->Sem uW}{g:Int->Int->Bool}
  (rule:∀(i j:Int) (t u:Tok) (s:uZ) (Q:uW->uZ->Prop) (E:uW->uZ->Prop),Q (.bool (g i j)) s->vJ (vK X.prog X.w) X.A (f (.int i t) (.int j u)) Q E s) :
  OpR X f (rI0 λi j =>.bl (g i j)):=by
 intro pins s σ H x y v u Q I rx ry h
 obtain ⟨i,j,rfl,rfl,q⟩:=h
 obtain ⟨t,rfl⟩:=rx
 obtain ⟨t',rfl⟩:=ry
 exact rule i j t t' s _ _ ⟨.bl (g i j),H,I,rfl,q⟩
def CDiv (i j:Int):Prop:=0<j/\j<1073741824
def CPow (i j:Int):Prop:=0<=j/\j<=1000000/\i.natAbs<2 ^ 64
def sr (i j:Int):Prop:=(-(2 ^ 64)<i/\i<2 ^ 64)\/(-(2 ^ 64)<j/\j<2 ^ 64)
theorem sr.ok {i j:Int}(h:sr i j):IntMulOk i j:=by
 rcases h with ⟨h1,h2⟩ | ⟨h1,h2⟩
 ·exact .of_left (intBits_le_64 h1 h2)
 ·exact .of_right (intBits_le_64 h1 h2)
theorem bB:OpR X (binaryOp .Add) (rI0 λi j =>.int (i+j)):=ud λ_ _ _ _ _ _ _ q=>add_int q
theorem kU:OpR X (binaryOp .Sub) (rI0 λi j =>.int (i-j)):=ud λ_ _ _ _ _ _ _ q=>sub_int q
theorem jq:OpR X (binaryOp .Mult) (rI sr λi j =>.int (i*j)):=opI λ_ _ _ _ _ _ _ hc q=>mul_int q hc.ok
theorem qz:OpR X (binaryOp .FloorDiv) (rI CDiv λi j =>.int (i/j)):=opI λi j _ _ _ _ _ hc q=>by
 have h1:(0:Int)<j:=hc.1
 have h2:j<1073741824:=hc.2
 exact floordiv_int (by omega) (by rw[z0 i (by omega)];exact q) (.inl (PyProof.noPylong_small (by omega)))
theorem eG:OpR X (binaryOp .Mod) (rI (λ_ j=>0<j) λi j =>.int (i%j)):=opI λi j _ _ _ _ _ hc q=>by
 have h1:(0:Int)<j:=hc
 exact mod_int' (by omega) (by rw[Int.fmod_eq_emod_of_nonneg i (by omega)];exact q)
theorem cw:OpR X (binaryOp .Pow) (rI CPow λi j =>.int (i ^ j.toNat)):=opI λ_ _ _ _ _ _ _ hc q=>pow_int_small hc.1 hc.2.1 hc.2.2 q
theorem unI {f:uW->Sem uW}{g:Int->Int}
  (rule:∀(i:Int) (t:Tok) (s:uZ) (Q:uW->uZ->Prop) (E:uW->uZ->Prop),Q (.int (g i) s.toks) { s with toks:=s.toks+1 }->vJ (vK X.prog X.w) X.A (f (.int i t)) Q E s) :
  UnR X f (rU λi =>.int (g i)):=by
 intro pins s σ H x v Q I rx h
 obtain ⟨i,rfl,q⟩:=h
 obtain ⟨t,rfl⟩:=rx
 exact rule i t s _ _ ⟨.int (g i),H,I.tok _,⟨_,rfl⟩,q⟩
theorem oO:UnR X (unaryOp .USub) (rU λi =>.int (-i)):=unI λ_ _ _ _ _ q=>neg_int q
end
def ue:V->V->Bool
 | .non,.non=>true | .non,.int _=>true | .int _,.non=>true | .non,.bl _=>true | .bl _,.non=>true | .non,.str _=>true | .str _,.non=>true
 | .int _,.int _=>true | .bl _,.bl _=>true | .str _,.str _=>true | .byt _,.byt _=>true
 | .int _,.str _=>true | .str _,.int _=>true | .bl _,.str _=>true | .str _,.bl _=>true
 | _,_=>false
def rEq:R2:=λx y H Q=>ue x y=true/\Q (.bl (decide (x=y))) H
def rNe:R2:=λx y H Q=>ue x y=true/\Q (.bl (!decide (x=y))) H
theorem gp {i j:Int}:decide (V.int i=V.int j)=(i == j):=by
 rw[w9]
 simp
theorem oP {i j:Bool}:decide (V.bl i=V.bl j)=(i == j):=by
 rw[w9]
 simp
theorem lR {i j:Str}:decide (V.str i=V.str j)=(i == j):=by
 rw[w9]
 simp
theorem lT {i j:Array UInt8}:decide (V.byt i=V.byt j)=(i.toList == j.toList):=by
 rw[w9]
 cases i
 cases j
 simp
section
variable  {X:Cx}{a b c:Expr}{ta tb tc:TE}{pos:Pos}
theorem aL {pins:List (Addr×Obj)}{σ:St}{H:Hp}{s:uZ}{Q:VK}{k k':Bool}(I:Inv X pins σ H s)(q:Q (.bl k) H)(e:k=k'):EP X pins σ Q (.bool k') s:=by
 subst e
 exact ⟨.bl k,H,I,rfl,q⟩
theorem bZ:OpR X (xS .Eq) rEq:=by
 intro pins s σ H x y v u Q I rx ry h
 obtain ⟨hs,q⟩:=h
 cases x with
 | non =>
  cases rx
  cases y with
  | non=>cases ry;exact PySem.EqNone.eq_none_none (aL I q (by simp))
  | bl j=>cases ry;exact PySem.EqNone.eq_none_bool (aL I q (by simp))
  | int j=>obtain ⟨t',rfl⟩:=ry;exact PySem.EqNone.eq_none_int (aL I q (by simp))
  | str j=>obtain ⟨t',rfl⟩:=ry;exact PySem.EqNone.eq_none_str (aL I q (by simp))
  | _=>exact absurd (show false=true from hs) vp
 | bl i =>
  cases rx
  cases y with
  | non=>cases ry;exact PySem.EqNone.eq_bool_none (aL I q (by simp))
  | bl j=>cases ry;exact eq_bool (aL I q oP)
  | str j=>obtain ⟨t',rfl⟩:=ry;exact Cg (aL I q (by simp))
  | _=>exact absurd (show false=true from hs) vp
 | int i =>
  obtain ⟨t,rfl⟩:=rx
  cases y with
  | non=>cases ry;exact PySem.EqNone.eq_int_none (aL I q (by simp))
  | int j=>obtain ⟨t',rfl⟩:=ry;exact eq_int (aL I q gp)
  | str j=>obtain ⟨t',rfl⟩:=ry;exact Cs (aL I q (by simp))
  | _=>exact absurd (show false=true from hs) vp
 | str i =>
  obtain ⟨t,rfl⟩:=rx
  cases y with
  | non=>cases ry;exact PySem.EqNone.eq_str_none (aL I q (by simp))
  | bl j=>cases ry;exact Ci (aL I q (by simp))
  | int j=>obtain ⟨t',rfl⟩:=ry;exact Ct (aL I q (by simp))
  | str j=>obtain ⟨t',rfl⟩:=ry;exact eq_str (aL I q lR)
  | _=>exact absurd (show false=true from hs) vp
 | byt i =>
  obtain ⟨t,rfl⟩:=rx
  cases y with
  | byt j=>obtain ⟨t',rfl⟩:=ry;exact PySem.W.eq_bytes (aL I q lT)
  | _=>exact absurd (show false=true from hs) vp
 | _=>cases y <;> exact absurd (show false=true from hs) vp
theorem jQ:OpR X (xS .NotEq) rNe:=by
 intro pins s σ H x y v u Q I rx ry h
 obtain ⟨hs,q⟩:=h
 cases x with
 | non =>
  cases rx
  cases y with
  | non=>cases ry;exact PySem.EqNone.ne_none_none (aL I q (by simp))
  | bl j=>cases ry;exact PySem.EqNone.ne_none_bool (aL I q (by simp))
  | int j=>obtain ⟨t',rfl⟩:=ry;exact PySem.EqNone.ne_none_int (aL I q (by simp))
  | str j=>obtain ⟨t',rfl⟩:=ry;exact PySem.EqNone.ne_none_str (aL I q (by simp))
  | _=>exact absurd (show false=true from hs) vp
 | bl i =>
  cases rx
  cases y with
  | non=>cases ry;exact PySem.EqNone.ne_bool_none (aL I q (by simp))
  | bl j=>cases ry;exact ne_bool (aL I q (congrArg not oP))
  | str j=>obtain ⟨t',rfl⟩:=ry;exact Cj (aL I q (by simp))
  | _=>exact absurd (show false=true from hs) vp
 | int i =>
  obtain ⟨t,rfl⟩:=rx
  cases y with
  | non=>cases ry;exact PySem.EqNone.ne_int_none (aL I q (by simp))
  | int j=>obtain ⟨t',rfl⟩:=ry;exact ne_int (aL I q (congrArg not gp))
  | str j=>obtain ⟨t',rfl⟩:=ry;exact Cu (aL I q (by simp))
  | _=>exact absurd (show false=true from hs) vp
 | str i =>
  obtain ⟨t,rfl⟩:=rx
  cases y with
  | non=>cases ry;exact PySem.EqNone.ne_str_none (aL I q (by simp))
  | bl j=>cases ry;exact Ck (aL I q (by simp))
  | int j=>obtain ⟨t',rfl⟩:=ry;exact Cv (aL I q (by simp))
  | str j=>obtain ⟨t',rfl⟩:=ry;exact ne_str (aL I q (congrArg not lR))
  | _=>exact absurd (show false=true from hs) vp
 | byt i =>
  obtain ⟨t,rfl⟩:=rx
  cases y with
  | byt j=>obtain ⟨t',rfl⟩:=ry;exact PySem.W.ne_bytes (aL I q (congrArg not lT))
  | _=>exact absurd (show false=true from hs) vp
 | _=>cases y <;> exact absurd (show false=true from hs) vp
theorem oQ:OpR X (xS .Lt) (rI0 λi j =>.bl (decide (i<j))):=sq λ_ _ _ _ _ _ _ q=>lt_int q
theorem oR:OpR X (xS .Gt) (rI0 λi j =>.bl (decide (j<i))):=sq λ_ _ _ _ _ _ _ q=>gt_int q
theorem uf:OpR X (xS .GtE) (rI0 λi j =>.bl (decide (j<=i))):=sq λ_ _ _ _ _ _ _ q=>ge_int q
theorem aB (b:Expr){op:CmpOp}(h:op ≠ .In:=by decide)(h2:op ≠ .NotIn:=by decide):behindInMarks op b=false:=by
 have e1:(op == CmpOp.In)=false:=by cases op <;> first | rfl | exact absurd rfl h
 have e2:(op == CmpOp.NotIn)=false:=by cases op <;> first | rfl | exact absurd rfl h2
 cases b <;> simp[behindInMarks,e1,e2]
theorem eV {op:CmpOp}{r:R2}(ho:OpR X (xS op) r)(ha:PE X a ta)(hb:PE X b tb)(hm:behindInMarks op b=false):PE X (.Compare a [op] [b] pos) (tOp r ta tb):=by
 intro pins s σ H Q I h
 exact wpAny_Compare1 (sk ha hb I h λv u s2 x y H2 I2 rx ry q=>ho pins s2 σ H2 x y v u Q I2 rx ry q) hm
def ug (t:TE):TT:=λσ H Q=>t σ H λx H'=>∃k,x = .bl k/\Q k H'
theorem aA {op:CmpOp}{r:R2}(ho:OpR X (xS op) r)(ha:PE X a ta)(hb:PE X b tb)(hm:behindInMarks op b=false):PT X (.Compare a [op] [b] pos) (ug (tOp r ta tb)):=by
 intro pins s σ H Q I h
 refine A0 (thn (ha pins s σ H _ I h) λv s1 ⟨x,H1,I1,r1,q1⟩=>thn (hb pins s1 σ H1 _ I1 q1) λu s2 ⟨y,H2,I2,r2,q2⟩ =>
  thn (ho pins s2 σ H2 x y v u _ I2 r1 r2 q2) λc s3 ⟨z,H3,I3,r3,k,e,q3⟩ =>?_) hm
 subst e
 cases r3
 exact yk ⟨H3,I3,q3⟩
theorem fK:(vm:Nat)<2 ^ 63:=by rw[Be];decide
theorem vals1 {x:V}{us:List uW}(r:Vals [x] us):∃u,us=[u]/\RelV x u:=by
 cases r with
 | cons r1 r2=>cases r2;exact ⟨_,rfl,r1⟩
theorem vals2 {x y:V}{us:List uW}(r:Vals [x,y] us):∃u w',us=[u,w']/\RelV x u/\RelV y w':=by
 cases r with
 | cons r1 r2 =>
  cases r2 with
  | cons r3 r4=>cases r4;exact ⟨_,_,rfl,r1,r3⟩
theorem mT (hc:X.calm=true):bY X (.builtin "max") (λxs H Q=>∃i j,xs=[.int i,.int j]/\Q (.int (if j>i then j else i)) H):=by
 intro pins s σ H xs us Q I r h
 obtain ⟨i,j,rfl,q⟩:=h
 obtain ⟨u,w',rfl,⟨t,rfl⟩,⟨t',rfl⟩⟩:=vals2 r
 refine max_two_ints (I.ok.hd hc) λh' tk k=>⟨_,H,I.kept k,?_,q⟩
 by_cases hj:j>i
 ·rw[if_pos hj,if_pos hj];exact ⟨_,rfl⟩
 ·rw[if_neg hj,if_neg hj];exact ⟨_,rfl⟩
theorem iJ (hc:X.calm=true):bY X (.builtin "min") (λxs H Q=>∃i j,xs=[.int i,.int j]/\Q (.int (if j<i then j else i)) H):=by
 intro pins s σ H xs us Q I r h
 obtain ⟨i,j,rfl,q⟩:=h
 obtain ⟨u,w',rfl,⟨t,rfl⟩,⟨t',rfl⟩⟩:=vals2 r
 refine min_two_ints (I.ok.hd hc) λh' tk k=>⟨_,H,I.kept k,?_,q⟩
 by_cases hj:j<i
 ·rw[if_pos hj,if_pos hj];exact ⟨_,rfl⟩
 ·rw[if_neg hj,if_neg hj];exact ⟨_,rfl⟩
theorem mU:bY X (.type "int") (λxs H Q=>(∃i,xs=[.int i]/\Q (.int i) H)\/∃k,xs=[.bl k]/\Q (.int (if k then 1 else 0)) H):=by
 intro pins s σ H xs us Q I r h
 rcases h with ⟨i,rfl,q⟩ | ⟨k,rfl,q⟩
 ·obtain ⟨u,rfl,t,rfl⟩:=vals1 r
  exact call_int_int ⟨.int i,H,I,⟨_,rfl⟩,q⟩
 ·obtain ⟨u,rfl,r1⟩:=vals1 r
  cases r1
  exact call_int_bool ⟨.int (if k then 1 else 0),H,I.tok _,⟨_,rfl⟩,q⟩
end
open PySem PySem.Spec PyProof.Rows
structure su (h:Heap)(x dx C:Addr)(mA:Str->Option uW):Prop where
 obj:h.get? x=some (PySem.W.instObj C dx)
 ns:h.Ns1 dx mA
 ne:dx≠x
theorem mV {h:Heap}{dx:Addr}{mA:Str->Option uW}(n:h.Ns1 dx mA):∃od,h.get? dx=some od/\∀name,PySem.W.lookIn name od=some (mA name):=by
 obtain ⟨o,es,ep,ho,hd,hk,_,hm⟩:=n
 refine ⟨o,ho,λname =>?_⟩
 have e:=hm name
 unfold nsFind findBy at e
 rw[<- Array.find?_toList] at e
 unfold PySem.W.lookIn
 rw[hd]
 dsimp only
 split
 ·rename_i y q
  rw[q] at e
  exact congrArg some e
 ·rename_i q
  rw[q] at e
  have a:es.toList.any (·.refKey)=false:=by
   rw[List.any_eq_false]
   intro y hy
   obtain ⟨z,t,hkey⟩:=hk y (Array.mem_toList_iff.mp hy)
   simp[DictEntry.refKey,hkey]
  have a':¬ es.toList.any (·.refKey)=true:=by rw[a];exact vp
  rw[if_neg a']
  exact congrArg some e
theorem su.look {h:Heap}{x dx C:Addr}{mA:Str->Option uW}(I:su h x dx C mA):∃od,PySem.W.InstAt h x (PySem.W.instObj C dx) C (some od)/\∀name,PySem.W.lookIn name od=some (mA name) :=
 let ⟨od,ho,hl⟩:=mV I.ns
 ⟨od,⟨I.obj,rfl,rfl,ho⟩,hl⟩
section
variable  {prog:vI}{w:wc}{A:v7}{E:uW->uZ->Prop}{s:uZ}{K:u6}{x dx C f:Addr}{mA:Str->Option uW}{name:Str}{v:uW}
end
theorem gB.some_of {v:V}{o:Option uW}(r:gB (some v) o):∃u,o=some u/\RelV v u:=by
 cases o with
 | none=>exact (show False from r).elim
 | some u=>exact ⟨u,rfl,r⟩
section
variable  {P:vI}{w:wc}{H H':Hp}{h h':Heap}{a C dx:Addr}{fs fs':List (Str×V)}
theorem qA (hok:HOk P w H h)(e:H a=some (.ins C dx fs)):∃mA,su h a dx C mA/\(∀f,gB (fs.lookup f) (mA f))/\PySem.Within mA (fs.map (·.1))/\fs.length<=1000/\H dx=some (.own a):=by
 obtain ⟨d,z,ne,ob,mA,n,r,q⟩:=(show aT P w H h a (.ins C dx fs) from hok a _ e)
 exact ⟨mA,⟨ob,n,ne⟩,r,q,z,d⟩
end
structure Cls (K:u6)(C:Addr):Prop where
 pg:PySem.W.plainGet K C Str.empty=true
 hd:PySem.W.hasDictIn K C=true
 po:PySem.W.plainOver K C=true
 sa:PySem.W.findIn K (.ref C) "__setattr__" = some (some (.builtin "object.__setattr__"))
theorem Cls.get {K:u6}{C:Addr}(c:Cls K C)(f:Str):PySem.W.plainGet K C f=true:=c.pg
section
variable  {X:Cx}{pins:List (Addr×Obj)}{σ:St}{H:Hp}{s:uZ}{a C dx:Addr}{fs:List (Str×V)}{f:Str}{v:V}{A:v7}{E:uW->uZ->Prop}
end
section
variable  {X:Cx}{o e value:Expr}{f:Str}{pos pos' tpos:Pos}{ta tv:TE}
end
section
variable  {X:Cx}{pins:List (Addr×Obj)}{σ:St}{H:Hp}{s:uZ}{A:v7}{E:uW->uZ->Prop}{Q:uW->uZ->Prop}{c:uW}{b:Bool}
inductive fL (K:u6)(H:Hp):V->uW->Prop where
 | non:fL K H .non (.type "NoneType")
 | bl (x:Bool):fL K H (.bl x) (.type "bool")
 | int (i:Int):fL K H (.int i) (.type "int")
 | str (x:Str):fL K H (.str x) (.type "str")
 | flt (x:UInt64):fL K H (.flt x) (.type "float")
 | lst {a:Addr} {xs:List V} (e:H a=some (.lst xs)):fL K H (.ref a) (.type "list")
 | frz {a:Addr} {o:Obj} {xs:List V} (e:H a=some (.frz o (.lst xs))):fL K H (.ref a) (.type "list")
 | tup {a:Addr} {xs:List V} (e:H a=some (.tup xs)):fL K H (.ref a) (.type "tuple")
 | dK {a:Addr} {kvs:List (Key×V)} (e:H a=some (.dK kvs)):fL K H (.ref a) (.type "dict")
 | dT {a:Addr} {kvs:List (List Key×V)} (e:H a=some (.dT kvs)):fL K H (.ref a) (.type "dict")
 | ins {a C dx:Addr} {fs:List (Str×V)} (e:H a=some (.ins C dx fs)) (cl:Cls K C) (ha:PySem.W.findIn K (.ref C) "__class__" = some (some (.builtin "object.__class__")))
   (hn:PySem.W.specialIn K (.builtin "object.__class__") "__get__" = some (some (.builtin "getset_descriptor.__get__"))) (htk:PySem.W.takesIn K (.builtin "object.__class__")=some true)
   (hm:PySem.W.mroIn K C (.type "object")=some true):fL K H (.ref a) (.ref C)
theorem mW {x:V}{u t:uW}(I:Inv X pins σ H s)(rx:RelV x u)(ty:fL X.K H x t)(e:PySem.W.kitOne X.K t c=some b)(h:∀tk,Q (.bool b) { s with toks:=tk }) :
  vJ (vK X.prog X.w) A (call (.builtin "isinstance") [u,c]) Q E s:=by
 cases ty with
 | non=>cases (show u=xq from rx);exact xb PySem.W.kitx_none I.kIn True.intro e (λz=>nomatch z) h
 | bl y=>cases (show u=Value.bool y from rx);exact xb PySem.W.kitx_bool I.kIn True.intro e (λz=>nomatch z) h
 | int i=>obtain ⟨t,q⟩:=(show ∃t,u=xC i t from rx);cases q;exact xb PySem.W.kitx_int I.kIn True.intro e (λz=>nomatch z) h
 | str y=>obtain ⟨t,q⟩:=(show ∃t,u=Value.str y t from rx);cases q;exact xb PySem.W.kitx_str I.kIn True.intro e (λz=>nomatch z) h
 | flt y=>obtain ⟨t,q⟩:=(show ∃t,u=Value.float y t from rx);cases q;exact xb PySem.W.kitx_float I.kIn True.intro e (λz=>nomatch z) h
 | @lst a xs ea =>
  cases (show u=vq a from rx)
  obtain ⟨_,_,n,_,h1⟩:=(show aT X.prog X.w H s.heap a (.lst xs) from I.hok a _ ea)
  exact xb Bx I.kIn ⟨_,h1,rfl⟩ e (λz=>nomatch z) h
 | @frz a ob xs ea =>
  cases (show u=vq a from rx)
  obtain ⟨_,_,_,n,_,h1⟩:=(show aT X.prog X.w H s.heap a (.frz ob (.lst xs)) from I.hok a _ ea)
  exact xb Bx I.kIn ⟨_,h1,rfl⟩ e (λz=>nomatch z) h
 | @tup a xs ea =>
  cases (show u=vq a from rx)
  obtain ⟨_,_,_,p⟩:=(show aT X.prog X.w H s.heap a (.tup xs) from I.hok a _ ea)
  obtain ⟨o,h1,h2,_⟩:=p
  exact xb PySem.W.kitx_tuple I.kIn ⟨o,h1,h2.1⟩ e (λz=>nomatch z) h
 | @dK a kvs ea =>
  cases (show u=vq a from rx)
  obtain ⟨_,_,vs,_,p⟩:=(show aT X.prog X.w H s.heap a (.dK kvs) from I.hok a _ ea)
  obtain ⟨o,es,ep,h1,h2,_⟩:=p
  exact xb Bz I.kIn ⟨o,h1,h2.1⟩ e (λz=>nomatch z) h
 | @dT a kvs ea =>
  cases (show u=vq a from rx)
  obtain ⟨_,_,xs,_,o,es,ep,h1,h2,_⟩:=(show aT X.prog X.w H s.heap a (.dT kvs) from I.hok a _ ea)
  exact xb Bz I.kIn ⟨o,h1,h2.1⟩ e (λz=>nomatch z) h
 | @ins a C dx fs ea cl ha hn htk hm =>
  cases (show u=vq a from rx)
  obtain ⟨mA,O,_⟩:=qA I.hok ea
  obtain ⟨od,J,_⟩:=O.look
  exact xb (PySem.W.kitx_own (cl.get _) cl.hd ha hn htk hm) I.kIn J e (λz=>nomatch z) h
end
open PySem PySem.Spec PyProof.Rows
structure cg (k:Nat)(A:v7):Prop where
 hd:A.handled=none
 dp:A.depth+3*k+5<recursionLimit
 un:A.units+16*k+200<cLine
theorem cg.mono {j k:Nat}{A:v7}(r:cg k A)(h:j<=k):cg j A:=⟨r.hd,by have:=r.dp;omega,by have:=r.un;omega⟩
theorem cg.deeper {k:Nat}{A:v7}(r:cg (k+1) A)(env:Env):cg k (A.deeper env) :=
 ⟨r.hd,by have:=r.dp;show A.depth+1+3*k+5<_;omega,by have:=r.un;show A.units+3+16*k+200<_;omega⟩
theorem cg.depth {k:Nat}{A:v7}(r:cg k A):A.depth<recursionLimit:=by have:=r.dp;omega
theorem cg.units {k:Nat}{A:v7}(r:cg k A):A.units+64<cLine:=by have:=r.un;omega
def tNil:TA:=λ_ H Q=>Q [] H
def uh (ta:TE)(tr:TA):TA:=λσ H Q=>ta σ H λx H1=>tr σ H1 λxs H2=>Q (x :: xs) H2
section
variable  {X:Cx}{e:Expr}{es:List Expr}{te:TE}{t:TA}{pos:Pos}
theorem ah:PA X [] tNil:=λ_ _ _ _ H Q I h=>BA ⟨[],H,I,.nil,h⟩
theorem aa (ha:PE X e te)(hr:PA X es t)(hs:wC (e :: es) X.env=(false,eval e X.env) :: wC es X.env:=by rfl):PA X (e :: es) (uh te t):=by
 intro pos pins s σ H Q I h
 rw[hs]
 show vJ _ _ (spliced ((false,eval e X.env) :: Ae pos (wC es X.env))) _ _ s
 refine Bl (thn (ha pins s σ H _ I h) λu s1 ⟨x,H1,I1,r1,q1⟩ =>?_)
 exact thn (hr pos pins s1 σ H1 _ I1 q1) λus s2 ⟨xs,H2,I2,r2,q2⟩=>⟨x :: xs,H2,I2,.cons r1 r2,q2⟩
def tTup (t:TA):TE:=λσ H Q=>t σ H λxs H1=>xs.length<=vm/\∀p,H1 p=none->Q (.ref p) (upd H1 p (.tup xs))
def tLst (t:TA):TE:=λσ H Q=>t σ H λxs H1=>xs.length<=vm/\∀p,H1 p=none->Q (.ref p) (upd H1 p (.lst xs))
theorem ba {x1}(h:PA X es t):PE X (.Tuple es x1 pos) (tTup t):=by
 intro pins s σ H Q I hq
 refine wpAny_Tuple_spliced (thn (h pos pins s σ H _ I hq) λus s1 ⟨xs,H1,I1,r,z,q⟩=>⟨by rw[<- r.length];exact z,?_⟩)
 have hf:H1 s1.heap.objs.size=none:=I1.hok.fresh (va _)
 refine ⟨.ref s1.heap.objs.size,upd H1 s1.heap.objs.size (.tup xs),I1.laid (t':=s1.toks) (λb u e=>uV _ e) (va _) ?_,rfl,q _ hf⟩
 exact ⟨z,us,r,⟨_,ve _ rfl,⟨rfl,rfl⟩,_,rfl⟩⟩
theorem cj (h:PA X es t):PE X (.List es pos) (tLst t):=by
 intro pins s σ H Q I hq
 refine wpAny_List_spliced (thn (h pos pins s σ H _ I hq) λus s1 ⟨xs,H1,I1,r,z,q⟩=>⟨by rw[<- r.length];exact z,?_⟩)
 have hf:H1 s1.heap.objs.size=none:=I1.hok.fresh (va _)
 refine ⟨.ref s1.heap.objs.size,upd H1 s1.heap.objs.size (.lst xs),I1.laid (t':=s1.toks) (λb u e=>uV _ e) (va _) ?_,rfl,q _ hf⟩
 exact ⟨z,us,0,r,ve _ rfl⟩
end
abbrev Sp:=List V->Hp->VK->XK->Prop
abbrev CXT:=List Env->Hp->uZ->XK->uW->uZ->Prop
structure qB (P:vI)(w:wc)(K:u6)(mg:Str->Option uW)(base:Heap)(A:v7)(outer:List Env)(s:uZ)(H:Hp):Prop where
 frames:A.frames=some outer
 mod:Mod K mg base
 bs:∀b o,base.get? b=some o->s.heap.get? b=some o/\H b=none
 bsz:base.objs.size<=s.heap.objs.size
 funs:s.heap.FunFrames base outer
 frf:∀b∈frs outer,H b=none
 hok:HOk P w H s.heap
 bare:AllBare s.gens
def CE (outer:List Env)(P:vI)(w:wc)(H:Hp)(s:uZ)(Q:VK)(u:uW)(s':uZ):Prop :=
 ∃v H',s'.os=s.os/\AllBare s'.gens/\Un (frs outer) [] H H' s.heap s'.heap/\HOk P w H' s'.heap/\RelV v u/\Q v H'
def CR (CX:CXT)(outer:List Env)(P:vI)(w:wc)(H:Hp)(s:uZ)(Q:VK)(E:XK)(r:Result)(s':uZ):Prop :=
 match r with
 | .ok (.ret u)=>CE outer P w H s Q u s'
 | .ok _=>False
 | .error e=>CX outer H s E e s'
structure bO (P:vI)(w:wc)(K:u6)(mg:Str->Option uW)(base:Heap)(CX:CXT)(k:Nat)(f:Addr)(fd:wO)(ps:List Str)(sp:Sp):Prop where
 len:∀vs H Q E,sp vs H Q E->vs.length=ps.length
 run:∀(A:v7) (outer:List Env) (s:uZ) (H:Hp) (args:Args) (us:List uW) (vs:List V) (Q:VK) (E:XK),cg k A->qB P w K mg base A outer s H->BindsTo s fd args (ps.zip us)->Vals vs us->sp vs H Q E →
  AE (vK P w) A (.call (.ref f) args) (CR CX outer P w H s Q E) s
section
variable  {X:Cx}{pins:List (Addr×Obj)}{σ:St}{H:Hp}{s s':uZ}
theorem Inv.env0 (I:Inv X pins σ H s):qB X.prog X.w X.K X.mg X.base X.A X.stack s H :=
 ⟨I.ok.frames,I.ok.mod,I.bs,vP I.ok.bsz I.sz,I.stack,I.lP,I.hok,I.bare⟩
theorem Inv.after {Q:VK}{u:uW}(I:Inv X pins σ H s)(h:CE X.stack X.prog X.w H s Q u s'):EP X pins σ Q u s':=by
 obtain ⟨v,H',os,bare,un,hok,r,q⟩:=h
 obtain ⟨hh,g,d,t,os'⟩:=s'
 obtain rfl:os'=s.os:=os
 exact ⟨v,H',I.call (h':=hh) (g':=g) (d':=d) (t':=t) (ch:=[]) un hok bare (λb z=>absurd z (by simp)),r,q⟩
end
def rG (sp:Sp)(dvs:List V)(E:XK)(t:TA):TE:=λσ H Q=>t σ H λvs H1=>sp (vs++dvs) H1 Q E
def Binds (K:u6)(fd:wO)(ps:List Str)(ds:List uW):Prop :=
 ∀(s:uZ) (us:List uW),K.In s.heap->(us++ds).length=ps.length->BindsTo s fd ⟨us,[]⟩ (ps.zip (us++ds))
theorem Binds.all {K:u6}{fd:wO}{ps:List Str}(h:∀us:List uW,us.length=ps.length->bindArgs fd ⟨us,[]⟩=pure (ps.zip us)):Binds K fd ps []:=λs us _ hl=>by
 rw[wM] at hl ⊢
 exact .of_eq (h us hl)
def Passes (CX:CXT)(X:Cx)(E:XK):Prop:=∀(pins:List (Addr×Obj)) (σ:St) (H:Hp) (s:uZ) (e:uW) (s':uZ),Inv X pins σ H s->CX X.stack H s E e s'->X.xe e s'
section
variable  {X:Cx}{CX:CXT}{k:Nat}{f C:Addr}{fd:wO}{ps:List Str}{sp:Sp}{dvs:List V}{ds:List uW}{E:XK}{x m:Str}{p pos apos:Pos}{e o:Expr}{es:List Expr}{ta:TE}{t:TA}
theorem sv {pins:List (Addr×Obj)}{σ:St}{H:Hp}{s:uZ}{Q:VK}{us:List uW}{vs:List V}(F:bO X.prog X.w X.K X.mg X.base CX k f fd ps sp)(hr:cg k X.A)(hb:Binds X.K fd ps ds)(hd:Vals dvs ds)(hx:Passes CX X E)
  (I:Inv X pins σ H s) (r:Vals vs us) (h:sp (vs++dvs) H Q E):vJ (vK X.prog X.w) X.A (call (.ref f) us) (EP X pins σ Q) X.xe s:=by
 have r2:Vals (vs++dvs) (us++ds):=r.append hd
 have hl:(us++ds).length=ps.length:=by rw[<- r2.length];exact F.len _ _ _ _ h
 refine wpAny_call (BM (F.run X.A X.stack s H ⟨us,[]⟩ (us++ds) (vs++dvs) Q E hr I.env0 (hb s us I.kIn hl) r2 h) λr s' hq =>?_)
 cases r with
 | error e=>exact hx pins σ H s e s' I hq
 | ok fl =>
  cases fl with
  | ret u=>exact I.after hq
  | next=>exact False.elim hq
  | brk=>exact False.elim hq
  | cont=>exact False.elim hq
theorem qC (F:bO X.prog X.w X.K X.mg X.base CX k f fd ps sp)(hr:cg k X.A)(hg:Gl X x)(hm:X.mg x=some (.ref f))(hk:PySem.W.keepIn X.K (.ref f)=true)(hb:Binds X.K fd ps ds)(hd:Vals dvs ds)(hx:Passes CX X E)
  (ha:PA X (e :: es) t) (hdb:(x == ("__debug__" : Str))=false:=by decide) (he:wC (e :: es) X.env=(false,eval e X.env) :: wC es X.env:=by rfl) (hpl:(Ae pos (wC es X.env)).any (·.1)=false:=by rfl) :
  PE X (.Call (.Name x p) (e :: es) [] pos) (rG sp dvs E t):=by
 intro pins s σ H Q I h
 refine x4 (lQ I hg hm ?_ hdb)
 refine PySem.W.callWith_K (h₀:=X.base) I.ok.mod.kin hk (thn (ha pos pins s σ H _ I h) λus s1 ⟨vs,H1,I1,r,q⟩=>⟨I1.kIn,?_⟩) he hpl
 exact sv F hr hb hd hx I1 r q
end
section
variable  {X:Cx}{CX:CXT}{k:Nat}{f C:Addr}{fd:wO}{ps ks:List Str}{sp:Sp}{E:XK}{x m:Str}{p pos apos kpos:Pos}{e o:Expr}{es:List Expr}{kws:List Keyword}{te ta:TE}{t tk:TA}{nm:Option Str}
variable  {g:List uW->List uW->List uW}{gV:List V->List V->List V}
end
structure aR (N P:List Str)(sc:Scope):Prop where
 kind:sc.kind = .function
 co:sc.isCoroutine=false
 gen:sc.isGenerator=false
 nd:N.Nodup
 pre:N.take P.length=P
 par:∀x∈P,sc.names.lookup x=some .local\/sc.names.lookup x=some .cell
 nofree:∀y∈sc.names,y.2 ≠ .free
theorem iK {kindOf:Str->Option NameKind}{x:Str}:∀{binds:List (Str×uW)} {m:Str->Option uW},(∀v,(x,v)∉binds)->bindL kindOf binds m x=m x
 | [],_,_=>rfl
 | (n,v) :: r,m,h=>by
  unfold bindL
  rw[iK λw hw=>h w (vG _ hw)]
  split
  ·have:x≠n:=by rintro rfl;exact h v vC
   simp[this]
  ·rfl
theorem iL {kindOf:Str->Option NameKind}{x:Str}:∀{binds:List (Str×uW)} {m:Str->Option uW},(∀v,(x,v)∉binds)->bindC kindOf binds m x=m x
 | [],_,_=>rfl
 | (n,v) :: r,m,h=>by
  unfold bindC
  rw[iL λw hw=>h w (vG _ hw)]
  split
  ·rfl
  ·have:x≠n:=by rintro rfl;exact h v vC
   simp[this]
theorem iM {kindOf:Str->Option NameKind}{x:Str}{v:uW}:∀{P:List Str} {vs:List uW} {i:Nat} {m:Str->Option uW},P.Nodup->P[i]? = some x->vs[i]? = some v->kindOf x=some .local →
  bindL kindOf (P.zip vs) m x=some v
 | [],_,_,_,_,h,_,_=>by simp at h
 | _ :: _,[],_,_,_,_,h,_=>by simp at h
 | p :: P,w :: vs,0,m,nd,h1,h2,hk=>by
  simp at h1 h2;subst h1;subst h2
  show bindL kindOf ((p,w) :: P.zip vs) m p=_
  unfold bindL
  rw[iK λv hv=>(xc.mp nd).1 (y3 hv).1,if_pos hk]
  simp
 | p :: P,w :: vs,i+1,m,nd,h1,h2,hk=>by
  show bindL kindOf ((p,w) :: P.zip vs) m x=_
  unfold bindL
  exact iM (i:=i) (xc.mp nd).2 (by simpa using h1) (by simpa using h2) hk
theorem iN {kindOf:Str->Option NameKind}{x:Str}{v:uW}:∀{P:List Str} {vs:List uW} {i:Nat} {m:Str->Option uW},P.Nodup->P[i]? = some x->vs[i]? = some v->kindOf x≠some .local →
  bindC kindOf (P.zip vs) m x=some v
 | [],_,_,_,_,h,_,_=>by simp at h
 | _ :: _,[],_,_,_,_,h,_=>by simp at h
 | p :: P,w :: vs,0,m,nd,h1,h2,hk=>by
  simp at h1 h2;subst h1;subst h2
  show bindC kindOf ((p,w) :: P.zip vs) m p=_
  unfold bindC
  rw[iL λv hv=>(xc.mp nd).1 (y3 hv).1,if_neg hk]
  simp
 | p :: P,w :: vs,i+1,m,nd,h1,h2,hk=>by
  show bindC kindOf ((p,w) :: P.zip vs) m x=_
  unfold bindC
  exact iN (i:=i) (xc.mp nd).2 (by simpa using h1) (by simpa using h2) hk
def start (N:List Str)(vs:List V):St:=vs.map some++wg (N.length-vs.length) none
def fM (CX:CXT)(P:vI)(w:wc)(K:u6)(mg:Str->Option uW)(base:Heap)(N:List Str)(qual:Str)(scope:Scope)(f:Addr)(cd:uW)(A:v7)(outer:List Env)(s:uZ)(H:Hp)(E:XK):Cx where
 prog:=P
 w:=w
 K:=K
 mg:=mg
 base:=base
 A:=A.deeper (envOfC qual scope s.heap.objs.size f cd)
 N:=N
 s₀:=s
 H₀:=H
 env:=envOfC qual scope s.heap.objs.size f cd
 outer:=outer
 stack:=envOfC qual scope s.heap.objs.size f cd :: outer
 ex:=[]
 calm:=true
 fn:=λ_=>true
 pn:=[]
 xe:=λe s'=>vJ (vK P w) (A.deeper (envOfC qual scope s.heap.objs.size f cd)) (leaving (envOfC qual scope s.heap.objs.size f cd) e) (λ_ s''=>CX outer H s E e s'') (λe' s''=>CX outer H s E e' s'') s'
theorem jR {sc:Scope}{n:Nat}{x:Str}(h:sc.names.lookup x=some .cell):∃c,(cellsFrom n sc.names []).lookup x=some c:=by
 have q:=AM sc.names n [] (.inl h)
 exact Option.isSome_iff_exists.mp q
theorem mY {CX:CXT}{P:vI}{w:wc}{K:u6}{mg:Str->Option uW}{base:Heap}{N ps:List Str}{qual:Str}{scope:Scope}{f:Addr}{cd:uW}{A:v7}{outer:List Env}{s s1:uZ}{H:Hp}{E:XK}{us:List uW}{vs:List V}
  (S:aR N ps scope) (hd:A.handled=none) (e0:qB P w K mg base A outer s H) (hl:vs.length=ps.length) (r:Vals vs us)
  (x:InCallC s s.heap.objs.size (bindL (envOfC qual scope s.heap.objs.size f cd).kindOf (ps.zip us) λ_=>none) (cellsFrom (s.heap.objs.size+1) scope.names []) (bindC (envOfC qual scope s.heap.objs.size f cd).kindOf (ps.zip us) λ_=>none) s1) :
  Inv (fM CX P w K mg base N qual scope f cd A outer s H E) [] (start N vs) H s1:=by
 have hpl:ps.length<=N.length:=by have:=congrArg List.length S.pre;rw[v3] at this;omega
 obtain ⟨h1,tk,rfl,hk⟩:=x.done
 have noA:∀b:Addr,b∉(fM CX P w K mg base N qual scope f cd A outer s H E).ex:=λb z=>absurd (show b∈([]:List Addr) from z) (by simp)
 refine ⟨⟨e0.mod,S.kind,rfl,rfl,va _,λy z c h1 h2 =>?_,λy hy =>?_,λy c _ h =>?_,λ_=>hd,Around.frames_deeper e0.frames,.inr ⟨rfl,rfl⟩,λb z=>absurd z (noA b),e0.bs,e0.bsz,λb _ _=>noA b,λb z=>absurd z (noA b),e0.funs,e0.frf⟩,
  rfl,e0.bare,Un.kept hk,⟨_,x.toInCall.ns,λi y v h1 h2 h3 =>?_⟩,λy c h=>⟨_,x.cell y c h⟩,e0.hok.fresh (va _),λy c h =>?_,λp hp=>absurd (show p∈([]:List (Addr×Obj)) from hp) (by simp),e0.hok.kept hk,?_⟩
 ·exact name_of_addr x.apart (xP h1) (xP h2)
 ·have hy:scope.names.lookup y=some .cell\/scope.names.lookup y=some .free:=hy
  rcases hy with hy | hy
  ·exact jR hy
  ·exact absurd rfl (S.nofree _ (xP hy))
 ·exact ym (x.above y c (xP h))
 ·have hi:i<vs.length:=by
   unfold start at h2
   by_cases hi:i<vs.length
   ·exact hi
   ·rw[yH (by simpa using hi)] at h2
    rw[List.getElem?_replicate] at h2
    split at h2 <;> cases h2
  have ha:vs[i]? = some v:=by
   unfold start at h2
   rw[yL (by simpa using hi),vi] at h2
   cases e:vs[i]? with
   | none=>rw[e] at h2;cases h2
   | some a=>rw[e] at h2;cases h2;rfl
  obtain ⟨u,hu,rv⟩:=r.get ha
  have hp:ps[i]? = some y:=by
   rw[<- S.pre,xD (by omega)];exact h1
  have ndP:ps.Nodup:=by rw[<- S.pre];exact S.nd.sublist (wQ _ _)
  refine ⟨u,rv,?_⟩
  rcases S.par y (vf hp) with k | k
  ·exact .inl ⟨k,iM ndP hp hu k⟩
  ·obtain ⟨c,e⟩:=jR (n:=s.heap.objs.size+1) k
   refine .inr ⟨.inl k,c,e,?_⟩
   have q:=x.cell y c e
   rw[iN ndP hp hu (by show scope.names.lookup y≠_;rw[k];decide)] at q
   exact q
 ·exact e0.hok.fresh (ym (x.above y c (xP h)))
 ·unfold start
  show _=N.length
  rw[u9,uT,AU]
  omega
theorem uj {CX:CXT}{P:vI}{w:wc}{K:u6}{mg:Str->Option uW}{base:Heap}{k:Nat}{f:Addr}{name qual:Str}{params:Arguments}{body:List Stmt}{scope:Scope}{dV kV doc pm cdv ct oc:uW}{an od:Option Addr}
  {osl:Array (Option uW)} {N ps:List Str} {sp:Sp} (lk:K.lookup f=some ⟨oc,od,.func (PySem.W.fnOf name qual params body scope dV kV doc pm an cdv ct),osl⟩) (hcd:PySem.W.codeIn K cdv qual=true) (S:aR N ps scope)
  (len:∀vs H Q E,sp vs H Q E->vs.length=ps.length)
  (hbody:∀(A:v7) (outer:List Env) (s:uZ) (H:Hp) (vs:List V) (Q:VK) (E:XK),cg k (A.deeper (envOfC qual scope s.heap.objs.size f cdv))->sp vs H Q E →
   ∃t,PSs (fM CX P w K mg base N qual scope f cdv A outer s H E) body t/\t { nx:=λ_ H'=>Q .non H',rt:=Q } (start N vs) H) :
  bO P w K mg base CX (k+1) f (PySem.W.fnOf name qual params body scope dV kV doc pm an cdv ct) ps sp:=by
 refine ⟨len,λA outer s H args us vs Q E hr e0 hb r hsp =>?_⟩
 have hl:=len _ _ _ _ hsp
 have KX:K.In s.heap:=e0.mod.kin.keeps λb o e=>(e0.bs b o e).1
 have lim:s.heap.NoLimit:=e0.mod.nolimit.keeps λb o e=>(e0.bs b o e).1
 have hkind:∀y∈ps.zip us,scope.names.lookup y.1=some .local\/(scope.names.lookup y.1=some .cell/\((cellsFrom (s.heap.objs.size+1) scope.names []).lookup y.1).isSome=true):=λ⟨n,v⟩ hy=>by
  rcases S.par n (y3 hy).1 with q | q
  ·exact .inl q
  ·exact .inr ⟨q,AM _ _ _ (.inl q)⟩
 refine codeAny_call_function hr.depth (KX _ _ lk) rfl S.co S.gen rfl (PySem.W.codeRec_of KX hcd) (hb _ _ _ _ ?_)
 refine wpAny_newFunctionEnv_cells S.kind hkind λenv he s1 x =>?_
 subst he
 refine ⟨lim.keeps x.toInCall.keep,codeAny_func ?_⟩
 obtain ⟨t,ht,hq⟩:=hbody A outer s H vs Q E (hr.deeper _) hsp
 have I:Inv (fM CX P w K mg base N qual scope f cdv A outer s H E) [] (start N vs) H s1:=mY S hr.hd e0 hl r x
 refine xG (ht [] s1 (start N vs) H _ I hq) (λfl s' hs =>?_) λe s' hs=>hs
 have fin:∀{σ':St} {H':Hp} {v:V} {u:uW},Inv (fM CX P w K mg base N qual scope f cdv A outer s H E) [] σ' H' s'->RelV v u->Q v H'->CE outer P w H s Q u s' :=
  λ{σ' H' v u} J rv q=>⟨v,H',J.os,J.bare,J.base,J.hok,rv,q⟩
 cases fl with
 | ret u =>
  obtain ⟨v,σ',H',J,rv,q⟩:=hs
  exact fin J rv q
 | next =>
  obtain ⟨σ',H',J,q⟩:=hs
  exact fin (v:=V.non) (u:=xq) J rfl q
 | brk =>
  obtain ⟨_,_,_,q⟩:=hs
  exact False.elim q
 | cont =>
  obtain ⟨_,_,_,q⟩:=hs
  exact False.elim q
open PySem PySem.Spec PyProof.Rows
section
variable  {X:Cx}{x:Str}{p pos:Pos}{e:Expr}{es:List Expr}{t:TA}{id T:String}{r:List V->Hp->VK->Prop}
def tCB (r:List V->Hp->VK->Prop)(t:TA):TE:=λσ H Q=>t σ H λvs H1=>r vs H1 Q
theorem aS (hc:bY X (.builtin id) r)(hg:Gl X x)(hm:X.mg x=none)(hv:we x=some (.builtin id))(ha:PA X (e :: es) t)(hn:x ≠ "__name__" := by decide)(hdb:(x == ("__debug__" : Str))=false:=by decide)
  (he:wC (e :: es) X.env=(false,eval e X.env) :: wC es X.env:=by rfl) (hpl:(Ae pos (wC es X.env)).any (·.1)=false:=by rfl):PE X (.Call (.Name x p) (e :: es) [] pos) (tCB r t):=by
 intro pins s σ H Q I h
 refine x4 (cY I hg hm hv ?_ hn hdb)
 exact PyProof.Rows.callWith_builtin1 (thn (ha pos pins s σ H _ I h) λus s1 ⟨vs,H1,I1,r1,q1⟩=>hc pins s1 σ H1 vs us Q I1 r1 q1) he hpl
theorem aU (hc:bY X (.type T) r)(hg:Gl X x)(hm:X.mg x=none)(hv:we x=some (.type T))(ha:PA X (e :: es) t)(hn:x ≠ "__name__" := by decide)(hdb:(x == ("__debug__" : Str))=false:=by decide)
  (he:wC (e :: es) X.env=(false,eval e X.env) :: wC es X.env:=by rfl) (hpl:(Ae pos (wC es X.env)).any (·.1)=false:=by rfl):PE X (.Call (.Name x p) (e :: es) [] pos) (tCB r t):=by
 intro pins s σ H Q I h
 refine x4 (cY I hg hm hv ?_ hn hdb)
 exact xj (thn (ha pos pins s σ H _ I h) λus s1 ⟨vs,H1,I1,r1,q1⟩=>hc pins s1 σ H1 vs us Q I1 r1 q1) he hpl
end
end L2
namespace HT
open PySem PyProof.Rows
def lexLt:List Int->List Int->Bool
 | [],[]=>false
 | [],_ :: _=>true
 | _ :: _,[]=>false
 | x :: xs,y :: ys=>if x=y then lexLt xs ys else decide (x<y)
theorem bS (x y:Int)(xs ys:List Int):lexLt (x :: xs) (y :: ys)=if x=y then lexLt xs ys else decide (x<y):=rfl
theorem iw:lexLt [] []=false:=rfl
theorem gE (y:Int)(ys:List Int):lexLt [] (y :: ys)=true:=rfl
theorem gF (x:Int)(xs:List Int):lexLt (x :: xs) []=false:=rfl
theorem oS (A:v7)(s:uZ)(a:Int)(t:Tok)(c:Int)(u:Tok):∃e,yt A s (.int a t) (.int c u) e/\(e=true↔a=c) :=
 ⟨(a == c),xE a t c u,by simp⟩
theorem jS (A:v7)(s:uZ)(a:Int)(t:Tok)(c:Int)(u:Tok)(prog:vI)(w:wc)(E:uW->uZ->Prop)(Q:uW->uZ->Prop)(h:Q (.bool (decide (a<c))) s) :
  vJ (vK prog w) A (richCompare .Lt (.int a t) (.int c u)) Q E s :=
 (PyProof.Rows.lt_int h:vJ (vK prog w) A (xS .Lt (.int a t) (.int c u)) Q E s)
section
open PySem.SeqAt
open PySem.AutoSeq1 (wpAny_loadPart')
open PySem.MeetsSeq PySem.MeetsSeq2 PySem.MeetsSeq3
theorem eB (l b:Addr)(items items2:Array uW)(n n2:Nat)(dd dd2:Option Addr)(sl sl2:Array (Option uW))(ns ms:List Int)(hi:xT items.toList ns)(hj:xT items2.toList ms) :
  Meets (Builtin.«tuple.__lt__» ⟨[.ref l,.ref b],[]⟩)
   (λ_ R s=>s.heap.get? l=some { cls :=.type "tuple",dict:=dd,data :=.seq items n,slots:=sl }/\s.heap.get? b=some { cls :=.type "tuple",dict:=dd2,data :=.seq items2 n2,slots:=sl2 } ∧
    R (.ok (.ret (.bool (lexLt ns ms)))) s) :=
 .of_wp λprog w A R s h=>by
  obtain ⟨hp,g,d,tk,os⟩:=s;obtain ⟨hl,hb,h⟩:=h
  have f2:=AutoSeq1.sub_tuple_tuple
  have z1:items.size=ns.length:=by rw[<- hi.length];simp
  have z2:items2.size=ms.length:=by rw[<- hj.length];simp
  wp_walk using wpAny_loadPart' hl,wpAny_loadPart' hb,wpAny_forIn_list _ (λrest b s'=>b.1=none/\s'=⟨hp,g,d,tk,os⟩/\∃(vs ws:List uW) (ns' ms':List Int),rest=vs.zip ws ∧
   xT vs ns'/\xT ws ms'/\ns'.length+items2.size=ms'.length+items.size/\R (.ok (.ret (.bool (lexLt ns' ms')))) ⟨hp,g,d,tk,os⟩) _
  case turn =>
   rintro ⟨y,x⟩ rest b s' ⟨hb',rfl,vs,ws,ns',ms',hz,hvi,hwi,hlen,hR⟩
   cases hvi with
   | nil=>rw[List.zip_nil_left] at hz;cases hz
   | cons a t hvi' =>
    cases hwi with
    | nil=>rw[List.zip_nil_right] at hz;cases hz
    | cons c u hwi' =>
     rw[y6] at hz
     injection hz with hyx hrest
     injection hyx with hy hx
     subst hy hx
     rw[bS] at hR
     simp only[vT] at hlen
     obtain ⟨e,he,hiff⟩:=oS A.in1 ⟨hp,g,d,tk,os⟩ a t c u
     refine uU (he prog w _ _ ?_)
     cases e with
     | true =>
      rw[if_pos (hiff.mp rfl)] at hR
      wp_walk
      exact ⟨rfl,rfl,_,_,_,_,hrest,hvi',hwi',by omega,hR⟩
     | false =>
      rw[if_neg (λq=>absurd (hiff.mpr q) vp)] at hR
      have hri:=jS A.in1 ⟨hp,g,d,tk,os⟩ a t c u prog w
      wp_walk using hri
      exact ⟨_,rfl,by simpa using hR⟩
  case fin =>
   rintro ⟨b1,b2⟩ s' ⟨hb',rfl,vs,ws,ns',ms',hz,hvi,hwi,hlen,hR⟩
   simp only at hb'
   subst hb'
   have hv:lexLt ns' ms'=decide (items.size<items2.size):=by
    cases hvi with
    | nil =>
     cases hwi with
     | nil =>
      simp only[yw] at hlen
      rw[iw]
      exact (decide_eq_false (by omega)).symm
     | cons c u hw =>
      simp only[yw,vT] at hlen
      rw[gE]
      exact (decide_eq_true (by omega)).symm
    | cons a t hv =>
     cases hwi with
     | nil =>
      simp only[yw,vT] at hlen
      rw[gF]
      exact (decide_eq_false (by omega)).symm
     | cons c u hw =>
      rw[y6] at hz
      cases hz
   rw[hv] at hR
   wp_walk
   exact ⟨_,rfl,by simpa [Builtin.Tuple.tupleCompareSizes] using hR⟩
  case h =>
   exact ⟨rfl,rfl,items.toList,items2.toList,ns,ms,rfl,hi,hj,by omega,h⟩
end
section
variable  {prog:vI}{w:wc}{A:v7}{E:uW->uZ->Prop}{s:uZ}
theorem kW {l b:Addr}{items items2:Array uW}{ns ms:List Int}{Q:uW->uZ->Prop}(hl:IsTup s.heap l items)(hb:IsTup s.heap b items2)(hi:xT items.toList ns)(hj:xT items2.toList ms)
  (hu:A.units<cLine) (h:Q (.bool (lexLt ns ms)) s):vJ (vK prog w) A (xS .Lt (.ref l) (.ref b)) Q E s:=by
 obtain ⟨⟨cls,dd,data,sl⟩,ho,hc,n,hd⟩:=id hl
 obtain ⟨⟨cls2,dd2,data2,sl2⟩,ho2,hc2,n2,hd2⟩:=id hb
 simp only at hc hd hc2 hd2
 subst hc hd hc2 hd2
 exact xV (op :=.Lt) ⟨_,ho,rfl⟩ ⟨_,ho2,rfl⟩ zx AN (Ar _ _) (eB l b items items2 n n2 dd dd2 sl sl2 ns ms hi hj)
  ⟨ho,ho2,show Value.bool (lexLt ns ms)≠Value.notImplemented/\Q (.bool (lexLt ns ms)) s from ⟨(λx=>nomatch x),h⟩⟩ hu
theorem qD {t b:Addr}{vs ws:List uW}{Q:uW->uZ->Prop}(ht:IsTup s.heap t vs.toArray)(hb:IsTup s.heap b ws.toArray)(hv:vs≠[])
  (h1:ws=[]->Q (.ref t) s) (h2:ws≠[]->Q (.ref s.heap.objs.size) { s with heap:=s.heap.push { cls :=.type "tuple",data :=.seq (vs++ws).toArray } })
  (hsz:vs.length+ws.length<=vm):vJ (vK prog w) A (binaryOp .Add (.ref t) (.ref b)) Q E s:=by
 obtain ⟨⟨cls,dd,data,sl⟩,ho,hc,n,hd⟩:=id ht
 obtain ⟨⟨cls2,dd2,data2,sl2⟩,ho2,hc2,n2,hd2⟩:=id hb
 simp only at hc hd hc2 hd2
 subst hc hd hc2 hd2
 have e:vs.toArray++ws.toArray=(vs++ws).toArray:=by simp
 by_cases hw:ws=[]
 ·exact A2 ⟨_,ho,rfl⟩ ⟨_,ho2,rfl⟩ AL Bs zk y7 (yX _ _)
   (tuple_addW1 t b vs.toArray ws.toArray n n2 dd dd2 sl sl2 (by simpa using hv) (by simp[hw])) ⟨ho,ho2,h1 hw⟩
 ·refine A2 ⟨_,ho,rfl⟩ ⟨_,ho2,rfl⟩ AL Bs zk y7 (yX _ _)
   (tuple_addW2 t b vs.toArray ws.toArray n n2 dd dd2 sl sl2 (by simpa using hv) (by simpa using hw) (by rw[u0,u0];exact hsz)) ⟨ho,ho2,?_⟩
  rw[e]
  exact h2 hw
def sIx (n d:Nat):Option Int->Nat
 | none=>d
 | some v=>if v<0 then (v+(n:Int)).toNat else min v.toNat n
end
end HT
namespace L2
open PySem PySem.Spec PyProof.Rows
abbrev TO:=St->Hp->(Option Int->Hp->Prop)->Prop
def PO (X:Cx)(e:Option Expr)(t:TO):Prop :=
 ∀(pins:List (Addr×Obj)) (s:uZ) (σ:St) (H:Hp) (Q:Option Int->Hp->Prop),Inv X pins σ H s->t σ H Q →
  vJ (vK X.prog X.w) X.A (evalPart e X.env) (λu s'=>∃o H',Inv X pins σ H' s'/\IsPart u o/\Q o H') X.xe s
def qE:TO:=λ_ H Q=>Q none H
def um (t:TE):TO:=λσ H Q=>t σ H λx H1=>∃i,x = .int i/\Q (some i) H1
theorem intsAre_of {ns:List Int}:∀{us:List uW},Vals (ns.map V.int) us->xT us ns:=by
 induction ns with
 | nil=>intro us r;rw[BL] at r;cases r;exact .nil
 | cons n ns ih =>
  intro us r
  rw[vw] at r
  cases r with
  | cons r1 r2 =>
   obtain ⟨t,e⟩:=r1
   subst e
   exact .cons n t (ih r2)
section
variable  {X:Cx}{e:Expr}{te:TE}{lo hi:Option Expr}{tl th:TO}{pos p2:Pos}
theorem bE:PO X none qE:=by
 intro pins s σ H Q I h
 rw[evalPart_none]
 exact vg ⟨none,H,I,.none,h⟩
theorem bF (h:PE X e te):PO X (some e) (um te):=by
 intro pins s σ H Q I hw
 rw[evalPart_some]
 refine thn (h pins s σ H _ I hw) λu s1 ⟨x,H1,I1,r1,q1⟩ =>?_
 obtain ⟨i,rfl,q⟩:=q1
 obtain ⟨t,rfl⟩:=r1
 exact ⟨some i,H1,I1,.int i t,q⟩
def SlR (X:Cx)(r:V->Option Int->Option Int->Hp->VK->Prop):Prop :=
 ∀(pins:List (Addr×Obj)) (s:uZ) (σ:St) (H:Hp) (x:V) (v vl vu:uW) (lo hi:Option Int) (sl:Addr) (Q:VK),Inv X pins σ H s->RelV x v->s.heap.IsSliceOf sl vl vu .none->IsPart vl lo->IsPart vu hi->r x lo hi H Q →
  ∃T id,typeLookup (.type T) "__getitem__" = pure (some (.builtin id))/\s.TypeIs v T/\vJ (vK X.prog X.w) X.A (getItem v (.ref sl)) (EP X pins σ Q) X.xe s
def tSl (r:V->Option Int->Option Int->Hp->VK->Prop)(te:TE)(tl th:TO):TE:=λσ H Q=>te σ H λx H1=>tl σ H1 λl H2=>th σ H2 λu H3=>r x l u H3 Q
theorem bh {r:V->Option Int->Option Int->Hp->VK->Prop}(hr:SlR X r)(he:PE X e te)(hl:PO X lo tl)(hu:PO X hi th):PE X (.Subscript e (.Slice lo hi none p2) pos) (tSl r te tl th):=by
 intro pins s σ H Q I h
 refine Subscript_ (thn (he pins s σ H _ I h) λv s1 ⟨x,H1,I1,r1,q1⟩ =>?_)
 refine wpAny_Slice (thn (hl pins s1 σ H1 _ I1 q1) λvl s2 ⟨l,H2,I2,pl,q2⟩=>thn (hu pins s2 σ H2 _ I2 q2) λvu s3 ⟨u,H3,I3,pu,q3⟩ =>?_)
 rw[evalPart_none]
 refine vg ?_
 have I4:Inv X pins σ H3 { s3 with heap:=s3.heap.push { cls :=.type "slice",data :=.fields #[vl,vu,.none] } }:=I3.kept (t':=s3.toks) λb ob q=>uV _ q
 obtain ⟨T,id,hT,ht,hg⟩:=hr pins { s3 with heap:=s3.heap.push { cls :=.type "slice",data :=.fields #[vl,vu,.none] } } σ H3 x v vl vu l u s3.heap.objs.size Q I4 r1 (CM ..) pl pu q3
 show vJ (vK X.prog X.w) X.A (subscriptTail e (.Slice lo hi none p2) v (.ref s3.heap.objs.size)) (EP X pins σ Q) X.xe { s3 with heap:=s3.heap.push { cls :=.type "slice",data :=.fields #[vl,vu,.none] } }
 exact tail_any (ops:=[.ref s3.heap.objs.size,v]) ht hT hg (by with_unfolding_all rfl)
def mZ (xs:List V)(lo hi:Option Int):List V:=(xs.drop (HT.sIx xs.length 0 lo)).take (HT.sIx xs.length xs.length hi-HT.sIx xs.length 0 lo)
theorem jT (xs:List V)(lo hi:Option Int):(mZ xs lo hi).length<=xs.length:=by
 unfold mZ
 rw[v3,xH]
 omega
def uo (K:u6):R2:=λx y H Q=>∃a b xs ys,x = .ref a/\y = .ref b/\SqT K H a xs/\SqT K H b ys/\xs≠[]/\xs.length+ys.length<=vm ∧
 (ys=[]->Q (.ref a) H)/\(ys≠[]->∀p,H p=none->Q (.ref p) (upd H p (.tup (xs++ys))))
theorem Vals.gq {xs:List V}{us:List uW}(r:Vals xs us):us=[]↔xs=[]:=by
 cases r with
 | nil=>simp
 | cons _ _=>simp
theorem qF:OpR X (binaryOp .Add) (uo X.K):=by
 intro pins s σ H x y v u Q I rx ry h
 obtain ⟨a,b,xs,ys,rfl,rfl,ha,hb,hx,hz,q1,q2⟩:=h
 cases rx
 cases ry
 obtain ⟨its,r1,p1,_⟩:=I.tuple ha
 obtain ⟨its2,r2,p2,_⟩:=I.tuple hb
 refine HT.qD p1 p2 (λz=>hx (r1.gq.mp z)) (λz=>⟨.ref a,H,I,rfl,q1 (r2.gq.mp z)⟩) (λz =>?_) (by rw[<- r1.length, <- r2.length];exact hz)
 refine ⟨.ref s.heap.objs.size,_,I.laid (t':=s.toks) (o :=.tup (xs++ys)) (λb ob q=>uV _ q) (va _) ?_,rfl,q2 (λw=>z (r2.gq.mpr w)) _ (I.hok.fresh (va _))⟩
 exact ⟨by rw[u9];exact hz,_,r1.append r2,cJ.new _ _⟩
end
open PySem PySem.Spec PyProof.Rows
def ixN (n:Nat)(i:Int):Option Nat:=if 0<=i then (if i<n then some i.toNat else none) else if -(n:Int)<=i then some (i+n).toNat else none
def atI {α:Type}(xs:List α)(i:Int):Option α:=(ixN xs.length i).bind λj=>xs[j]?
theorem lU {n:Nat}{i:Int}{j:Nat}(h:ixN n i=some j):seqIndex? i n=some j/\j<n /\ -(n:Int)<=i/\i<n:=by
 unfold ixN at h
 by_cases h0:0<=i
 ·rw[if_pos h0] at h
  by_cases h1:i<n
  ·rw[if_pos h1] at h
   have e:i.toNat=j:=vR h
   exact ⟨by rw[Bf h0 h1,e],by omega,by omega,h1⟩
  ·rw[if_neg h1] at h;cases h
 ·rw[if_neg h0] at h
  by_cases h1 : -(n:Int)<=i
  ·rw[if_pos h1] at h
   have e:(i+n).toNat=j:=vR h
   exact ⟨by rw[BN (by omega) h1,e],by omega,h1,by omega⟩
  ·rw[if_neg h1] at h;cases h
theorem lV {α:Type}{xs:List α}{i:Int}{v:α}(h:atI xs i=some v):∃j,seqIndex? i xs.length=some j/\xs[j]? = some v/\j<xs.length /\ -(xs.length:Int)<=i/\i<xs.length:=by
 unfold atI at h
 cases e:ixN xs.length i with
 | none=>rw[e] at h;cases h
 | some j =>
  rw[e] at h
  obtain ⟨h1,h2,h3,h4⟩:=lU e
  exact ⟨j,h1,h,h2,h3,h4⟩
theorem cB {α:Type}{xs:List α}{j:Nat}{v:α}(h:xs[j]? = some v):atI xs (j:Int)=some v:=by
 have hj:j<xs.length:=(vb.mp h).1
 have e:ixN xs.length (j:Int)=some j:=by
  unfold ixN
  rw[if_pos (by omega),if_pos (by omega)];simp
 unfold atI;rw[e];exact h
theorem oT {α:Type}(xs:List α)(v:α):atI (xs++[v]) (-1)=some v:=by
 have hl:(xs++[v]).length=xs.length+1:=by simp
 have e:ixN (xs++[v]).length (-1)=some xs.length:=by
  unfold ixN
  rw[hl,if_neg (by decide),if_pos (by omega)]
  congr 1
  omega
 unfold atI
 rw[e]
 show (xs++[v])[xs.length]? = some v
 simp
def qG (b:Expr):Prop:=∀o i,subscripted b false o i=operate [o,i] (getItem o i)
def IxR (X:Cx)(r:R2):Prop :=
 ∀(value slice:Expr) (pins:List (Addr×Obj)) (s:uZ) (σ:St) (H:Hp) (x y:V) (v u:uW) (Q:VK),Inv X pins σ H s->RelV x v->RelV y u->r x y H Q →
  subscripted slice false v u=operate [v,u] (getItem v u)->vJ (vK X.prog X.w) X.A (subscriptTail value slice v u) (EP X pins σ Q) X.xe s
def MtR (X:Cx)(id:String)(r:V->List V->Hp->VK->Prop):Prop :=
 ∀(pins:List (Addr×Obj)) (s:uZ) (σ:St) (H:Hp) (x:V) (xs:List V) (v:uW) (us:List uW) (Q:VK),Inv X pins σ H s->RelV x v->Vals xs us->r x xs H Q →
  vJ (vK X.prog X.w) X.A (call (.builtin id) (v :: us)) (EP X pins σ Q) X.xe s
section
variable  {X:Cx}{a b:Expr}{ta tb:TE}{pos:Pos}
theorem aI {r:R2}(hr:IxR X r)(ha:PE X a ta)(hb:PE X b tb)(hs:qG b):PE X (.Subscript a b pos) (tOp r ta tb):=by
 intro pins s σ H Q I h
 exact Subscript_ (sk ha hb I h λv u s2 x y H2 I2 rx ry q=>hr a b pins s2 σ H2 x y v u Q I2 rx ry q (hs _ _))
def uq (K:u6):R2:=λx y H Q=>∃p xs i v,x = .ref p/\y = .int i/\SqL K H p xs/\atI xs i=some v/\Q v H
def ur (K:u6):R2:=λx y H Q=>∃p xs i v,x = .ref p/\y = .int i/\SqT K H p xs/\atI xs i=some v/\Q v H
theorem bG:IxR X (uq X.K):=by
 intro value slice pins s σ H x y v u Q I rx ry h hs
 obtain ⟨p,xs,i,z,rfl,rfl,hq,he,q⟩:=h
 cases rx
 obtain ⟨t,rfl⟩:=ry
 obtain ⟨its,r,pl,hz⟩:=I.list hq
 obtain ⟨j,h1,h2,h3,h4,h5⟩:=lV he
 obtain ⟨w,ew,rw'⟩:=r.get h2
 have hl:=r.length
 have hn:=fK
 have fin:EP X pins σ Q w s:=⟨z,H,I,rw',q⟩
 by_cases h0:0<=i
 ·have hj:i.toNat=j:=by
   rw[Bf h0 h5] at h1
   exact vR h1
  exact item_listR pl.isList h0 (by omega) (by rw[hj];simpa using ew) fin hs
 ·have hj:(i+(its.toArray.size:Int)).toNat=j:=by
   rw[BN (by omega) h4] at h1
   rw[u0, <- hl]
   exact vR h1
  exact AS (x:=w) pl.isList.typeIs slot_list_getitem.lookup
   (wpAny_getItem_list_neg (Q:=λr s'=>r=w/\EP X pins σ Q r s') pl.isList (by omega) (by rw[u0] <;> omega) (by omega) (by rw[hj];simpa using ew) ⟨rfl,fin⟩) hs
theorem aX:IxR X (ur X.K):=by
 intro value slice pins s σ H x y v u Q I rx ry h hs
 obtain ⟨p,xs,i,z,rfl,rfl,hq,he,q⟩:=h
 cases rx
 obtain ⟨t,rfl⟩:=ry
 obtain ⟨its,r,pl,hz⟩:=I.tuple hq
 obtain ⟨j,h1,h2,h3,h4,h5⟩:=lV he
 obtain ⟨w,ew,rw'⟩:=r.get h2
 have hl:=r.length
 have hn:=fK
 have fin:EP X pins σ Q w s:=⟨z,H,I,rw',q⟩
 exact AS (x:=w) pl.typeIs slot_tuple_getitem.lookup
  (getItem_tuple (j:=j) (Q:=λr s'=>r=w/\EP X pins σ Q r s') pl (by omega) (by omega) (by rw[u0, <- hl];exact h1) (by simpa using ew) ⟨rfl,fin⟩) hs
theorem kX (its:List uW)(n j:Nat)(u:uW):vV (·.setIfInBounds j u) { cls :=.type "list",data :=.seq its.toArray n }={ cls :=.type "list",data :=.seq (its.set j u).toArray n }:=by
 simp[vV]
theorem Inv.lst {pins:List (Addr×Obj)}{σ:St}{H:Hp}{s:uZ}{p:Addr}{xs:List V}(I:Inv X pins σ H s)(h:H p=some (.lst xs)) :
  ∃(its:List uW) (n:Nat),Vals xs its/\s.heap.get? p=some { cls :=.type "list",data :=.seq its.toArray n }/\xs.length<=vm:=by
 obtain ⟨z,its,n,r,e⟩:=I.hok p _ h
 exact ⟨its,n,r,e,z⟩
theorem Inv.sA {pins:List (Addr×Obj)}{σ:St}{H:Hp}{s:uZ}{p:Addr}{xs ys:List V}{its its':List uW}{n n':Nat}{f:Obj->Obj}(I:Inv X pins σ H s)(h:H p=some (.lst xs))
  (ho:s.heap.get? p=some { cls :=.type "list",data :=.seq its.toArray n }) (hf:f { cls :=.type "list",data :=.seq its.toArray n }={ cls :=.type "list",data :=.seq its'.toArray n' }) (r:Vals ys its') (hz:ys.length<=vm) (t:Nat) :
  Inv X pins σ (upd H p (.lst ys)) { s with heap:=s.heap.update p f,toks:=t }:=by
 have e:(s.heap.update p f).get? p=some { cls :=.type "list",data :=.seq its'.toArray n' }:=by
  rw[vW f ho (by rw[hf] <;> rfl),hf]
 refine I.write (x:=p) (e:=p) (by rw[h];trivial) (.inl rfl) (λb u hb q=>(vX _ _ (xi hb)).trans q) ⟨_,e⟩ ?_
 exact ⟨hz,its',n',r,e⟩
def uu:V->V->V->Hp->(Hp->Prop)->Prop:=λo i v H Q=>∃p xs k j,o = .ref p/\i = .int k/\H p=some (.lst xs)/\ixN xs.length k=some j/\Q (upd H p (.lst (xs.set j v)))
theorem set_list:tY X uu:=by
 intro pins s σ H o i v ov iv u Q I ro ri rv h
 obtain ⟨p,xs,k,j,rfl,rfl,hp,hj,q⟩:=h
 cases ro
 obtain ⟨t,rfl⟩:=ri
 obtain ⟨its,n,r,ho,hz⟩:=I.lst hp
 obtain ⟨h1,h2,h3,h4⟩:=lU hj
 have hl:=r.length
 have hn:=fK
 have I':Inv X pins σ (upd H p (.lst (xs.set j v))) { s with heap:=s.heap.update p (vV (·.setIfInBounds j u)) } :=
  I.sA hp ho (kX its n j u) (r.set rv j) (by rw[zO];exact hz) s.toks
 by_cases h0:0<=k
 ·have hk:k.toNat=j:=by
   rw[Bf h0 h4] at h1
   exact vR h1
  exact PySem.W.ki_setAt ho h0 (by omega) (by rw[u0, <- hl];exact h4) (by rw[hk];exact ⟨_,I',q⟩)
 ·have hk:(k+(its.toArray.size:Int)).toNat=j:=by
   rw[BN (by omega) h3] at h1
   rw[u0, <- hl]
   exact vR h1
  exact PySem.W.ki_setBack ho (by omega) (by rw[u0, <- hl];exact h3) (by omega) (by rw[hk];exact ⟨_,I',q⟩)
theorem js (lo hi:Option Int)(n:Nat):(sliceBounds lo hi none n).1=((HT.sIx n 0 lo:Nat):Int)/\(sliceBounds lo hi none n).2.1=((HT.sIx n n hi:Nat):Int)/\(sliceBounds lo hi none n).2.2=1:=by
 refine ⟨?_,?_,rfl⟩
 ·cases lo with
  | none=>simp[sliceBounds,HT.sIx]
  | some i =>
   simp only[sliceBounds,HT.sIx,BQ,show (1:Int)>0 by decide,if_true]
   by_cases h:i<0
   ·simp only[h,if_true] <;> omega
   ·simp only[h,if_false] <;> omega
 ·cases hi with
  | none=>simp[sliceBounds,HT.sIx]
  | some i =>
   simp only[sliceBounds,HT.sIx,BQ,show (1:Int)>0 by decide,if_true]
   by_cases h:i<0
   ·simp only[h,if_true] <;> omega
   ·simp only[h,if_false] <;> omega
theorem iy (its:List uW)(lo hi:Option Int):slicePick its.toArray lo hi none=((its.drop (HT.sIx its.length 0 lo)).take (HT.sIx its.length its.length hi-HT.sIx its.length 0 lo)).toArray:=by
 obtain ⟨h1,h2,h3⟩:=js lo hi its.toArray.size
 unfold slicePick
 rw[h1,h2,h3]
 simp only[sliceRange_one,pick_run,u0] <;> rfl
def rSlL (K:u6):V->Option Int->Option Int->Hp->VK->Prop:=λx lo hi H Q=>∃a xs,x = .ref a/\SqL K H a xs/\∀p,H p=none->Q (.ref p) (upd H p (.lst (mZ xs lo hi)))
theorem bH:SlR X (rSlL X.K):=by
 intro pins s σ H x v vl vu lo hi sl Q I rx hs pl pu h
 obtain ⟨a,xs,rfl,hx,q⟩:=h
 cases rx
 obtain ⟨its,r,ht,hz⟩:=I.list hx
 have hlen:=r.length
 refine ⟨"list",_,slot_list_getitem.lookup,ht.isList.typeIs,?_⟩
 refine wpAny_getItem_list_slice ht.isList hs pl pu .none (by simp) ?_ (by rw[u0] <;> omega)
 rw[iy, <- hlen]
 refine ⟨.ref s.heap.objs.size,_,I.laid (t':=s.toks) (o :=.lst (mZ xs lo hi)) (λb ob q=>uV _ q) (va _) ?_,rfl,q _ (I.hok.fresh (va _))⟩
 exact ⟨vP (jT xs lo hi) hz,_,0,(r.drop (HT.sIx xs.length 0 lo)).take (HT.sIx xs.length xs.length hi-HT.sIx xs.length 0 lo),ve _ rfl⟩
def eX:V->Bool
 | .non=>true
 | .bl _=>true
 | .int _=>true
 | .str _=>true
 | _=>false
def eqV:V->V->Bool
 | .non,.non=>true
 | .bl a,.bl b=>a == b
 | .bl a,.int b=>(if a then 1 else 0) == b
 | .int a,.bl b=>a == (if b then 1 else 0)
 | .int a,.int b=>a == b
 | .str a,.str b=>a == b
 | _,_=>false
theorem sC {A:v7}{s:uZ}{y x:V}{u v:uW}(ry:RelV y u)(rx:RelV x v)(fy:eX y=true)(fx:eX x=true):yt A s u v (eqV y x):=by
 cases y with
 | non =>
  cases ry
  cases x with
  | non=>cases rx;exact y8 _
  | bl b=>cases rx;exact SeqAt.EqAt.none_bool b
  | int b=>obtain ⟨t,rfl⟩:=rx;exact SeqAt.EqAt.none_int b t
  | str b=>obtain ⟨t,rfl⟩:=rx;exact SeqAt.EqAt.none_str b t
  | _=>exact absurd (show false=true from fx) vp
 | bl a =>
  cases ry
  cases x with
  | non=>cases rx;exact SeqAt.EqAt.bool_none a
  | bl b=>cases rx;exact SeqAt.EqAt.bool_bool a b
  | int b=>obtain ⟨t,rfl⟩:=rx;exact SeqAt.EqAt.bool_int a b t
  | str b=>obtain ⟨t,rfl⟩:=rx;exact SeqAt.EqAt.bool_str a b t
  | _=>exact absurd (show false=true from fx) vp
 | int a =>
  obtain ⟨t',rfl⟩:=ry
  cases x with
  | non=>cases rx;exact SeqAt.EqAt.int_none a t'
  | bl b=>cases rx;exact SeqAt.EqAt.int_bool a t' b
  | int b=>obtain ⟨t,rfl⟩:=rx;exact xE a t' b t
  | str b=>obtain ⟨t,rfl⟩:=rx;exact Bi a t' b t
  | _=>exact absurd (show false=true from fx) vp
 | str a =>
  obtain ⟨t',rfl⟩:=ry
  cases x with
  | non=>cases rx;exact SeqAt.EqAt.str_none a t'
  | bl b=>cases rx;exact SeqAt.EqAt.str_bool a t' b
  | int b=>obtain ⟨t,rfl⟩:=rx;exact Bj a t' b t
  | str b=>obtain ⟨t,rfl⟩:=rx;exact SeqAt.EqAt.str_str a t' b t
  | _=>exact absurd (show false=true from fx) vp
 | _=>exact absurd (show false=true from fy) vp
def eqU (x:V)(u:uW):Bool:=match u with
 | .none=>eqV .non x
 | .bool b=>eqV (.bl b) x
 | .int i _=>eqV (.int i) x
 | .str z _=>eqV (.str z) x
 | _=>false
theorem oU {x y:V}{u:uW}(r:RelV y u)(f:eX y=true):eqU x u=eqV y x:=by
 cases y with
 | non=>cases r;rfl
 | bl b=>cases r;rfl
 | int i=>obtain ⟨t,rfl⟩:=r;rfl
 | str z=>obtain ⟨t,rfl⟩:=r;rfl
 | _=>exact absurd (show false=true from f) vp
theorem jt {x:V}:∀{xs:List V} {us:List uW},Vals xs us->xs.all eX=true->us.any (eqU x)=xs.any λy=>eqV y x
 | _,_,.nil,_=>rfl
 | y :: xs,u :: us,.cons r t,f=>by
  rw[Cz,wN] at f
  rw[y9,y9,oU r f.1,jt t f.2]
theorem gG {A:v7}{s:uZ}{x:V}{v:uW}(rx:RelV x v)(fx:eX x=true):∀{xs:List V} {us:List uW},Vals xs us->xs.all eX=true->∀u∈us,yt A s u v (eqU x u)
 | _,_,.nil,_=>λu hu=>by cases hu
 | y :: xs,u :: us,.cons r t,f=>λu' hu=>by
  rw[Cz,wN] at f
  rcases vM.mp hu with rfl | hu
  ·rw[oU r f.1];exact sC r rx f.1 fx
  ·exact gG rx fx t f.2 u' hu
def inV (x:V)(xs:List V):Bool:=xs.any λy=>eqV y x
def rIn (K:u6)(neg:Bool):R2:=λx y H Q=>∃p xs,y = .ref p/\(SqL K H p xs\/SqT K H p xs)/\eX x=true/\xs.all eX=true/\Q (.bl (if neg then !inV x xs else inV x xs)) H
theorem nc:OpR X (xS .In) (rIn X.K false):=by
 intro pins s σ H x y v u Q I rx ry h
 obtain ⟨p,xs,rfl,hq,fx,fs,q⟩:=h
 cases ry
 rcases hq with hq | hq
 ·obtain ⟨its,r,pl,hz⟩:=I.list hq
  refine SeqAt.in_listAt (eqU x) pl.isList (λw hw=>gG rx fx r fs w (by simpa using hw)) ⟨.bl _,H,I,rfl,?_⟩
  rw[show its.toArray.any (eqU x)=its.any (eqU x) by simp,jt r fs]
  exact q
 ·obtain ⟨its,r,pl,hz⟩:=I.tuple hq
  refine SeqAt.in_tupleAt (eqU x) pl (λw hw=>gG rx fx r fs w (by simpa using hw)) ⟨.bl _,H,I,rfl,?_⟩
  rw[show its.toArray.any (eqU x)=its.any (eqU x) by simp,jt r fs]
  exact q
theorem cp:bY X (.builtin "len") (λxs H Q=>∃p ys,xs=[.ref p]/\(SqL X.K H p ys\/SqT X.K H p ys)/\Q (.int ys.length) H):=by
 intro pins s σ H xs us Q I r h
 obtain ⟨p,ys,rfl,hq,q⟩:=h
 obtain ⟨u,rfl,rx⟩:=vals1 r
 cases rx
 have hn:=fK
 rcases hq with hq | hq
 ·obtain ⟨its,r',pl,hz⟩:=I.list hq
  have hlen:=r'.length
  exact Calls.call_len_list pl.isList (by simp only[u0] <;> omega) ⟨.int ys.length,H,I.tok _,⟨s.toks+1,by rw[u0,hlen]⟩,q⟩
 ·obtain ⟨its,r',pl,hz⟩:=I.tuple hq
  have hlen:=r'.length
  exact Cd pl (by simp only[u0] <;> omega) ⟨.int ys.length,H,I.tok _,⟨s.toks+1,by rw[u0,hlen]⟩,q⟩
theorem eY:bY X (.type "list") (λxs H Q=>∃p ys,xs=[.ref p]/\(SqL X.K H p ys\/SqT X.K H p ys)/\∀l,H l=none->Q (.ref l) (upd H l (.lst ys))):=by
 intro pins s σ H xs us Q I r h
 obtain ⟨p,ys,rfl,hq,q⟩:=h
 obtain ⟨u,rfl,rx⟩:=vals1 r
 cases rx
 have fin:∀(its:List uW),Vals ys its->ys.length<=vm->∀(h':Heap) (c':Nat),(∀b o',s.heap.get? b=some o'->h'.get? b=some o') →
   h'.get? s.heap.objs.size=some { cls :=.type "list",dict:=none,data :=.seq its.toArray c',slots := #[] }->EP X pins σ Q (.ref s.heap.objs.size) { s with heap:=h' }:=λits r' hz h' c' kp e =>
  ⟨.ref s.heap.objs.size,_,I.laid (t':=s.toks) kp (va _) (show aT X.prog X.w _ h' _ (.lst ys) from ⟨hz,its,c',r',e⟩),rfl,q _ (I.hok.fresh (va _))⟩
 rcases hq with hq | hq
 ·obtain ⟨its,r',pl,hz⟩:=I.list hq
  have hlen:=r'.length
  obtain ⟨o,ho,hc,n,hd⟩:=pl.isList
  exact call_list_seq p (.inl rfl) ho hc hd (λh' c' kp e=>fin its r' hz h' c' kp e) (by simp only[u0] <;> omega)
 ·obtain ⟨its,r',pl,hz⟩:=I.tuple hq
  have hlen:=r'.length
  obtain ⟨o,ho,hc,n,hd⟩:=pl
  exact call_list_seq p (.inr rfl) ho hc hd (λh' c' kp e=>fin its r' hz h' c' kp e) (by simp only[u0] <;> omega)
theorem bD:bY X (.type "tuple") (λxs H Q=>∃p ys,xs=[.ref p]/\((SqL X.K H p ys/\∀l,H l=none->Q (.ref l) (upd H l (.tup ys)))\/(SqT X.K H p ys/\Q (.ref p) H))):=by
 intro pins s σ H xs us Q I r h
 obtain ⟨p,ys,rfl,h⟩:=h
 obtain ⟨u,rfl,rx⟩:=vals1 r
 cases rx
 rcases h with ⟨hq,q⟩ | ⟨hq,q⟩
 ·obtain ⟨its,r',pl,hz⟩:=I.list hq
  have hlen:=r'.length
  refine call_tuple_list pl.isList (λh' kp =>?_) (by simp only[u0] <;> omega)
  have I1:Inv X pins σ H { s with heap:=h' }:=I.kept (t':=s.toks) kp
  have I2:Inv X pins σ (upd H h'.objs.size (.tup ys)) { s with heap:=h'.push { cls :=.type "tuple",data :=.seq its.toArray } } :=
   I1.laid (t':=s.toks) (λb o e=>uV _ e) (va _) (show aT X.prog X.w _ _ _ (.tup ys) from ⟨hz,its,r',cJ.new _ _⟩)
  exact ⟨.ref h'.objs.size,_,I2,rfl,q _ (I1.hok.fresh (va _))⟩
 ·obtain ⟨its,r',pl,hz⟩:=I.tuple hq
  exact call_tuple_same pl ⟨.ref p,H,I,rfl,q⟩
def tyV (K:u6)(T:String)(x:V)(H:Hp):Prop:=match x with
 | .str _=>T = "str"
 | .int _=>T = "int"
 | .ref p=>(T = "list" /\ ∃xs,SqL K H p xs)\/(T = "tuple" /\ ∃o,K.lookup p=some o/\o.cls = .type "tuple" /\ o.dict=none) ∨
   (T = "dict" /\ ((∃kvs,H p=some (.dK kvs))\/∃kvs,H p=some (.dT kvs)))\/(T = "set" /\ ∃S n,H p=some (.set S n))
 | _=>False
theorem oV {pins:List (Addr×Obj)}{σ:St}{H:Hp}{s:uZ}{T:String}{x:V}{v:uW}(I:Inv X pins σ H s)(r:RelV x v)(ty:tyV X.K T x H) :
  s.TypeIs v T/\∀a,v = .ref a->∃ob,s.heap.get? a=some ob/\ob.dict=none:=by
 cases x with
 | str z =>
  obtain ⟨t,rfl⟩:=r
  cases (show T = "str" from ty)
  exact ⟨typeIs_str s z t,λ_ e=>nomatch e⟩
 | int i =>
  obtain ⟨t,rfl⟩:=r
  cases (show T = "int" from ty)
  exact ⟨Cy s i t,λ_ e=>nomatch e⟩
 | ref p =>
  cases r
  rcases ty with ⟨rfl,xs,hq⟩ | ⟨rfl,o,hk,hc,hd⟩ | ⟨rfl,hk⟩ | ⟨rfl,S,n,hk⟩
  ·obtain ⟨its,_,pl,_⟩:=I.list hq
   refine ⟨pl.isList.typeIs,λa e =>?_⟩
   cases e
   obtain ⟨o,n,e,c,hd,_⟩:=pl
   exact ⟨o,e,hd⟩
  ·refine ⟨⟨o,I.kIn p o hk,hc⟩,λa e =>?_⟩
   cases e
   exact ⟨o,I.kIn _ o hk,hd⟩
  ·have z:∃o,s.heap.get? p=some o/\o.ExactDict:=by
    rcases hk with ⟨kvs,hk⟩ | ⟨kvs,hk⟩
    ·obtain ⟨_,_,_,_,o,_,_,e,ex,_⟩:=I.hok p _ hk
     exact ⟨o,e,ex⟩
    ·obtain ⟨_,_,_,_,o,_,_,e,ex,_⟩:=I.hok p _ hk
     exact ⟨o,e,ex⟩
   obtain ⟨o,e,ex⟩:=z
   refine ⟨⟨o,e,ex.1⟩,λa e2 =>?_⟩
   cases e2
   exact ⟨o,e,ex.2.1⟩
  ·obtain ⟨o,_,_,_,e,ex,_⟩:=I.hok p _ hk
   refine ⟨⟨o,e,ex.1⟩,λa e2 =>?_⟩
   cases e2
   exact ⟨o,e,ex.2.1⟩
 | _=>exact False.elim ty
def tBM0 (K:u6)(T:String)(r:V->List V->Hp->VK->Prop)(to:TE):TE:=λσ H Q=>to σ H λx H1=>tyV K T x H1/\r x [] H1 Q
def tBM (K:u6)(T:String)(r:V->List V->Hp->VK->Prop)(to:TE)(t:TA):TE:=λσ H Q=>to σ H λx H1=>tyV K T x H1/\t σ H1 λxs H2=>r x xs H2 Q
variable  {o e:Expr}{es:List Expr}{to:TE}{t:TA}{name:Str}{apos cpos:Pos}{T id:String}{r:V->List V->Hp->VK->Prop}
theorem oW (pa:PlainAttrs T)(slot:Slot T name id)(hty:typeOf (.builtin id)=pure (.type "method_descriptor"))(hm:MtR X id r)(ho:PE X o to)
  (hbase:attributeBase o name X.env (eval o X.env)=eval o X.env:=by rfl) (hline:(apos.endLine == cpos.line)=true:=by rfl):PE X (.Call (.Attribute o name apos) [] [] cpos) (tBM0 X.K T r to):=by
 intro pins s σ H Q I h
 refine wpAny_Call_method0_late hbase hline (thn (ho pins s σ H _ I h) λv s1 ⟨x,H1,I1,r1,ty,q1⟩ =>?_)
 obtain ⟨h1,h2⟩:=oV I1 r1 ty
 exact ⟨T,id,pa,slot,hty,h1,h2,AO rfl (PySem.evalArgs_none (hm pins s1 σ H1 x [] v [] Q I1 r1 .nil q1))⟩
theorem gH (pa:PlainAttrs T)(slot:Slot T name id)(hty:typeOf (.builtin id)=pure (.type "method_descriptor"))(hm:MtR X id r)(ho:PE X o to)(ha:PA X (e :: es) t)
  (hbase:attributeBase o name X.env (eval o X.env)=eval o X.env:=by rfl)
  (hfew:((Ae cpos (wC (e :: es) X.env)).all (λx => !x.1) && (backToKw cpos (keywordEach [] X.env)).all (λx=>x.1.isSome)
   && decide ((e :: es).length+([]:List Keyword).length+(if ([]:List Keyword).isEmpty then 0 else 1)<30))=true:=by rfl)
  (hline:(apos.endLine == cpos.line)=true:=by rfl) (hs:wC (e :: es) X.env=(false,eval e X.env) :: wC es X.env:=by rfl) (hplain:(Ae cpos (wC es X.env)).any (·.1)=false:=by rfl) :
  PE X (.Call (.Attribute o name apos) (e :: es) [] cpos) (tBM X.K T r to t):=by
 intro pins s σ H Q I h
 refine wpAny_Call_method_late hbase hfew hline rfl (thn (ho pins s σ H _ I h) λv s1 ⟨x,H1,I1,r1,ty,q1⟩ =>?_)
 obtain ⟨h1,h2⟩:=oV I1 r1 ty
 refine ⟨T,id,pa,slot,hty,h1,h2,?_⟩
 have hA:=ha cpos pins s1 σ H1 _ I1 q1
 rw[hs] at hA ⊢
 refine AO (by show (false || (Ae cpos (wC es X.env)).any (·.1))=false;rw[hplain] <;> rfl) (Calls.evalArgs_plain ?_)
 exact thn hA λus s2 ⟨vs,H2,I2,r2,q2⟩=>hm pins s2 σ H2 x vs v us Q I2 r1 r2 q2
end
open PySem PySem.Spec PyProof.Rows
def MtM (X:Cx)(id:String)(r:V->List V->Hp->VK->Prop):Prop :=
 ∀(pins:List (Addr×Obj)) (s:uZ) (σ:St) (H:Hp) (x:V) (xs:List V) (v:uW) (us:List uW) (Q:VK),Inv X pins σ H s->RelV x v->Vals xs us->r x xs H Q →
  vJ (vK X.prog X.w) X.A (call (.builtin id) (v :: us)) (EP X pins σ Q) X.xe s
theorem Vals.one:∀{x:V} {us:List uW},Vals [x] us->∃u,us=[u]/\RelV x u
 | _,_,.cons r .nil=>⟨_,rfl,r⟩
theorem Vals.rep {xs:List V}{us:List uW}(h:Vals xs us):∀k:Nat,Vals (wg k xs).flatten (wg k us).flatten
 | 0 =>.nil
 | k+1=>by
  rw[xt,xt,xu,xu]
  exact Vals.append h (Vals.rep h k)
theorem foldl_rep (its:List uW):∀(k:Nat) (acc:List uW),
  List.foldl (λx1 x2=>x1++x2) acc.toArray (wg k its.toArray)=(acc++(wg k its).flatten).toArray
 | 0,acc=>by simp
 | k+1,acc=>by
  have e:acc.toArray++its.toArray=(acc++its).toArray:=by simp
  have e2:(acc++its)++(wg k its).flatten=acc++(wg (k+1) its).flatten:=by
   rw[xt,xu,vZ]
  rw[<- e2, <- foldl_rep its k (acc++its), <- e,xt,B5]
section
variable  {X:Cx}{pins:List (Addr×Obj)}{σ:St}{H:Hp}{s:uZ}{l b:Addr}{xs ys zs:List V}
theorem Inv.uv {its its':List uW}{n:Nat}{f:Array uW->Array uW}{t':Nat}(I:Inv X pins σ H s)(hH:H l=some (.lst xs))
  (e:s.heap.get? l=some { cls :=.type "list",data :=.seq its.toArray n }) (hf:f its.toArray=its'.toArray) (hv:Vals ys its') (hz:ys.length<=vm) :
  Inv X pins σ (upd H l (.lst ys)) { s with heap:=s.heap.update l (vV f),toks:=t' }:=by
 have q:=PySem.IsL.update e f
 rw[hf] at q
 refine I.write (x:=l) (e:=l) (by rw[hH];exact trivial) (.inl rfl) (λb' u hb hu=>(vX s.heap (vV f) (xi hb)).trans hu) ⟨_,q⟩ ?_
 exact ⟨hz,its',_,hv,q⟩
theorem Inv.uw {its:List uW}{t':Nat}(I:Inv X pins σ H s)(hv:Vals ys its)(hz:ys.length<=vm) :
  Inv X pins σ (upd H s.heap.objs.size (.lst ys)) { s with heap:=s.heap.push { cls :=.type "list",data :=.seq its.toArray },toks:=t' } :=
 I.laid (λ_ _ q=>uV _ q) (va _) ⟨hz,its,0,hv,ve _ rfl⟩
theorem Inv.fresh (I:Inv X pins σ H s):H s.heap.objs.size=none:=I.hok.fresh (va _)
theorem Inv.sD (I:Inv X pins σ H s)(hH:H l=some (.lst xs)):xs.length<=vm/\∃(its:List uW) (n:Nat),Vals xs its/\xs.length=its.length/\s.heap.get? l=some { cls :=.type "list",data :=.seq its.toArray n }:=by
 obtain ⟨z,its,n,r,e⟩:=I.hok l _ hH
 exact ⟨z,its,n,r,r.length,e⟩
theorem jU {n:Nat}(h:n<=vm):Builtin.List.listTooLong n=false:=by
 unfold Builtin.List.listTooLong
 exact decide_eq_false (by omega)
end
section
variable  {X:Cx}
def qH:V->List V->Hp->VK->Prop:=λx vs H Q=>∃l xs y,x = .ref l/\vs=[y]/\H l=some (.lst xs)/\xs.length<vm/\Q .non (upd H l (.lst (xs++[y])))
theorem dN:MtM X "list.append" qH:=by
 intro pins s σ H x vs v us Q I rx rv h
 obtain ⟨l,xs,y,rfl,rfl,hH,hz,q⟩:=h
 cases rx
 obtain ⟨u,rfl,ru⟩:=rv.one
 obtain ⟨z,its,n,r,hl,e⟩:=I.sD hH
 refine Aq F.slot_list_append ⟨_,e,rfl⟩ F.entry_list_append (F.args_list_append_2 _ _) (PySem.list_append l its.toArray n u (by rw[u0];omega)) ⟨e,?_⟩
 refine ⟨.non,_,I.uv (its':=its++[u]) hH e (by simp) (r.append (.cons ru .nil)) ?_,rfl,q⟩
 rw[u9,wx]
 omega
def rRep:R2:=λx y H Q=>∃l k xs,x = .ref l/\y = .int k/\H l=some (.lst xs) /\ -(2 ^ 63)<=k/\k<2 ^ 63/\xs.length*k.toNat<=vm ∧
 ∀p,H p=none->Q (.ref p) (upd H p (.lst (wg k.toNat xs).flatten))
theorem len_rep {α:Type}(xs:List α)(k:Nat):(wg k xs).flatten.length=k*xs.length:=by
 induction k with
 | zero=>simp
 | succ k ih=>rw[xt,xu,u9,ih,Nat.succ_mul,Nat.add_comm]
theorem sE:OpR X (binaryOp .Mult) rRep:=by
 intro pins s σ H x y v u Q I rx ry h
 obtain ⟨l,k,xs,rfl,rfl,hH,h1,h2,hz,q⟩:=h
 cases rx
 obtain ⟨t,rfl⟩:=ry
 obtain ⟨z,its,n,r,hl,e⟩:=I.sD hH
 have hlen:its.toArray.size*k.toNat<=vm:=by rw[u0, <- hl];exact hz
 have hcap:¬ its.toArray.size*k.toNat>(2 ^ 63-1)/8:=by
  have:(vm:Nat)<=(2 ^ 63-1)/8:=by decide
  omega
 have hfit:¬ (!Builtin.List.listFitsIndex k)=true:=by
  rw[fitsIndex_both h1 h2]
  exact vp
 have hlong:¬ Builtin.List.listTooLong (its.toArray.size*k.toNat)=true:=by
  rw[jU hlen]
  exact vp
 have hnew:List.foldl (λx1 x2=>x1++x2) #[] (wg (if its.toArray.isEmpty=true then 0 else k.toNat) its.toArray)=(wg k.toNat its).flatten.toArray:=by
  have f0:∀m:Nat,List.foldl (λx1 x2=>x1++x2) #[] (wg m its.toArray)=(wg m its).flatten.toArray:=λm=>by
   have:=foldl_rep its m []
   rw[zP] at this
   exact this
  rw[f0]
  cases its with
  | nil=>simp
  | cons a r'=>rw[if_neg (by simp)]
 refine wpAny_binaryOp_repeat_ref (T := "list") (U := "int") (by decide) ⟨_,e,rfl⟩ (λs'=>Cy s' k t) noFill_list_mul F.fills_int_mul B6 repeat_list F.slot_int_index.lookup
  (Aq B6 (Cy s k t) F.entry_int_rmul (F.args_int_rmul_2 _ _) (int___rmul___int_list k t l its.toArray n)
   ⟨e,rfl,⟨_,e,rfl⟩,Aq F.slot_list_mul ⟨_,e,rfl⟩ F.entry_list_mul (F.args_list_mul_2 _ _) (AutoListH.list___mul___list_int_3 l its.toArray n k t hfit hcap hlong) ⟨e,?_⟩⟩)
 rw[hnew]
 exact ⟨.ref _,_,I.uw (t':=s.toks) (r.rep k.toNat) (by rw[len_rep,Nat.mul_comm];exact hz),rfl,q _ I.fresh⟩
end
section
variable  {prog:vI}{w:wc}{A:v7}{E:uW->uZ->Prop}{s:uZ}
end
section
variable  {X:Cx}
end
end L2
namespace Att
open PySem PySem.W PySem.Calls PyProof.Rows
theorem gg {P:Params}{h:Heap}:∀(ns:List Int) (vs:List uW),WellAll P h vs (ns.map WData.int)->xT vs ns:=by
 intro ns
 induction ns with
 | nil =>
  intro vs w
  rw[BL] at w
  cases w
  exact .nil
 | cons n ns ih =>
  intro vs w
  rw[vw] at w
  cases w with
  | cons a b =>
   cases a
   exact .cons _ _ (ih _ b)
theorem ng {l:OpenLaw}{n:Nat}(hn:l.most=some n){P:Params}{h:Heap}{args:List WData}{vals:List uW}
  (hpre:l.row.toRowW.claim.pre args=true) (hwl:WellAll P h vals args) :
  ∃a vs ns,vals=[vq a]/\args=[WData.list (ns.map WData.int)]/\h.get? a=some { cls :=.type "list",data :=.seq vs.toArray }/\xT vs ns/\ns.length<=n:=by
 have hsh:WShape.hasAll [] args [.list .int]=true:=(pre_splitW hpre).1
 have hc:l.pre.holds [] { args:=args }=true:=(pre_splitW hpre).2
 obtain ⟨d,r,rfl,h1,h2⟩:=hasAllW_cons hsh
 obtain rfl:=hasAllW_nil h2
 obtain ⟨xs,rfl,h3⟩:=hasW_list h1
 obtain ⟨ns,rfl⟩:=items_int h3
 have hlen:ns.length<=n:=by
  unfold OpenLaw.pre at hc
  have h4:(WTm.not (.lt (.lit (.int (n:Int))) (.len (.arg 0)))).holds [] { args:=[.list (ns.map .int)] }=true:=by
   have h4:=(holds_andW hc).1
   rw[hn] at h4
   exact h4
  have h5:=condW_of h4 (w_not (w_lt w_lit (w_len_list (w_arg rfl))))
  rw[uT] at h5
  refine BR λq =>?_
  have q':(n:Int)<((ns.length:Nat):Int):=by omega
  first
   | (rw[decide_eq_true q'] at h5;exact absurd h5 (by decide))
   | (simp at h5;omega)
 cases hwl with
 | cons w1 w2 =>
  cases w2
  cases w1 with
  | list ho hall=>exact ⟨_,_,ns,rfl,rfl,ho,gg ns _ hall,hlen⟩
theorem nh (l:OpenLaw)(args:List WData):l.row.toRowW.claim.post args (.bool true) args=true :=
 postW_of (r:=l.row.toRowW) (X:=(true == true))
  (show WShape.has [] (.bool true) .bool=true by first | rfl | decide | simp[WShape.has,WShape.arms,WShape.armsAll])
  (show (WTm.eq .res (.lit (.bool true))).value [] { args:=args,res:=some (.bool true),after:=args }=some (.bool (true == true)) from w_eq_bool (w_res rfl) w_lit) rfl
theorem jV {l:OpenLaw}{n:Nat}{q:vI}{loose:List Str}{XP:(Str->Option uW)->Heap->Prop}{YP:wc->Heap->Prop}{d:DefRec}
  (hn:l.most=some n) (hdf:d.params.defaults=[])
  (call:∀(w:wc) (s₀ s₁:uZ) (mg mb:Str->Option uW) (fa:Addr) (o:Obj) (pm cd doc:uW) (a:Addr) (vs:List uW) (ns:List Int),
   Ground q loose [] XP w s₀ mg mb s₁.heap->YP w s₁.heap →
   s₁.heap.get? fa=some o->o.data = .func (docDef d.name d.params d.body d.scope pm cd doc)->s₁.heap.CodeRec cd d.name->mg d.name=some (.ref fa) →
   s₁.heap.get? a=some { cls :=.type "list",data :=.seq vs.toArray }->xT vs ns->ns.length<=n->s₁.gens = #[] →
   AE (vK l.prog w) callerA (.call (.ref fa) ⟨[.ref a],[]⟩) (λr s'=>r = .ok (.ret (.bool true))/\OldK s₁.heap s'.heap/\s'.os=s₁.os/\AllBare s'.gens) s₁) :
  WalkO q loose XP YP l.row.toRowW d [] (λf vs=>PySem.call f vs):=by
 intro w s₀ s₁ mg mb G Y fa o pm cd doc dV kV ho hd hcd hD hmg hg args vals as hpre hlay hrd hwl hlo
 obtain rfl:dV = .none:=Dflts.none hD hdf
 obtain rfl:kV = .none:=Dflts.noKw hD
 obtain ⟨a,vs,ns,rfl,rfl,hobj,hints,hlen⟩:=ng hn hpre hwl
 refine enter_call (BM (call w s₀ s₁ mg mb fa o pm cd doc a vs ns G Y ho (fd_plain hd) hcd hmg hobj hints hlen hg) λr s' hq =>?_)
 obtain ⟨rfl,h2,h3,h4⟩:=hq
 exact ⟨.inl ⟨.bool true,.bool true,[],rfl,λ_=>rfl,.bool true,nh l _,λ_=>⟨List.Pairwise.nil,λ_ hm=>(nomatch hm)⟩⟩,h2,h3,h4⟩
section
variable  {prog:vI}{w:wc}{A:v7}{E:uW->uZ->Prop}{s:uZ}{K:Frag}
def ledger (h:Heap)(L d:Addr):List (Addr×Obj):=(wF h.objs.size).filterMap λa=>if a=L\/a=d then none else (h.get? a).map λo=>(a,o)
end
end Att
namespace L2
open PySem PySem.Spec PyProof.Rows
theorem iO:∀{vs:List uW} {ns:List Int},xT vs ns->Vals (ns.map V.int) vs
 | _,_,.nil =>.nil
 | _,_,.cons n t h =>.cons ⟨t,rfl⟩ (iO h)
def sF (H:Hp):Prop:=∀b,H b=none\/∃o xs,H b=some (.frz o (.lst xs))
theorem oX {P:vI}{w:wc}{K:u6}{mg mb:Str->Option uW}{CX:CXT}{k:Nat}{fa a:Addr}{fd:wO}{x:Str}{sp:Sp}{s₁:uZ}{vs:List uW}{ns:List Int}
  (KX:K.In s₁.heap) (hns:s₁.heap.Ns v5 mg) (hb:s₁.heap.Ns builtinsNs mb) (hbb:∀x:Str,x ≠ "__name__" -> mb x=we x) (hlim:s₁.heap.NoLimit) (hg:s₁.gens = #[])
  (ha:s₁.heap.get? a=some { cls :=.type "list",data :=.seq vs.toArray }) (hi:xT vs ns) (hl:ns.length<=vm) (hr:cg k callerA)
  (F:∀base:Heap,K.In base->base.Ns v5 mg->bO P w K mg base CX k fa fd [x] sp) (hbind:∀(s:uZ) (u:uW),BindsTo s fd ⟨[u],[]⟩ [(x,u)])
  (hsp:∀H:Hp,sF H->SqL K H a (ns.map V.int)->sp [.ref a] H (λv _=>v = .bl true) λ_ _ _=>False)
  (hCX:∀H e s',CX [] H s₁ (λ_ _ _=>False) e s'->False) :
  AE (vK P w) callerA (.call (.ref fa) ⟨[.ref a],[]⟩) (λr s'=>r = .ok (.ret (.bool true))/\OldK s₁.heap s'.heap/\s'.os=s₁.os/\AllBare s'.gens) s₁:=by
 have rv:=iO hi
 have lenV:=hi.length
 have core:∀H:Hp,sF H->SqL K H a (ns.map V.int)->HOk P w H s₁.heap->(∀b,H b≠none->b=a)->(H a≠none->K.lookup a=none) →
   AE (vK P w) callerA (.call (.ref fa) ⟨[.ref a],[]⟩) (λr s'=>r = .ok (.ret (.bool true))/\OldK s₁.heap s'.heap/\s'.os=s₁.os/\AllBare s'.gens) s₁:=by
  intro H hO hS hok hA hK
  have base_of:∀{b:Addr} {o:Obj},s₁.heap.get? b=some o->H b=none->(ji s₁.heap H).get? b=some o:=λe n=>oF e n
  have noA:∀{b:Addr} {o:Obj} {es:Array DictEntry} {ep:Nat},s₁.heap.get? b=some o->o.data = .dict es ep->H b=none:=λ{b o es ep} e d=>by
   cases q:H b with
   | none=>rfl
   | some u =>
    have e':b=a:=hA b (by rw[q];simp)
    subst e'
    rw[ha] at e;cases e
    have d':Data.seq vs.toArray _=Data.dict es ep:=d
    cases d'
  have nsK:∀{b:Addr} {m:Str->Option uW},s₁.heap.Ns b m->(ji s₁.heap H).Ns b m:=λ{b m} ⟨o,es,ep,e,d,r⟩=>⟨o,es,ep,base_of e (noA e d),d,r⟩
  have hKb:K.In (ji s₁.heap H):=λb o e=>base_of (KX b o e) (by
   cases q:H b with
   | none=>rfl
   | some u =>
    have e':b=a:=hA b (by rw[q];simp)
    subst e'
    rw[hK (by rw[q];simp)] at e;cases e)
  have hM:Mod K mg (ji s₁.heap H):=⟨hKb,nsK hns,⟨mb,nsK hb,hbb⟩,let ⟨mc,h1,h2⟩:=hlim;⟨mc,nsK h1,h2⟩⟩
  have e0:qB P w K mg (ji s₁.heap H) callerA [] s₁ H:=⟨rfl,hM,λb o e=>qv e,Nat.le_of_eq (mQ _ _),trivial,λb hb=>absurd (show b∈([]:List Addr) from hb) (by simp),hok,.of_eq hg⟩
  refine BM ((F _ hKb (nsK hns)).run callerA [] s₁ H ⟨[.ref a],[]⟩ [.ref a] [.ref a] _ _ hr e0 (hbind s₁ (.ref a)) (.cons rfl .nil) (hsp H hO hS)) λr s' h =>?_
  cases r with
  | error e=>exact (hCX H e s' h).elim
  | ok fl =>
   cases fl with
   | next=>exact False.elim h
   | brk=>exact False.elim h
   | cont=>exact False.elim h
   | ret u =>
    obtain ⟨v,H',os,bare,un,hok',r',q⟩:=h
    have q':v = .bl true:=q
    subst q'
    obtain rfl:u=Value.bool true:=r'
    refine ⟨rfl,OldK.of_keep λb o e =>?_,os,bare⟩
    cases q:H b with
    | none=>exact un.keep b o e q (by intro z;exact absurd (show b∈([]:List Addr) from z) (by simp)) (by simp)
    | some u =>
     rcases hO b with z | ⟨ob,xs,z⟩
     ·rw[q] at z;cases z
     ·have z2:=un.frzs b ob _ z
      obtain ⟨e1,_⟩:=hok b _ z
      obtain ⟨e2,_⟩:=hok' b _ z2
      rw[e] at e1;cases e1
      exact e2
 cases hk:K.lookup a with
 | some o =>
  have e:=KX a o hk
  rw[ha] at e
  cases e
  refine core (λ_=>none) (λ_ =>.inl rfl) (.inr ⟨_,vs.toArray,_,hk,rfl,rfl,rfl,by rw[u0,lenV];exact hl,by simpa using rv⟩) (λb u z=>by have z':(none:Option HO)=some u:=z;cases z') (λb z=>absurd rfl z) λz=>absurd rfl z
 | none =>
  refine core (λb=>if b=a then some (.frz { cls :=.type "list",data :=.seq vs.toArray } (.lst (ns.map V.int))) else none) (λb =>?_) (.inl (.inr ⟨{ cls :=.type "list",data :=.seq vs.toArray },if_pos rfl⟩)) (λb u z =>?_) (λb z =>?_) λ_=>hk
  ·by_cases hb:b=a
   ·exact .inr ⟨_,_,if_pos hb⟩
   ·exact .inl (if_neg hb)
  ·by_cases hb:b=a
   ·have z':=(if_pos hb).symm.trans z
    cases z'
    subst hb
    exact ⟨ha,by rw[uT];exact hl,vs,_,rv,ha⟩
   ·have z':=(if_neg hb).symm.trans z
    cases z'
  ·by_cases hb:b=a
   ·exact hb
   ·exact absurd (if_neg hb) z
open PySem PySem.Spec PyProof.Rows
theorem qI {l:PySem.W.OpenLaw}{n k:Nat}{q:vI}{loose:List Str}{XP:(Str->Option uW)->Heap->Prop}{YP:wc->Heap->Prop}{d:DefRec}{K:Params->u6}{CX:wc->CXT}{sp:wc->Sp}{x:Str}
  (hn:l.most=some n) (hn2:n<=vm) (hdf:d.params.defaults=[]) (hr:cg k callerA)
  (hY:∀(w:wc) (h:Heap),YP w h->(K w.params).In h)
  (F:∀(w:wc) (mg:Str->Option uW) (fa:Addr) (h:Heap),(K w.params).In h->h.Ns v5 mg->mg d.name=some (.ref fa) →
   ∃fd:wO,(∀(s:uZ) (u:uW),BindsTo s fd ⟨[u],[]⟩ [(x,u)]) ∧
    ∀base:Heap,(K w.params).In base->base.Ns v5 mg->bO l.prog w (K w.params) mg base (CX w) k fa fd [x] (sp w))
  (hsp:∀(w:wc) (H:Hp) (a:Addr) (ns:List Int),ns.length<=n->sF H->SqL (K w.params) H a (ns.map V.int)->sp w [.ref a] H (λv _=>v = .bl true) λ_ _ _=>False)
  (hCX:∀(w:wc) (H:Hp) (s:uZ) (e:uW) (s':uZ),CX w [] H s (λ_ _ _=>False) e s'->False) :
  PySem.W.WalkO q loose XP YP l.row.toRowW d [] (λf vs=>PySem.call f vs):=by
 refine Att.jV hn hdf λw s₀ s₁ mg mb fa o pm cd doc a vs ns G Y ho hd hcd hmg hobj hints hlen hg =>?_
 have KX:=hY w _ Y
 obtain ⟨fd,hb,hF⟩:=F w mg fa _ KX G.T.g hmg
 exact oX KX G.T.g G.T.b G.T.builtins G.T.nolimit hg hobj hints (vP hlen hn2) hr hF hb (λH hO hS=>hsp w H a ns hlen hO hS) λH e s'=>hCX w H s₁ e s'
open PySem PySem.Spec PyProof.Rows
def cC (s:Stmt):Arguments:=match s with
 | .FunctionDef _ a _ _ _ _ _ _ _ _=>a
 | _=>{ posonlyargs:=[],args:=[],vararg:=none,kwonlyargs:=[],kw_defaults:=[],kwarg:=none,defaults:=[] }
def bX (s:Stmt):List Stmt:=match s with
 | .FunctionDef _ _ b _ _ _ _ _ _ _=>b
 | _=>[]
def ao (s:Stmt):Scope:=match s with
 | .FunctionDef _ _ _ _ _ _ sc _ _ _=>sc
 | _=>{ kind :=.function,names:=[],isGenerator:=false,isCoroutine:=false }
abbrev CX0:CXT:=λ_ _ _ _ _ _=>False
abbrev E0:XK:=λ_ _ _=>False
theorem uz {X:Cx}:Passes CX0 X E0:=λ_ _ _ _ _ _ _ h=>h.elim
structure Fun (K:u6)(x qual:Str)(st:Stmt)(f:Addr)(fd:wO):Prop where
 ex:∃(oc:uW) (od:Option Addr) (kV doc pm:uW) (an:Option Addr) (cdv ct:uW) (osl:Array (Option uW)),
  fd=PySem.W.fnOf x qual (cC st) (bX st) (ao st) .none kV doc pm an cdv ct/\K.lookup f=some ⟨oc,od,.func fd,osl⟩/\PySem.W.codeIn K cdv qual=true
 kp:PySem.W.keepIn K (.ref f)=true
section
variable  {P:vI}{w:wc}{K:u6}{mg:Str->Option uW}{base:Heap}
theorem Fun.ok {x qual:Str}{st:Stmt}{f:Addr}{fd:wO}{N ps:List Str}{k:Nat}{sp:Sp}(F:Fun K x qual st f fd)(S:aR N ps (ao st))(len:∀vs H Q E,sp vs H Q E->vs.length=ps.length)
  (hbody:∀(cdv:uW) (A:v7) (outer:List Env) (s:uZ) (H:Hp) (vs:List V) (Q:VK) (E:XK),cg k (A.deeper (envOfC qual (ao st) s.heap.objs.size f cdv))->sp vs H Q E →
   ∃t,PSs (fM CX0 P w K mg base N qual (ao st) f cdv A outer s H E).nox (bX st) t/\t { nx:=λ_ H'=>Q .non H',rt:=Q } (start N vs) H):bO P w K mg base CX0 (k+1) f fd ps sp:=by
 obtain ⟨oc,od,kV,doc,pm,an,cdv,ct,osl,rfl,lk,hcd⟩:=F.ex
 refine uj lk hcd S len λA outer s H vs Q E hr hsp =>?_
 obtain ⟨t,h,q⟩:=hbody cdv A outer s H vs Q E hr hsp
 exact ⟨t,h.nox,q⟩
theorem Fun.binds {x qual:Str}{st:Stmt}{f:Addr}{fd:wO}{ps:List Str}(F:Fun K x qual st f fd)
  (h:∀(kV doc pm:uW) (an:Option Addr) (cdv ct:uW) (us:List uW),us.length=ps.length->bindArgs (PySem.W.fnOf x qual (cC st) (bX st) (ao st) .none kV doc pm an cdv ct) ⟨us,[]⟩=pure (ps.zip us)):Binds K fd ps []:=by
 obtain ⟨oc,od,kV,doc,pm,an,cdv,ct,osl,rfl,lk,hcd⟩:=F.ex
 exact .all (h kV doc pm an cdv ct)
theorem oY {x qual:Str}{st:Stmt}{f:Addr}{oc:uW}{od an:Option Addr}{osl:Array (Option uW)}{kV doc pm cdv ct:uW}(l:K.lookup f=some ⟨oc,od,.func (PySem.W.fnOf x qual (cC st) (bX st) (ao st) .none kV doc pm an cdv ct),osl⟩)
  (c:PySem.W.codeIn K cdv qual=true) (k:PySem.W.keepIn K (.ref f)=true):Fun K x qual st f (PySem.W.fnOf x qual (cC st) (bX st) (ao st) .none kV doc pm an cdv ct):=⟨⟨oc,od,kV,doc,pm,an,cdv,ct,osl,rfl,l,c⟩,k⟩
end
theorem iP {A:v7}{k:Nat}(hr:cg k A):A.units+1<cLine:=wI (yU (by decide:1<=64) _) hr.units
theorem bM {n:Nat}(h:n<=1000):n<vm:=wI h (by decide)
section
variable  {X:Cx}
theorem pv (i:Nat){x:Str}{pos:Pos}(hN:X.N[i]? = some x:=by rfl)(hv:Vis X.env.scope x:=by first | exact Or.inl rfl | exact Or.inr (Or.inl rfl) | exact Or.inr (Or.inr rfl))(hd:(x == ("__debug__" : Str))=false:=by decide)
  (hcd:(x == ("__classdict__" : Str))=false:=by decide):PE X (.Name x pos) (tU i):=r9 hN hv hd hcd
end
theorem ni {A B:Prop}(h:B):if false=true then A else B:=by
 rw[if_neg vp]
 exact h
theorem gh {A B:Prop}(h:A):if true=true then A else B:=by
 rw[if_pos rfl]
 exact h
theorem bz {c A B:Prop}[Decidable c](h1:c->A)(h2:¬ c->B):if c then A else B:=by
 by_cases h:c
 ·rw[if_pos h]
  exact h1 h
 ·rw[if_neg h]
  exact h2 h
def aD (H H':Hp):Prop:=∀b o,H b=some o->H' b=some o
theorem aD.refl (H:Hp):aD H H:=λ_ _ h=>h
theorem aD.trans {H H1 H2:Hp}(a:aD H H1)(b:aD H1 H2):aD H H2:=λc o h=>b c o (a c o h)
theorem aD.free {H H':Hp}(e:aD H H'){l:Addr}(h:H' l=Option.none):H l=Option.none:=by
 cases q:H l with
 | none=>rfl
 | some o =>
  rw[e l o q] at h
  cases h
theorem aD.seq {K:u6}{H H':Hp}{a:Addr}{xs:List V}(e:aD H H')(h:SqL K H a xs):SqL K H' a xs:=by
 rcases h with (h | ⟨o,h⟩) | h
 ·exact .inl (.inl (e _ _ h))
 ·exact .inl (.inr ⟨o,e _ _ h⟩)
 ·exact .inr h
end L2
set_option maxHeartbeats 4000000
namespace L2
open PySem PySem.Spec PyProof.Rows
def jW (on:List (Str×NameKind))(N:List Str)(sc:Scope)(N':List Str)(ix:List (Option Nat)):Bool :=
 decide (sc.kind = .function) &&
 sc.names.all (λy=>match y.2 with
  | .local=>decide (sc.names.lookup y.1=some .local)
  | .cell=>false
  | .free=>decide (on.lookup y.1=some .cell) || decide (on.lookup y.1=some .free)
  | _=>true) &&
 decide (ix.length=N'.length) &&
 (ix.zip N').all (λp=>match p.1 with
  | none=>true
  | some j=>decide (N[j]? = some p.2) && decide (sc.names.lookup p.2=some .free))
theorem fY {ns:List (Str×NameKind)}{y:Str}{k:NameKind}(h:ns.lookup y=some k):(y,k)∈ns:=xP h
structure gI (on:List (Str×NameKind))(N:List Str)(sc:Scope)(N':List Str)(ix:List (Option Nat)):Prop where
 kind:sc.kind = .function
 locs:∀y∈sc.names,y.2 = .local->sc.names.lookup y.1=some .local
 nocell:∀y∈sc.names,y.2 ≠ .cell
 frees:∀y∈sc.names,y.2 = .free->on.lookup y.1=some .cell\/on.lookup y.1=some .free
 len:ix.length=N'.length
 slot:∀(i j:Nat) (y:Str),ix[i]? = some (some j)->N'[i]? = some y->N[j]? = some y/\sc.names.lookup y=some .free
theorem gI.of {on:List (Str×NameKind)}{N:List Str}{sc:Scope}{N':List Str}{ix:List (Option Nat)}(h:jW on N sc N' ix=true):gI on N sc N' ix:=by
 unfold jW at h
 rw[wN,wN,wN] at h
 obtain ⟨⟨⟨h1,h2⟩,h3⟩,h4⟩:=h
 rw[xX] at h2 h4
 refine ⟨of_decide_eq_true h1,λy hy e =>?_,λy hy e =>?_,λy hy e =>?_,of_decide_eq_true h3,λi j y e1 e2 =>?_⟩
 ·have q:=h2 y hy
  rw[e] at q
  exact of_decide_eq_true q
 ·have q:=h2 y hy
  rw[e] at q
  cases q
 ·have q:=h2 y hy
  rw[e] at q
  exact ((Bool.or_eq_true _ _).mp q).imp of_decide_eq_true of_decide_eq_true
 ·have q:=h4 (some j,y) (vf (i:=i) (by rw[xf];exact ⟨e1,e2⟩))
  dsimp only at q
  rw[wN] at q
  exact ⟨of_decide_eq_true q.1,of_decide_eq_true q.2⟩
theorem fZ {α β:Type}(f:α -> β -> β)(b:α -> β -> Sem (ForInStep β)):∀(l:List α) (c:β),(∀x∈l,∀d,b x d=pure (.yield (f x d)))->forIn l c b=pure (l.foldl (λd x=>f x d) c)
 | [],c,_=>rfl
 | x :: l,c,h=>by
  rw[AV,h x vC,pure_bind]
  exact fZ f b l (f x c) λy hy=>h y (vG _ hy)
def aG (env:Env)(l:List (Str×NameKind))(c:List (Str×Addr)):List (Str×Addr) :=
 l.foldl (λd y=>if y.2 = .free then (y.1,(env.cells.lookup y.1).getD 0) :: d else d) c
theorem kY {sc:Scope}{env:Env}(h:∀y∈sc.names,y.2 = .free->∃c,env.cells.lookup y.1=some c):closureFor sc env=pure (aG env sc.names []):=by
 simp only[closureFor]
 unfold aG
 rw[fZ (λy d=>if y.2 = .free then (y.1,(env.cells.lookup y.1).getD 0) :: d else d)]
 ·rfl
 ·rintro ⟨n,k⟩ hy d
  by_cases hk:k = .free
  ·subst hk
   obtain ⟨c,e⟩:=h _ hy rfl
   have e':env.cells.lookup n=some c:=e
   simp only[beq_self_eq_true,if_true,cellOf,e',Option.getD_some]
   rfl
  ·have hb:(k == NameKind.free)=false:=by simpa using hk
   simp only[hb,w6,if_false,hk]
theorem cq {env:Env}{y:Str}{c:Addr}:∀(l:List (Str×NameKind)) (d:List (Str×Addr)),(∀z∈l,z.2 = .free->∃c,env.cells.lookup z.1=some c)->(aG env l d).lookup y=some c →
  d.lookup y=some c\/env.cells.lookup y=some c
 | [],d,_,h =>.inl h
 | (n,k) :: l,d,hf,h=>by
  have h':(aG env l (if k = .free then (n,(env.cells.lookup n).getD 0) :: d else d)).lookup y=some c:=h
  have ih:=cq l _ (λz hz=>hf z (vG _ hz)) h'
  by_cases hk:k = .free
  ·subst hk
   rw[if_pos rfl] at ih
   rcases ih with q | q
   ·rw[wk] at q
    cases hx:(y == n) with
    | true =>
     rw[hx] at q
     obtain ⟨c',e⟩:=hf (n,.free) vC rfl
     have e':env.cells.lookup n=some c':=e
     have q':some ((env.cells.lookup n).getD 0)=some c:=q
     rw[e'] at q'
     have en:y=n:=eq_of_beq hx
     rw[en,e']
     exact .inr q'
    | false =>
     rw[hx] at q
     exact .inl q
   ·exact .inr q
  ·rw[if_neg hk] at ih
   exact ih
theorem cZ {env:Env}{y:Str}:∀(l:List (Str×NameKind)) (d:List (Str×Addr)),((y,NameKind.free)∈l\/∃c,d.lookup y=some c)->∃c,(aG env l d).lookup y=some c
 | [],d,h=>by
  rcases h with h | h
  ·cases h
  ·exact h
 | (n,k) :: l,d,h=>by
  show ∃c,(aG env l (if k = .free then (n,(env.cells.lookup n).getD 0) :: d else d)).lookup y=some c
  refine cZ l _ ?_
  have old:(∃c,d.lookup y=some c)->∃c,(if k = .free then (n,(env.cells.lookup n).getD 0) :: d else d).lookup y=some c:=λ⟨c,e⟩=>by
   by_cases hk:k = .free
   ·rw[if_pos hk,wk]
    cases hx:(y == n) with
    | true=>exact ⟨_,rfl⟩
    | false=>exact ⟨c,e⟩
   ·rw[if_neg hk];exact ⟨c,e⟩
  rcases h with h | h
  ·rcases vM.mp h with q | q
   ·cases q
    rw[if_pos rfl,wk,beq_self_eq_true]
    exact .inr ⟨_,rfl⟩
   ·exact .inl q
  ·exact .inr (old h)
theorem gJ {c:Str->NameKind->Bool}{y:Str}:∀l:List (Str×NameKind),(l.map λz=>if c z.1 z.2=true then (z.1,NameKind.cell) else (z.1,z.2)).lookup y=(l.lookup y).map λk=>if c y k=true then NameKind.cell else k
 | []=>rfl
 | (n,k) :: l=>by
  have ih:=gJ (c:=c) (y:=y) l
  rw[vw]
  have e:(if c n k=true then (n,NameKind.cell) else (n,k))=(n,if c n k=true then NameKind.cell else k):=by split <;> rfl
  show List.lookup y ((if c n k=true then (n,NameKind.cell) else (n,k)) :: _)=_
  rw[e,wk,wk]
  cases hx:(y == n) with
  | true =>
   have en:y=n:=eq_of_beq hx
   subst en
   rfl
  | false=>exact ih
def blk (X:Cx)(sc:Scope)(cl:List (Str×Addr))(C:Addr)(N':List Str)(s:uZ)(H:Hp)(fp:List Addr):Cx :=
 { X with N:=N',s₀:=s,H₀:=H,env:=compEnvC sc cl C X.env,outer:=X.stack,ex:=fp,fn:=λ_=>false,pn:=[],xe:=λ_ _=>False }
def PF (X:Cx)(ifs:List Expr)(t:TT):Prop :=
  ∀(pins:List (Addr×Obj)) (s:uZ) (σ:St) (H:Hp) (Q:Bool->Hp->Prop),Inv X pins σ H s->t σ H Q →
    vJ (vK X.prog X.w) X.A (forIn ifs true λc r=>if r=true then do let ok ← isTrue c X.env (eval c X.env);pure (ForInStep.yield ok) else pure (ForInStep.yield r)) (TP X pins σ Q) X.xe s
theorem cx {X:Cx}:PF X [] (λ_ H Q=>Q true H):=λ_ _ _ H _ I h=>wpAny_tests_nil ⟨H,I,h⟩
theorem kZ {X:Cx}{c:Expr}{t:TT}(h:PT X c t):PF X [c] t:=λpins s σ H Q I q=>wpAny_tests_one (h pins s σ H Q I q)
def inner (ix:List (Option Nat))(σ:St):St:=ix.map λo=>match o with | none=>none | some j=>(σ[j]?).join
def f6 (J:It)(g:TG)(tc:TT)(te:TE)(τ:St)(Q:VK)(H1:Hp):Prop:=∃W:Nat->Nat->St->List V->Hp->Prop,(∃m,W 0 m τ [] H1)/\∀i m τ ys H,W i m τ ys H →
 (J.stop i H/\ys.length<=vm/\∀l,H l=none->Q (.ref l) (upd H l (.lst ys))) ∨
 (J.go i H/\∀x H',J.yld i H x H'->g x τ H' λτ2 H2=>tc τ2 H2 λb H3=>if b=true then te τ2 H3 λy H4=>ys.length<vm/\∃m',m'<m/\W (i+1) m' τ2 (ys++[y]) H4 else ∃m',m'<m/\W (i+1) m' τ2 ys H3)
def oZ (ix:List (Option Nat))(wi:TI)(g:TG)(tc:TT)(te:TE):TE:=λσ H Q=>wi σ H λJ H1=>f6 J g tc te (inner ix σ) Q H1
section
variable  {X:Cx}{sc:Scope}{N':List Str}{ix:List (Option Nat)}{pins:List (Addr×Obj)}{σ:St}{H:Hp}{s:uZ}
theorem sH (I:Inv X pins σ H s)(K:gI X.env.scope.names X.N sc N' ix){C:Addr}{fp:List Addr}(hC:s.heap.objs.size<=C)(f:∀b∈fp,fJ X pins H b)(fl:∀b∈fp,b<s.heap.objs.size) :
  (blk X sc (aG X.env sc.names []) C N' s H fp).Ok:=by
 have hcl:∀y∈sc.names,y.2 = .free->∃c,X.env.cells.lookup y.1=some c:=λy hy e=>I.ok.has y.1 (K.frees y hy e)
 have up:∀y c,(aG X.env sc.names []).lookup y=some c->X.env.cells.lookup y=some c:=λy c e=>by
  rcases cq sc.names [] hcl e with q | q
  ·cases q
  ·exact q
 have nfs:∀b∈fp,b∉frs X.stack:=λb hb z=>by
  rcases vM.mp (I.jj b z) with q | q
  ·exact (f b hb).2.1 q
  ·exact (f b hb).2.2.1 q
 refine ⟨I.ok.mod,K.kind,I.ok.glob,I.ok.blt,hC,λy z c h1 h2=>I.ok.inj y z c (up _ _ h1) (up _ _ h2),λy hy =>?_,(λy c h=>nomatch h),I.ok.hd,I.ok.frames,.inl rfl,λb hb =>?_,λb o e=>I.bs b o e,vP I.ok.bsz I.sz,λb o e hb =>?_,nfs,I.stack,I.lP⟩
 ·have hy':(relabel sc X.env).names.lookup y=some .cell\/(relabel sc X.env).names.lookup y=some .free:=hy
  have em:=gJ (c:=λn k=>k == .free && X.env.scope.kind == .function && X.env.kindOf n == some .cell) (y:=y) sc.names
  have em':(relabel sc X.env).names.lookup y=_:=em
  rw[em'] at hy'
  cases hq:sc.names.lookup y with
  | none=>rw[hq] at hy';rcases hy' with q | q <;> cases q
  | some k =>
   have km:=fY hq
   have hk:k = .free:=by
    rw[hq] at hy'
    simp only[AW,Option.some.injEq] at hy'
    by_cases hc:(k == .free && X.env.scope.kind == .function && X.env.kindOf y == some .cell)=true
    ·rw[wN,wN] at hc
     exact by simpa using hc.1.1
    ·rw[if_neg hc] at hy'
     rcases hy' with q | q
     ·exact absurd q (K.nocell _ km)
     ·exact q
   subst hk
   exact cZ sc.names [] (.inl km)
 ·exact ⟨vH (vF (fl b hb) hC),λy c e=>(f b hb).2.2.2.2.1 y c (up y c e)⟩
 ·rcases (f b hb).2.2.2.1 with q | q
  ·exact I.ok.noex b o e q
  ·exact absurd (vF (vh e) (vP I.ok.bsz q)) (wX _)
theorem qJ (I:Inv X pins σ H s)(K:gI X.env.scope.names X.N sc N' ix){C:Addr}{fp:List Addr}(hC:s.heap.objs.size<=C)(f:∀b∈fp,fJ X pins H b)(fl:∀b∈fp,b<s.heap.objs.size)
  {h1:Heap} {t:Nat} {m:Str->Option uW} (k:∀b o,s.heap.get? b=some o->h1.get? b=some o) (ns:h1.Ns C m) :
  Inv (blk X sc (aG X.env sc.names []) C N' s H fp) [] (inner ix σ) H { s with heap:=h1,toks:=t }:=by
 have hcl:∀y∈sc.names,y.2 = .free->∃c,X.env.cells.lookup y.1=some c:=λy hy e=>I.ok.has y.1 (K.frees y hy e)
 have up:∀y c,(aG X.env sc.names []).lookup y=some c->X.env.cells.lookup y=some c:=λy c e=>by
  rcases cq sc.names [] hcl e with q | q
  ·cases q
  ·exact q
 refine ⟨sH I K hC f fl,rfl,I.bare,Un.kept k,⟨m,ns,λi y v e1 e2 e3 =>?_⟩,λy c e =>?_,I.hok.fresh hC,λy c e=>I.freeC y c (up y c e),(λp hp=>nomatch hp),I.hok.kept k,?_⟩
 ·have e2':(ix.map λo=>match o with | none=>none | some j=>(σ[j]?).join)[i]? = some (some v):=e2
  rw[vi] at e2'
  cases hi:ix[i]? with
  | none=>rw[hi] at e2';cases e2'
  | some o =>
   cases o with
   | none=>rw[hi] at e2';cases e2'
   | some j =>
    rw[hi] at e2'
    have e4:(σ[j]?).join=some v:=vR e2'
    have e5:σ[j]? = some (some v):=by
     cases hj:σ[j]? with
     | none=>rw[hj] at e4;cases e4
     | some z=>rw[hj] at e4;rw[show z=some v from e4]
    obtain ⟨n1,n2⟩:=K.slot i j y hi e1
    have mem:=fY n2
    have kc:X.env.kindOf y=some .cell\/X.env.kindOf y=some .free:=K.frees _ mem rfl
    obtain ⟨m',_,hl⟩:=I.loc
    obtain ⟨u,r,l⟩:=hl j y v n1 e5 (.inr kc)
    refine ⟨u,r,?_⟩
    rcases l with ⟨q,_⟩ | ⟨_,c,q,z⟩
    ·rcases kc with kc | kc <;> (rw[kc] at q;cases q)
    ·obtain ⟨c',hc'⟩:=cZ (env:=X.env) (y:=y) sc.names [] (.inl mem)
     have:=up y c' hc'
     rw[q] at this
     cases this
     refine .inr ⟨?_,c,hc',z.keeps k⟩
     have em:=gJ (c:=λn k=>k == .free && X.env.scope.kind == .function && X.env.kindOf n == some .cell) (y:=y) sc.names
     have em':(relabel sc X.env).names.lookup y=_:=em
     rcases kc with kc | kc
     ·left
      show (relabel sc X.env).names.lookup y=some .cell
      rw[em',n2]
      simp only[AW,kc,I.ok.kind]
      rfl
     ·right
      show (relabel sc X.env).names.lookup y=some .free
      rw[em',n2]
      simp only[AW,kc,I.ok.kind]
      rfl
 ·obtain ⟨v,z⟩:=I.cell y c (up y c e)
  exact ⟨v,z.keeps k⟩
 ·show (ix.map _).length=N'.length
  rw[uT]
  exact K.len
end
open PySem PySem.Spec PyProof.Rows
theorem k4 {prog:vI}{w:wc}{A:v7}{R:Result->uZ->Prop}{s:uZ}{elt target iter:Expr}{ifs:List Expr}{sc:Scope}{pos:Pos}{it acc:uW}{env:Env}(J:Nat->uZ->Prop)
    (turn:∀n s,J n s->vJ (vK prog w) A (pyNext it) (λr s1=>match r with
      | none=>R (.ok .next) s1
      | some v=>vJ (vK prog w) A (letOwnedTupleGo target it v) (λ_ s2=>vJ (vK prog w) A (assign target env v) (λ_ s3 =>
          vJ (vK prog w) A (forIn ifs true λc r=>if r=true then do let ok ← isTrue c env (eval c env);pure (ForInStep.yield ok) else pure (ForInStep.yield r)) (λok s4 =>
            if ok=true then vJ (vK prog w) A (eval elt env) (λx s5=>vJ (vK prog w) A (call (.builtin "list.append") [acc,x]) (λ_ s6=>∃m,m<n/\J m s6) (λ_ _=>False) s5) (λ_ _=>False) s4
            else ∃m,m<n/\J m s4) (λ_ _=>False) s3) (λ_ _=>False) s2) (λ_ _=>False) s1) (λ_ _=>False) s)
    (n:Nat) (h:J n s):AE (vK prog w) A (.compLoop (.ListComp elt [⟨target,iter,ifs,0⟩] sc pos) 0 it acc env) R s:=by
  refine codeAny_loop rfl J (λk t q =>?_) n h
  show vJ _ A (Sem.onRaise (compTurn (.ListComp elt [⟨target,iter,ifs,0⟩] sc pos) 0 it acc env) (λx=>do noteFrame x env;theTreesLotGoes x)) _ _ t
  refine wpAny_noted ?_
  rw[compTurn_list]
  have no:∀{E:uW->uZ->Prop} (x:uW) (t:uZ),False->E x t:=λ_ _ z=>z.elim
  refine uU (AA (uU (xG (turn k t q) (λr s1 h1 =>?_) no)))
  cases r with
  | none=>exact vg h1
  | some v =>
    refine uU (xG h1 (λ_ s2 h2=>uU (xG h2 (λ_ s3 h3=>uU (xG h3 (λok s4 h4 =>?_) no)) no)) no)
    cases ok with
    | false=>exact vg ⟨rfl,h4⟩
    | true=>exact uU (uU (xG h4 (λx s5 h5=>uU (xG h5 (λ_ s6 h6=>vg (vg ⟨rfl,h6⟩)) no)) no))
section
variable  {X:Cx}
def qK (X:Cx)(pins:List (Addr×Obj))(σ:St)(Q:VK)(use:Option (uW->Sem Unit))(Q2:uW->uZ->Prop):Prop :=
 ∀(s4:uZ) (H3:Hp) (acc C:Addr) (ys:List V) (oC:Obj),Inv X (pins++[(C,oC)]) σ (upd H3 acc (.lst ys)) s4->(∃m,s4.heap.Ns C m)->X.s₀.heap.objs.size<=C->(∀x c,X.env.cells.lookup x=some c->c≠C)->(∀p∈X.pn++pins,p.1≠C)->Q (.ref acc) (upd H3 acc (.lst ys)) →
  compPost (vK X.prog X.w) X.A X.xe use Q2 (.ref acc) C (.ok .next) s4
theorem iQ {elt target iter:Expr}{ifs:List Expr}{sc:Scope}{pos ps:Pos}{wi:TI}{g:TG}{tc:TT}{te:TE}{N':List Str}{ix:List (Option Nat)}{use:Option (uW->Sem Unit)}{Q2:uW->uZ->Prop}
  {pins:List (Addr×Obj)} {s:uZ} {σ:St} {H:Hp} {Q:VK}
  (hcalm:X.calm=true) (hi:PI X target iter wi) (hk:jW X.env.scope.names X.N sc N' ix=true)
  (hg:∀cl C s H fp,PG (blk X sc cl C N' s H fp) target g) (hc:∀cl C s H fp,PF (blk X sc cl C N' s H fp) ifs tc) (he:∀cl C s H fp,PE (blk X sc cl C N' s H fp) elt te)
  (hs:∀x,foldedSetIterable iter X.env x=pure x) (fin:qK X pins σ Q use Q2) (I:Inv X pins σ H s) (h:oZ ix wi g tc te σ H Q) :
  vJ (vK X.prog X.w) X.A (comprehension (.ListComp elt [⟨target,iter,ifs,0⟩] sc pos) sc X.env ps (newList []) false (eval iter X.env) use) Q2 X.xe s:=by
 have K:=gI.of hk
 have hcl:∀y∈sc.names,y.2 = .free->∃c,X.env.cells.lookup y.1=some c:=λy hy e=>I.ok.has y.1 (K.frees y hy e)
 refine wpAny_comprehension_free rfl hs (kY hcl) K.kind K.locs (thn (hi pins s σ H _ I h) λv s1 h1=>thn h1 λitv s2 h2 =>?_)
 obtain ⟨it,fp,tn,J,H2,e,I2,T,st2,f2,W,⟨m0,w0⟩,turn⟩:=h2
 subst e
 refine wU (wpAny_newFunctionEnv K.nocell (by intro y hy;simp at hy) (λh1 ns1 sb1 =>?_) K.kind)
 dsimp only at ns1 sb1 ⊢
 generalize hP:s2.heap.push { cls :=.type "list",dict:=none,data :=.seq ([]:List uW).toArray }=G at ns1 sb1 ⊢
 have sG:G.objs.size=s2.heap.objs.size+1:=by rw[<- hP,yM]
 have fl:∀b∈fp,b<s2.heap.objs.size:=λb hb=>by
  obtain ⟨o,e,_⟩:=T.obj _ _ st2 b hb
  exact vh e
 have hC:s2.heap.objs.size<=G.objs.size:=by rw[sG];exact Nat.le_succ _
 have aC:s2.heap.objs.size≠G.objs.size:=by rw[sG];exact vH (BS _)
 have old:∀b o,s2.heap.get? b=some o->h1.get? b=some o:=λb o e=>by
  have lt:=vh e
  have ne:b≠G.objs.size:=vH (vF lt hC)
  rw[sb1.2 b ne]
  exact uV _ (hP ▸ uV _ e)
 have accO:h1.PlainList s2.heap.objs.size #[]:=⟨_,by
  rw[sb1.2 _ aC]
  exact uV _ (hP ▸ ve _ rfl)⟩
 have IB:=qJ (t:=s2.toks+([]:List (Str×uW)).length) I2 K hC f2 fl old ns1
 have up:∀y c,(aG X.env sc.names []).lookup y=some c->X.env.cells.lookup y=some c:=λy c e=>by
  rcases cq sc.names [] hcl e with q | q
  ·cases q
  ·exact q
 have accNotCell:∀y c,(aG X.env sc.names []).lookup y=some c->c≠s2.heap.objs.size:=λy c e z=>by
  obtain ⟨v,q⟩:=I2.cell y c (up y c e)
  exact absurd q.lt (by rw[z];exact wX _)
 have accFs:s2.heap.objs.size∉frs X.stack:=λz=>by
  rcases vM.mp (I2.jj _ z) with q | q
  ·exact absurd I2.lt (by rw[<- q];exact wX _)
  ·exact I2.r6 (va _) q
 have accFp:s2.heap.objs.size∉fp:=λz=>absurd (fl _ z) (wX _)
 have stat:∀{H':Hp} {ob:Obj},(∀b∈fp,H' b=none)->∀b∈fp,fJ (blk X sc (aG X.env sc.names []) G.objs.size N' s2 H2 fp) [(s2.heap.objs.size,ob)] H' b:=λ{H' ob} hn b hb=>by
  refine ⟨hn b hb,vH (vF (fl b hb) hC),IB.ok.exfs b hb,.inl hb,λy c e=>(f2 b hb).2.2.2.2.1 y c (up y c e),λp hp z =>?_⟩
  have ep:p=(s2.heap.objs.size,ob):=by simpa [blk] using hp
  subst ep
  exact accFp (by rw[show s2.heap.objs.size=b from z];exact hb)
 have accPin:∀{pl:List (Addr×Obj)} {σ':St} {H':Hp} {s':uZ} {its:Array uW} {n:Nat},Inv (blk X sc (aG X.env sc.names []) G.objs.size N' s2 H2 fp) pl σ' H' s'->s'.heap.get? s2.heap.objs.size=some { cls :=.type "list",data :=.seq its n } →
   H' s2.heap.objs.size=none->Inv (blk X sc (aG X.env sc.names []) G.objs.size N' s2 H2 fp) [(s2.heap.objs.size,{ cls :=.type "list",data :=.seq its n })] σ' H' s':=λ{pl σ' H' s' its n} J' e nn=>J'.eR λp hp=>by
  have ep:p=(s2.heap.objs.size,({ cls :=.type "list",data :=.seq its n }:Obj)):=by simpa [blk] using hp
  subst ep
  exact ⟨e,nn,aC,accFs,λv z=>nomatch z⟩
 have loop:AE (vK X.prog X.w) X.A (.compLoop (.ListComp elt [⟨target,iter,ifs,0⟩] sc pos) 0 (.ref it) (.ref s2.heap.objs.size) (compEnvC sc (aG X.env sc.names []) G.objs.size X.env))
   (compPost (vK X.prog X.w) X.A X.xe use Q2 (.ref s2.heap.objs.size) G.objs.size) { s2 with heap:=h1,toks:=s2.toks+([]:List (Str×uW)).length }:=by
  refine k4 (λn s'=>∃i ys its nn σ' H',Inv (blk X sc (aG X.env sc.names []) G.objs.size N' s2 H2 fp) [(s2.heap.objs.size,{ cls :=.type "list",data :=.seq its nn })] σ' H' s'/\Vals ys its.toList/\tn i s'.heap/\(∀b∈fp,H' b=none)/\W i n σ' ys H')
   (λn s3 h3 =>?_) m0 ?_
  ·obtain ⟨i,ys,its,nn,σ3,H3,I3,r3,st3,fr3,w3⟩:=h3
   obtain ⟨e3,a3,_,_,_⟩:=I3.pin (s2.heap.objs.size,{ cls :=.type "list",data :=.seq its nn }) (by simp[blk])
   rcases turn i n σ3 ys H3 w3 with ⟨stop,zl,q3⟩ | ⟨go,step⟩
   ·refine thn (T.done (blk X sc (aG X.env sc.names []) G.objs.size N' s2 H2 fp) rfl rfl rfl hcalm i _ s3 σ3 H3 _ I3 (stat fr3) st3 stop) λr s4 ⟨hr,I4⟩ =>?_
    subst hr
    obtain ⟨e4,a4,_,_,_⟩:=I4.pin (s2.heap.objs.size,{ cls :=.type "list",data :=.seq its nn }) (by simp[blk])
    obtain ⟨m4,n4,_⟩:=I4.loc
    obtain ⟨oC,es4,ep4,c4,d4,r4⟩:=id n4
    have ltA:∀b o,s2.heap.get? b=some o->b≠s2.heap.objs.size:=λb o e=>vH (vh e)
    have B:=I4.base
    have hok:HOk X.prog X.w (upd H3 s2.heap.objs.size (.lst ys)) s4.heap:=λb o e=>by
     by_cases hb:b=s2.heap.objs.size
     ·subst hb
      rw[af] at e
      cases e
      exact ⟨zl,its.toList,nn,r3,e4⟩
     ·rw[ax hb] at e
      refine (I4.hok b o e).stay (λc u hc q=>q) (λc q =>?_) (λc xs q =>?_)
      ·rw[ax (ak q a4)];exact q
      ·rw[ax (ak q a4)];exact q
    have I5:Inv X pins σ (upd H3 s2.heap.objs.size (.lst ys)) s4:=by
     refine I2.tT (ch:=fp) I4.os ⟨λb o e n hb hx=>B.keep b o e n hb hx,λb o e n hb hx=>B.slot b o e n hb hx,λb o e n hx =>?_,λb o e hx=>B.there b o e hx,λb xs e =>?_,λb o u e =>?_,λb ps e =>?_⟩ hok I4.bare (λb hb =>?_)
     ·rw[ax (ltA b o e)];exact B.free b o e n hx
     ·have q:=B.tups b xs e
      rw[ax (ak q a4)];exact q
     ·have q:=B.frzs b o u e
      rw[ax (ak q a4)];exact q
     ·obtain ⟨more,q⟩:=B.tbls b ps e
      exact ⟨more,by rw[ax (ak q a4)];exact q⟩
     ·obtain ⟨g0,g1,g2,g3,g4,g5⟩:=f2 b hb
      exact ⟨g3,g1,g4,g5⟩
    have cL:G.objs.size≠X.env.locals:=xw (vF I2.lt hC)
    have I6:Inv X (pins++[(G.objs.size,oC)]) σ (upd H3 s2.heap.objs.size (.lst ys)) s4:=I5.eR λp hp=>by
     rcases vx.mp hp with q | q
     ·exact I5.pin p (vN _ q)
     ·have ep:p=(G.objs.size,oC):=by simpa using q
      subst ep
      exact ⟨c4,by rw[ax (xi aC)];exact I4.free,cL,I2.r6 hC,λv z=>by rw[d4] at z;cases z⟩
    refine fin s4 H3 s2.heap.objs.size G.objs.size ys oC I6 ⟨m4,n4⟩ (vP I2.sz hC) (λy c e z =>?_) (λp hp z =>?_) (q3 _ a4)
    ·obtain ⟨v,q⟩:=I2.cell y c e
     exact absurd (vF q.lt hC) (by rw[z];exact wX _)
    ·exact absurd (vF (vh (I2.pin p hp).1) hC) (by rw[z];exact wX _)
   ·refine thn (T.item (blk X sc (aG X.env sc.names []) G.objs.size N' s2 H2 fp) rfl rfl rfl hcalm i _ s3 σ3 H3 _ I3 (stat fr3) st3 go) λr s4 ⟨u,hr,h4⟩ =>?_
    subst hr
    refine thn h4 λ_ s5 ⟨x,H5,I5,r5,y5,st5,fr5⟩ =>?_
    have I5':=I5.pinned (stat fr5) (T.obj _ _ st5)
    refine thn (hg _ _ _ _ _ _ s5 σ3 H5 x u _ I5' r5 (step x H5 y5)) λ_ s6 ⟨σ6,H6,I6,q6⟩ =>?_
    refine thn (hc _ _ _ _ _ _ s6 σ6 H6 _ I6 q6) λok s7 ⟨H7,I7,q7⟩ =>?_
    have back:∀{σ7:St} {H7:Hp} {s7:uZ},Inv (blk X sc (aG X.env sc.names []) G.objs.size N' s2 H2 fp) ([(s2.heap.objs.size,{ cls :=.type "list",data :=.seq its nn })]++eF fp s5.heap) σ7 H7 s7->tn (i+1) s7.heap/\∀b∈fp,H7 b=none:=λJ7 =>
     ⟨T.keep _ _ _ st5 λb hb o e=>(J7.pin (b,o) (vN _ (vN _ (cv hb e)))).1,λb hb=>by
      obtain ⟨o,e,d⟩:=T.obj _ _ st5 b hb
      exact (J7.pin (b,o) (vN _ (vN _ (cv hb e)))).2.1⟩
    cases ok with
    | false =>
     rw[if_neg (by decide)] at q7
     obtain ⟨m',lm,w7⟩:=q7
     show ∃m,m<n/\_
     exact ⟨m',lm,i+1,ys,its,nn,σ6,H7,I7.cQ,r3,(back I7).1,(back I7).2,w7⟩
    | true =>
     rw[if_pos rfl] at q7
     refine thn (he _ _ _ _ _ _ s7 σ6 H7 _ I7 q7) λz s8 ⟨y,H8,I8,r8,lz,m',lm,w8⟩ =>?_
     obtain ⟨e8,a8,_,_,_⟩:=I8.pin (s2.heap.objs.size,{ cls :=.type "list",data :=.seq its nn }) (by simp[blk])
     have sz:its.size<=vm:=by
      have l:ys.length=its.size:=r3.length.trans vo
      rw[<- l]
      exact ym lz
     refine wpAny_list_append_plain ⟨nn,e8⟩ (λh' pl' sb' =>?_) sz
     obtain ⟨n9,e9⟩:=pl'
     have I8p:Inv (blk X sc (aG X.env sc.names []) G.objs.size N' s2 H2 fp) (eF fp s5.heap) σ6 H8 s8:=I8.eR λp hp=>I8.pin p (vN _ (vN _ hp))
     have I9:=I8p.turned (it:=s2.heap.objs.size) (h':=h') (t':=s8.toks) (λb o ne e=>by rw[sb'.2 b ne];exact e) a8 aC (.inr (va _)) (λy c e=>accNotCell y c e) (λp hp z=>by
      have hp':p∈eF fp s5.heap:=by simpa [blk] using hp
      exact accFp (by rw[<- z];exact (iI hp').1))
     have b9:tn (i+1) h'/\∀b∈fp,H8 b=none :=
      ⟨T.keep _ _ _ st5 λb hb o e=>(I9.pin (b,o) (vN _ (cv hb e))).1,(back I8).2⟩
     exact ⟨m',lm,i+1,ys++[y],its.push z,n9,σ6,H8,accPin I9 e9 a8,by rw[xN];exact r3.append (.cons r8 .nil),b9.1,b9.2,w8⟩
  ·obtain ⟨n0,e0⟩:=accO
   exact ⟨0,[], #[],n0,_,H2,accPin IB e0 (I2.hok.fresh (va _)),.nil,T.keep _ _ _ st2 λb hb o e=>old b o e,λb hb=>(f2 b hb).1,w0⟩
 exact codeAny_compStart_list loop (T.self _ 0 _ _ _ (T.keep _ _ _ st2 λb hb o e=>old b o e) loop)
theorem bN {elt target iter:Expr}{ifs:List Expr}{sc:Scope}{pos:Pos}{wi:TI}{g:TG}{tc:TT}{te:TE}(N':List Str)(ix:List (Option Nat))
  (hcalm:X.calm=true) (hi:PI X target iter wi) (hk:jW X.env.scope.names X.N sc N' ix=true)
  (hg:∀cl C s H fp,PG (blk X sc cl C N' s H fp) target g) (hc:∀cl C s H fp,PF (blk X sc cl C N' s H fp) ifs tc) (he:∀cl C s H fp,PE (blk X sc cl C N' s H fp) elt te)
  (hs:∀x,foldedSetIterable iter X.env x=pure x:=by intro _;rfl):PE X (.ListComp elt [⟨target,iter,ifs,0⟩] sc pos) (oZ ix wi g tc te):=by
 intro pins s σ H Q I h
 rw[eval_ListComp]
 refine iQ hcalm hi hk hg hc he hs (λs4 H3 acc C ys oC I4 ns hC hc hp q =>?_) I h
 obtain ⟨m,ns⟩:=ns
 refine ⟨m,ns,λh' sb=>⟨.ref acc,_,?_,rfl,q⟩⟩
 obtain ⟨_,n0,n1,n2,_⟩:=I4.pin (C,oC) (by simp)
 exact (I4.cQ).turned (it:=C) (h':=h') (t':=s4.toks) (λb o ne e=>by rw[sb.2 b ne];exact e) n0 n1 (.inr hC) hc hp
theorem eI {elt target iter:Expr}{ifs:List Expr}{sc:Scope}{pos pos' spos:Pos}{wi:TI}{g:TG}{tc:TT}{te:TE}{i:Nat}{x:Str}(N':List Str)(ix:List (Option Nat))
    (hcalm:X.calm=true) (hN:X.N.Nodup) (hx:X.N[i]? = some x) (hl:X.env.scope.names.lookup x=some .local)
    (hi:PI X target iter wi) (hk:jW X.env.scope.names X.N sc N' ix=true)
    (hg:∀cl C s H fp,PG (blk X sc cl C N' s H fp) target g) (hc:∀cl C s H fp,PF (blk X sc cl C N' s H fp) ifs tc) (he:∀cl C s H fp,PE (blk X sc cl C N' s H fp) elt te)
    (hsw:swapsWith (.ListComp elt [⟨target,iter,ifs,0⟩] sc pos) (some (.Name x pos')) spos.line X.env=pure true:=by rfl)
    (hs:∀x,foldedSetIterable iter X.env x=pure x:=by intro _;rfl):PS X (.Assign [.Name x pos'] (.ListComp elt [⟨target,iter,ifs,0⟩] sc pos) spos) (sj (oZ ix wi g tc te) (eA i)):=by
  intro pins s σ H D I h
  rw[exec_Assign_Name_used _ _ _ _ hsw]
  refine uU (AA (uU ?_))
  show vJ _ X.A (do let _ ← comprehension (.ListComp elt [⟨target,iter,ifs,0⟩] sc pos) sc X.env _ (newList []) false (eval iter X.env) (some (assign (.Name x pos') X.env))) _ _ s
  refine uU (xG (iQ (Q:=λv H1=>D.nx (σ.set i (some v)) H1) (Q2:=λ_ s'=>SP X pins D .next s') hcalm hi hk hg hc he hs (λs4 H3 acc C ys oC I4 ns hC hc hp q =>?_) I h) (λ_ s' q=>vg (vg q)) λ_ _ e=>e)
  obtain ⟨m,ns⟩:=ns
  obtain ⟨e0,n0,n1,n2,_⟩:=I4.pin (C,oC) (by simp)
  show vJ _ X.A (assign (.Name x pos') X.env (.ref acc)) _ _ s4
  refine thn ((av (i:=i) hN hx (.inl hl) (.inr hl)) (pins++[(C,oC)]) s4 σ _ (.ref acc) (.ref acc) _ I4 rfl q) λ_ s5 ⟨σ5,H5,I5,q5⟩ =>?_
  obtain ⟨e5,k0,k1,k2,_⟩:=I5.pin (C,oC) (by simp)
  obtain ⟨o',es',ep',c',r'⟩:=ns
  have e':=e0.symm.trans c'
  cases e'
  refine ⟨m,⟨_,es',ep',e5,r'⟩,λh' sb=>⟨σ5,H5,?_,q5⟩⟩
  exact (I5.cQ).turned (it:=C) (h':=h') (t':=s5.toks) (λb o ne e=>by rw[sb.2 b ne];exact e) k0 k1 (.inr hC) hc hp
end
open PySem PySem.Spec PyProof.Rows
section
variable  {X:Cx}
def uC (K:u6):R2:=λx y H Q=>∃l b xs zs,x = .ref l/\y = .ref b/\SqL K H l xs/\SqL K H b zs/\xs.length+zs.length<=vm/\∀p,H p=none->Q (.ref p) (upd H p (.lst (xs++zs)))
theorem bI:OpR X (binaryOp .Add) (uC X.K):=by
 intro pins s σ H x y v u Q I rx ry h
 obtain ⟨l,b,xs,zs,rfl,rfl,hH,hB,hz,q⟩:=h
 cases rx
 cases ry
 obtain ⟨its,r,e,z⟩:=I.list hH
 obtain ⟨its2,r2,e2,z2⟩:=I.list hB
 obtain ⟨⟨c1,d1,da1,sl1⟩,n,e,k1,k2,k3⟩:=e
 obtain ⟨⟨c2,d2,da2,sl2⟩,n2,e2,g1,g2,g3⟩:=e2
 simp only at k1 k3 g1 g3
 subst k1 k3 g1 g3
 have l1:=r.length
 have l2:=r2.length
 have ea:its.toArray++its2.toArray=(its++its2).toArray:=by simp
 refine A2 ⟨_,e,rfl⟩ ⟨_,e2,rfl⟩ noFill_list_add seq_list_add PySem.F.slot_list_add PySem.F.entry_list_add
  (PySem.F.args_list_add_2 _ _) (list_addW l b its.toArray its2.toArray n n2 d1 d2 sl1 sl2 (by rw[u0,u0];omega)) ⟨e,e2,?_⟩
 rw[ea]
 exact ⟨.ref _,_,I.uw (t':=s.toks) (r.append r2) (by rw[u9];omega),rfl,q _ I.fresh⟩
theorem jX:bY X (.builtin "isinstance") (λxs H Q=>∃x T t b,xs=[x,.ty T]/\fL X.K H x t/\PySem.W.kitOne X.K t (.type T)=some b/\Q (.bl b) H):=by
 intro pins s σ H xs us Q I r h
 obtain ⟨x,T,t,b,rfl,ty,e,q⟩:=h
 obtain ⟨u,w',rfl,ru,rw'⟩:=vals2 r
 cases (show w'=yr T from rw')
 exact mW I ru ty e λtk=>⟨.bl b,H,I.tok tk,rfl,q⟩
end
def lW (k:Nat)(tc:TT)(te:TE)(τ:St)(Pv:Nat->List V->Hp->Prop)(i:Nat)(x:V)(ys:List V)(H:Hp):Prop :=
 ∀(R1:V->Hp->Prop) (R0:Hp->Prop),(∀y H4,Pv (i+1) (ys++[y]) H4->R1 y H4)->(∀H3,Pv (i+1) ys H3->R0 H3)->tc (τ.set k (some x)) H λb H3=>if b=true then te (τ.set k (some x)) H3 R1 else R0 H3
theorem bT {K:u6}{a:Addr}{xs:List V}{k:Nat}{tc:TT}{te:TE}{τ:St}{H:Hp}{Q:VK}(Pv:Nat->List V->Hp->Prop)(h0:Pv 0 [] H)(hz:xs.length<=vm)
  (hl:∀i ys H,i<=xs.length->Pv i ys H->SqL K H a xs) (hs:∀i x ys H,xs[i]? = some x->ys.length<=i->Pv i ys H->lW k tc te τ Pv i x ys H)
  (hd:∀ys H,ys.length<=xs.length->Pv xs.length ys H->∀l,H l=none->Q (.ref l) (upd H l (.lst ys))) :
  f6 (Itl K a) (eA k) tc te τ Q H:=by
 refine ⟨λi m σ ys H=>m=xs.length-i/\i<=xs.length/\(∀x,σ.set k (some x)=τ.set k (some x))/\ys.length<=i/\Pv i ys H,⟨xs.length,by simp,vY _,λ_=>rfl,va _,h0⟩,?_⟩
 rintro i m σ ys H ⟨rfl,hi,hτ,hy,p⟩
 have q:=hl i ys H hi p
 by_cases hlt:i<xs.length
 ·refine .inr ⟨⟨xs,xs[i],q,by simp[hlt]⟩,λx H' y =>?_⟩
  obtain ⟨e,y⟩:=y
  subst e
  show tc (σ.set k (some x)) _ _
  rw[hτ x]
  have hσ:∀z,(τ.set k (some x)).set k (some z)=τ.set k (some z):=λz=>by rw[yY]
  refine hs i x ys _ (y xs q) hy p _ _ (λy4 H4 p4=>⟨by omega,xs.length-(i+1),by omega,rfl,hlt,hσ,by rw[u9,wx];omega,p4⟩) λH3 p3=>⟨xs.length-(i+1),by omega,rfl,hlt,hσ,by omega,p3⟩
 ·have e:i=xs.length:=by omega
  subst e
  exact .inl ⟨⟨xs,q,va _⟩,by omega,hd ys H hy p⟩
theorem cS {K:u6}{a:Addr}{xs:List V}{k:Nat}{tc:TT}{te:TE}{τ:St}{H:Hp}{Q:VK}(Pv:Nat->List V->Hp->Prop)(h0:Pv 0 [] H)(hz:xs.length<=vm)
  (hl:∀i ys H,i<=xs.length->Pv i ys H->SqT K H a xs) (hs:∀i x ys H,xs[i]? = some x->ys.length<=i->Pv i ys H->lW k tc te τ Pv i x ys H)
  (hd:∀ys H,ys.length<=xs.length->Pv xs.length ys H->∀l,H l=none->Q (.ref l) (upd H l (.lst ys))) :
  f6 (Itt K a) (eA k) tc te τ Q H:=by
 refine ⟨λi m σ ys H=>m=xs.length-i/\i<=xs.length/\(∀x,σ.set k (some x)=τ.set k (some x))/\ys.length<=i/\Pv i ys H,⟨xs.length,by simp,vY _,λ_=>rfl,va _,h0⟩,?_⟩
 rintro i m σ ys H ⟨rfl,hi,hτ,hy,p⟩
 have q:=hl i ys H hi p
 by_cases hlt:i<xs.length
 ·refine .inr ⟨⟨xs,xs[i],q,by simp[hlt]⟩,λx H' y =>?_⟩
  obtain ⟨e,y⟩:=y
  subst e
  show tc (σ.set k (some x)) _ _
  rw[hτ x]
  have hσ:∀z,(τ.set k (some x)).set k (some z)=τ.set k (some z):=λz=>by rw[yY]
  refine hs i x ys _ (y xs q) hy p _ _ (λy4 H4 p4=>⟨by omega,xs.length-(i+1),by omega,rfl,hlt,hσ,by rw[u9,wx];omega,p4⟩) λH3 p3=>⟨xs.length-(i+1),by omega,rfl,hlt,hσ,by omega,p3⟩
 ·have e:i=xs.length:=by omega
  subst e
  exact .inl ⟨⟨xs,q,va _⟩,by omega,hd ys H hy p⟩
theorem f7 {lo:Int}{n:Nat}{k:Nat}{tc:TT}{te:TE}{τ:St}{H:Hp}{Q:VK}(Pv:Nat->List V->Hp->Prop)(h0:Pv 0 [] H)(hz:n<=vm)
  (hs:∀i ys H,i<n->ys.length<=i->Pv i ys H->lW k tc te τ Pv i (.int (lo+i)) ys H)
  (hd:∀ys H,ys.length<=n->Pv n ys H->∀l,H l=none->Q (.ref l) (upd H l (.lst ys))) :
  f6 (Itr lo n) (eA k) tc te τ Q H:=by
 refine ⟨λi m σ ys H=>m=n-i/\i<=n/\(∀x,σ.set k (some x)=τ.set k (some x))/\ys.length<=i/\Pv i ys H,⟨n,by simp,vY _,λ_=>rfl,va _,h0⟩,?_⟩
 rintro i m σ ys H ⟨rfl,hi,hτ,hy,p⟩
 by_cases hlt:i<n
 ·refine .inr ⟨hlt,λx H' y =>?_⟩
  obtain ⟨e,y⟩:=y
  subst e y
  show tc (σ.set k (some (.int (lo+i)))) _ _
  rw[hτ]
  have hσ:∀z,(τ.set k (some (.int (lo+i)))).set k (some z)=τ.set k (some z):=λz=>by rw[yY]
  refine hs i ys _ hlt hy p _ _ (λy4 H4 p4=>⟨by omega,n-(i+1),by omega,rfl,hlt,hσ,by rw[u9,wx];omega,p4⟩) λH3 p3=>⟨n-(i+1),by omega,rfl,hlt,hσ,by omega,p3⟩
 ·have e:i=n:=by omega
  subst e
  exact .inl ⟨va _,by omega,hd ys H hy p⟩
structure Cal (P:vI)(w:wc)(K:u6)(mg:Str->Option uW)(base:Heap)(k:Nat)(x:Str)(ps:List Str)(sp:Sp):Prop where
 ex:∃f fd,bO P w K mg base CX0 k f fd ps sp/\mg x=some (.ref f)/\PySem.W.keepIn K (.ref f)=true/\Binds K fd ps []
theorem aH {X:Cx}{j k:Nat}{x:Str}{ps:List Str}{sp:Sp}{e:Expr}{es:List Expr}{t:TA}{p pos:Pos}(C:Cal X.prog X.w X.K X.mg X.base k x ps sp)(hr:cg j X.A)(hj:k<=j)(hg:Gl X x)(ha:PA X (e :: es) t)
  (hdb:(x == ("__debug__" : Str))=false:=by decide) (he:wC (e :: es) X.env=(false,eval e X.env) :: wC es X.env:=by rfl) (hpl:(Ae pos (wC es X.env)).any (·.1)=false:=by rfl) :
  PE X (.Call (.Name x p) (e :: es) [] pos) (rG sp [] E0 t):=by
 obtain ⟨f,fd,F,m,kp,b⟩:=C.ex
 exact qC F (hr.mono hj) hg m kp b .nil uz ha hdb he hpl
theorem ae {H:Hp}{p:Addr}(h:H p=none)(o:HO):aD H (upd H p o):=λb u q=>by rw[ax (ak q h)];exact q
theorem small {n:Nat}(h:n<=1000):n<=vm:=ym (bM h)
open PySem PySem.Spec PyProof.Rows
section
variable  {X:Cx}
theorem jY {its:List uW}{bs:List Bool}(h:Vals (bs.map V.bl) its){prog:vI}{w:wc}{A:v7}:TruthOf prog w A (λi v=>its.toArray[i]? = some v) (λi=>bs.getD i false):=by
 intro i v s Q E hv q
 have l:=h.length
 rw[uT] at l
 have hi:i<its.length:=by
  rw[xx] at hv
  exact (vb.mp hv).1
 have e:(bs.map V.bl)[i]? = some (.bl (bs.getD i false)):=by
  rw[vi,vz,vk (by omega)]
  rfl
 obtain ⟨u,e1,e2⟩:=h.get e
 rw[xx,e1] at hv
 have ev:u=v:=vR hv
 subst ev
 cases (show u=Value.bool _ from e2)
 exact yk q
def qL:V->List V->Hp->VK->Prop:=λx vs H Q=>∃(l:Addr) (xs:List V) (i:Int) (y:V),x = .ref l/\vs=[.int i,y]/\H l=some (.lst xs)/\0<=i/\i<=xs.length/\xs.length<vm/\Q .non (upd H l (.lst (xs.take i.toNat++y :: xs.drop i.toNat)))
theorem nj:MtM X "list.insert" qL:=by
 intro pins s σ H x vs v us Q I rx rv h
 obtain ⟨l,xs,i,y,rfl,rfl,hH,h0,h1,hz,q⟩:=h
 cases rx
 obtain ⟨ui,uy,rfl,⟨t,rfl⟩,ry⟩:=vals2 rv
 obtain ⟨z,its,n,r,hl,e⟩:=I.sD hH
 have zl:=fK
 have fits:¬ (!Builtin.List.listFitsIndex i)=true:=by
  have:Builtin.List.listFitsIndex i=true:=by
   unfold Builtin.List.listFitsIndex
   simp only[wN,decide_eq_true_eq]
   omega
  rw[this];simp
 refine Aq F.slot_list_insert ⟨_,e,rfl⟩ F.entry_list_insert (F.args_list_insert_3 _ _ _) (AF l its.toArray n i t uy fits (by rw[u0];omega)) ⟨e,?_⟩
 refine ⟨.non,_,I.uv (its':=its.take i.toNat++uy :: its.drop i.toNat) hH e ?_ ((r.take _).append (.cons ry (r.drop _))) ?_,rfl,q⟩
 ·have ek:min i.toNat its.toArray.size=i.toNat:=by rw[u0];omega
  dsimp only
  rw[if_neg (by omega),ek]
  apply AG.mp
  rw[vS,xN,w4,w4,wD,wD]
  simp
  rw[vD (by rw[xH];omega)]
 ·rw[u9,vT,v3,xH]
  omega
def eJ (K:u6)(H:Hp):Nat->V->V->Prop
 | 0,x,y=>(∃i,x = .int i/\y = .int i)\/∃a,x = .ref a/\y = .ref a
 | n+1,x,y=>(∃i,x = .int i/\y = .int i)\/(∃a,x = .ref a/\y = .ref a)\/∃a b xs ys,x = .ref a/\y = .ref b/\((SqT K H a xs/\SqT K H b ys)\/(SqL K H a xs/\SqL K H b ys))/\Paired (eJ K H n) xs ys
theorem iR {α β:Type}{F:α -> β -> Prop}:∀{l:List α} {m:List β} {i:Nat} {x:α} {y:β},Paired F l m->l[i]? = some x->m[i]? = some y->F x y
 | _,_,0,_,_,.cons h _,e1,e2=>by simp at e1 e2;subst e1 e2;exact h
 | _,_,i+1,_,_,.cons _ t,e1,e2=>iR (i:=i) t (by simpa using e1) (by simpa using e2)
 | _,_,_,_,_,.nil,e1,_=>by simp at e1
theorem all_true (n:Nat):((wF n).all λ_=>true)=true:=by simp
theorem c0 {K:u6}{H:Hp}{n:Nat}{s:uZ}{A:v7}{xs ys:List V}{us vs:List uW}(p:Paired (eJ K H n) xs ys)(r1:Vals xs us)(r2:Vals ys vs)
  (ih:∀x y u v,eJ K H n x y->RelV x u->RelV y v->yt A s u v true):∀j (h1:j<us.toArray.size) (h2:j<vs.toArray.size),yt A s us.toArray[j] vs.toArray[j] true:=λj h1 h2=>by
 rw[u0] at h1 h2
 have l1:=r1.length
 have l2:=r2.length
 have e1:xs[j]? = some xs[j]:=vk (by omega)
 have e2:ys[j]? = some ys[j]:=vk (by omega)
 obtain ⟨u,g1,q1⟩:=r1.get e1
 obtain ⟨v,g2,q2⟩:=r2.get e2
 have f1:us.toArray[j]=u:=by simp[vb] at g1;obtain ⟨_,g⟩:=g1;simpa using g
 have f2:vs.toArray[j]=v:=by simp[vb] at g2;obtain ⟨_,g⟩:=g2;simpa using g
 rw[f1,f2]
 exact ih _ _ u v (iR p e1 e2) q1 q2
theorem iS {pins:List (Addr×Obj)}{σ:St}{H:Hp}{s:uZ}(I:Inv X pins σ H s):∀(n:Nat) (A:v7) (x y:V) (u v:uW),A.units+n<cLine->eJ X.K H n x y->RelV x u->RelV y v->yt A s u v true
 | 0,A,x,y,u,v,_,h,ru,rv=>by
  rcases h with ⟨i,rfl,rfl⟩ | ⟨a,rfl,rfl⟩
  ·obtain ⟨t,rfl⟩:=(show ∃t,u=xC i t from ru)
   obtain ⟨t',rfl⟩:=(show ∃t,v=xC i t from rv)
   have:=xE (A:=A) (s:=s) i t i t'
   rw[beq_self_eq_true] at this
   exact this
  ·cases (show u=vq a from ru)
   cases (show v=vq a from rv)
   exact y8 _
 | n+1,A,x,y,u,v,hA,h,ru,rv=>by
  rcases h with ⟨i,rfl,rfl⟩ | ⟨a,rfl,rfl⟩ | ⟨a,b,xs,ys,rfl,rfl,hs,p⟩
  ·obtain ⟨t,rfl⟩:=(show ∃t,u=xC i t from ru)
   obtain ⟨t',rfl⟩:=(show ∃t,v=xC i t from rv)
   have:=xE (A:=A) (s:=s) i t i t'
   rw[beq_self_eq_true] at this
   exact this
  ·cases (show u=vq a from ru)
   cases (show v=vq a from rv)
   exact y8 _
  ·cases (show u=vq a from ru)
   cases (show v=vq b from rv)
   by_cases hab:a=b
   ·subst hab;exact y8 _
   refine Bm hab ?_
   have ih:∀x y u v,eJ X.K H n x y->RelV x u->RelV y v->yt A.in1 s u v true:=λx y u v h1 h2 h3=>iS I n A.in1 x y u v (by show A.units+1+n<cLine;omega) h1 h2 h3
   have pl:=y2 p
   rcases hs with ⟨h1,h2⟩ | ⟨h1,h2⟩
   ·obtain ⟨its,r1,p1,_⟩:=I.tuple h1
    obtain ⟨its2,r2,p2,_⟩:=I.tuple h2
    have q:=An (e:=λ_=>true) (show s.heap.IsTuple a its.toArray from p1) (show s.heap.IsTuple b its2.toArray from p2) (by omega) (c0 p r1 r2 ih)
    have ez:its.toArray.size=its2.toArray.size:=by rw[u0,u0, <- r1.length, <- r2.length,pl]
    rw[all_true,ez,beq_self_eq_true] at q
    exact q
   ·obtain ⟨its,r1,p1,_⟩:=I.list h1
    obtain ⟨its2,r2,p2,_⟩:=I.list h2
    have q:=BU (e:=λ_=>true) p1.isList p2.isList (by rw[u0,u0, <- r1.length, <- r2.length,pl]) (by omega) (c0 p r1 r2 ih)
    rw[all_true] at q
    exact q
theorem sI {k:Nat}(hr:cg k X.A):OpR X (xS .NotEq) (λx y H Q=>∃a b xs ys,x = .ref a/\y = .ref b/\SqL X.K H a xs/\SqL X.K H b ys/\((xs.length≠ys.length/\Q (.bl true) H)\/(Paired (eJ X.K H 20) xs ys/\Q (.bl false) H))):=by
 intro pins s σ H x y v u Q I rx ry h
 obtain ⟨a,b,xs,ys,rfl,rfl,h1,h2,h3⟩:=h
 cases (show v=vq a from rx)
 cases (show u=vq b from ry)
 obtain ⟨its,r1,⟨⟨c1,d1,da1,sl1⟩,n1,e1,k1,_,k3⟩,_⟩:=I.list h1
 obtain ⟨its2,r2,⟨⟨c2,d2,da2,sl2⟩,n2,e2,g1,_,g3⟩,_⟩:=I.list h2
 simp only at k1 k3 g1 g3
 subst k1 k3 g1 g3
 have l1:=r1.length
 have l2:=r2.length
 have hu:=hr.un
 have hu1:X.A.units<cLine:=by omega
 rcases h3 with ⟨ne,q⟩ | ⟨p,q⟩
 ·refine xV (op :=.NotEq) ⟨_,e1,rfl⟩ ⟨_,e2,rfl⟩ Af zQ (zC _ _) (As a b its.toArray its2.toArray n1 n2 d1 d2 sl1 sl2 (by simp;omega)) ⟨e1,e2,?_⟩ hu1
  exact ⟨(λz=>nomatch z),⟨.bl true,H,I,rfl,q⟩⟩
 ·have pl:=y2 p
  refine xV (op :=.NotEq) ⟨_,e1,rfl⟩ ⟨_,e2,rfl⟩ Af zQ (zC _ _) (B7 a b its.toArray its2.toArray n1 n2 d1 d2 sl1 sl2 (by rw[u0,u0];omega) (λ_=>true)) ⟨e1,e2,?_,?_⟩ hu1
  ·exact c0 p r1 r2 λx y u v h1 h2 h3=>iS I 20 _ x y u v (by show X.A.units+1+_<cLine;omega) h1 h2 h3
  ·rw[all_true]
   exact ⟨(λz=>nomatch z),⟨.bl false,H,I,rfl,q⟩⟩
end
open PySem PySem.Spec PyProof.Rows
def o7 (K:u6)(k l:Nat):TG:=t8 K 2 (oJ (eA k) (oJ (eA l) tZ))
def rH (k l:Nat)(tc:TT)(te:TE)(τ:St)(Pv:Nat->List V->Hp->Prop)(i:Nat)(a b:V)(ys:List V)(H:Hp):Prop :=
 ∀(R1:V->Hp->Prop) (R0:Hp->Prop),(∀y H4,Pv (i+1) (ys++[y]) H4->R1 y H4)->(∀H3,Pv (i+1) ys H3->R0 H3)->tc ((τ.set k (some a)).set l (some b)) H λc H3=>if c=true then te ((τ.set k (some a)).set l (some b)) H3 R1 else R0 H3
theorem k7 {K:u6}{p:Addr}{ts:List (Addr×V×V)}{k l:Nat}{tc:TT}{te:TE}{τ:St}{H:Hp}{Q:VK}(Pv:Nat->List V->Hp->Prop)(hkl:k≠l)(h0:Pv 0 [] H)(hz:ts.length<=vm)
  (hl:∀i ys H,i<=ts.length->Pv i ys H->SqL K H p (ts.map λt =>.ref t.1)/\∀t∈ts,SqT K H t.1 [t.2.1,t.2.2])
  (hs:∀i t ys H,ts[i]? = some t->ys.length<=i->Pv i ys H->rH k l tc te τ Pv i t.2.1 t.2.2 ys H)
  (hd:∀ys H,ys.length<=ts.length->Pv ts.length ys H->∀r,H r=none->Q (.ref r) (upd H r (.lst ys))):f6 (Itl K p) (o7 K k l) tc te τ Q H:=by
 refine ⟨λi m σ ys H=>m=ts.length-i/\i<=ts.length/\(∀a b,(σ.set k (some a)).set l (some b)=(τ.set k (some a)).set l (some b))/\ys.length<=i/\Pv i ys H,⟨ts.length,by simp,vY _,λ_ _=>rfl,va _,h0⟩,?_⟩
 rintro i m σ ys H ⟨rfl,hi,hτ,hy,pv⟩
 obtain ⟨q,qt⟩:=hl i ys H hi pv
 have ln:(ts.map λt:Addr×V×V=>V.ref t.1).length=ts.length:=uT _
 by_cases hlt:i<ts.length
 ·have et:ts[i]? = some ts[i]:=vk hlt
  have em:(ts.map λt:Addr×V×V=>V.ref t.1)[i]? = some (.ref ts[i].1):=by rw[vi,et];rfl
  refine .inr ⟨⟨_,_,q,em⟩,λx H' y =>?_⟩
  obtain ⟨e,y⟩:=y
  subst e
  have ex:=y _ q
  rw[em] at ex
  cases ex
  have st:=qt ts[i] (zD hlt)
  refine ⟨ts[i].1,_,rfl,st,rfl,_,_,rfl,_,_,rfl,rfl,?_⟩
  rw[hτ]
  have hσ:∀a b,((((τ.set k (some ts[i].2.1)).set l (some ts[i].2.2)).set k (some a)).set l (some b))=(τ.set k (some a)).set l (some b):=λa b=>by
   rw[CA _ _ (xi hkl),yY,yY]
  refine hs i ts[i] ys _ et hy pv _ _ (λy4 H4 p4=>⟨by omega,ts.length-(i+1),by omega,rfl,hlt,hσ,by rw[u9,wx];omega,p4⟩) λH3 p3=>⟨ts.length-(i+1),by omega,rfl,hlt,hσ,by omega,p3⟩
 ·have e:i=ts.length:=by omega
  subst e
  exact .inl ⟨⟨_,q,by rw[ln];exact va _⟩,by omega,hd ys H hy pv⟩
open PySem PySem.Spec PyProof.Rows
section
variable  {X:Cx}{K:u6}
theorem eZ (h:X.K=K:=by rfl):IxR X (uq K):=by subst h;exact bG
theorem dO (h:X.K=K:=by rfl):IxR X (ur K):=by subst h;exact aX
end
open PySem PySem.Spec PyProof.Rows
theorem Inv.k8 {X:Cx}{pins:List (Addr×Obj)}{σ:St}{H:Hp}{s:uZ}{h':Heap}{t':Nat}{ch:List Addr}{T:Addr}{o:HO}(I:Inv X pins σ H s)(f:∀b∈ch,fJ X pins H b)
  (k:∀b ob,b∉ch->s.heap.get? b=some ob->h'.get? b=some ob) (th:∀b∈ch,∃ob,h'.get? b=some ob) (hT:s.heap.objs.size<=T) (new:aT X.prog X.w (upd H T o) h' T o):Inv X pins σ (upd H T o) { s with heap:=h',toks:=t' }:=by
 have hn:H T=none:=I.hok.fresh hT
 have nT:∀b ob,s.heap.get? b=some ob->b≠T:=λb ob e=>vH (vF (vh e) hT)
 refine I.step (g':=s.gens) (d':=s.drawn) (ch:=ch) (λb hb =>?_) (λb ob _ _ hc e _=>k b ob hc e) (λb ob _ _ hc e _=>⟨ob.slots,k b ob hc e⟩) (λb ob _ e n=>by rw[ax (nT b ob e)];exact n)
  (λb ob hc e=>⟨ob,k b ob hc e⟩) (λb xs e=>by rw[ax (ak e hn)];exact e) (λb ob u e=>by rw[ax (ak e hn)];exact e) (λb ps e=>⟨#[],by rw[ax (ak e hn),e];simp⟩) (λm hm =>?_) (λb u e =>?_) I.bare
 ·obtain ⟨g0,g1,g2,g3,g4,g5⟩:=f b hb
  exact ⟨g3,g1,g4,g5⟩
 ·obtain ⟨ob,es,ep,ho,r⟩:=hm
  exact ⟨ob,es,ep,k _ ob (λz=>(f _ z).2.1 rfl) ho,r⟩
 ·by_cases hb:b=T
  ·subst hb
   rw[af] at e
   cases e
   exact new
  ·rw[ax hb] at e
   refine (I.hok b u e).stay (λc v hc q=>k c v ?_ q) (λc q=>by rw[ax (ak q hn)];exact q) λc xs q=>by rw[ax (ak q hn)];exact q
   intro z
   have n0:=(f c z).1
   rcases hc with hc | hc
   ·rw[hc,e] at n0;cases n0
   ·rw[hc] at n0;cases n0
open PySem PySem.Spec PyProof.Rows
open PySem.AutoSeq1 (wpAny_loadPart')
section
variable  {prog:vI}{w:wc}{A:v7}{E:uW->uZ->Prop}{s:uZ}
theorem lb {it t:Addr}{i:Nat}{items:Array uW}{x:uW}{Q:uW->uZ->Prop}(hi:s.heap.IsTupleIter it t i)(hl:s.heap.IsTuple t items)(hx:items[i]? = some x)
  (q:∀h',h'.IsTupleIter it t (i+1)->Heap.SameBut it s.heap h'->Q x { s with heap:=h' }):vJ (vK prog w) A (Builtin.SmallTypes.nextOf (.ref it)) Q E s:=by
 obtain ⟨o,eo,oc,od⟩:=id hi
 obtain ⟨ol,el,_,nl,dl⟩:=hl
 unfold Builtin.SmallTypes.nextOf
 refine uU (wL (name:=Str.ofString "__next__") hi.typeIs xW (wG xW hi.typeIs zR ?_ (zK _)))
 show vJ _ _ (field (.ref it) 0 >>= _) _ _ s;refine uU (wW eo od (x :=.ref t) rfl ?_)
 show vJ _ _ (if (vq t == xq)=true then _ else _) _ _ s;rw[if_neg (show ¬ ((vq t == xq)=true) from vp)]
 show vJ _ _ (field (.ref it) 1 >>= _) _ _ s;refine uU (wW eo od (x :=.int i 0) rfl ?_)
 show vJ _ _ (seqItems? (.ref t) >>= _) _ _ s;refine uU (x6 el dl ?_)
 simp only[wu,hx];refine uU (zw eo od (by simp) (vg ⟨x,rfl,vg (q _ ?_ (zS ..))⟩))
 exact ⟨_,vW _ eo (zy (xZ od _)),(BB ..).trans oc,by rw[xZ od];simp[zX]⟩
theorem gK {it t:Addr}{i:Nat}{items:Array uW}{Q:uW->uZ->Prop}(hh:A.handled=none)(hi:s.heap.IsTupleIter it t i)(hl:s.heap.IsTuple t items)(hx:items[i]? = none)
  (q:∀h' e,Heap.ExtBut it s.heap h'->(∃o,h'.get? e=some o/\o.cls = .type "StopIteration")->E (.ref e) { s with heap:=h' }):vJ (vK prog w) A (Builtin.SmallTypes.nextOf (.ref it)) Q E s:=by
 obtain ⟨o,eo,oc,od⟩:=id hi
 obtain ⟨ol,el,_,nl,dl⟩:=hl
 unfold Builtin.SmallTypes.nextOf
 refine uU (wL (name:=Str.ofString "__next__") hi.typeIs xW (wG xW hi.typeIs zR ?_ (zK _)))
 show vJ _ _ (field (.ref it) 0 >>= _) _ _ s;refine uU (wW eo od (x :=.ref t) rfl ?_)
 show vJ _ _ (if (vq t == xq)=true then _ else _) _ _ s;rw[if_neg (show ¬ ((vq t == xq)=true) from vp)]
 show vJ _ _ (field (.ref it) 1 >>= _) _ _ s;refine uU (wW eo od (x :=.int i 0) rfl ?_)
 show vJ _ _ (seqItems? (.ref t) >>= _) _ _ s;refine uU (x6 el dl ?_)
 simp only[wu,hx];refine uU (xY (uU (zw eo od (by simp) ?_)))
 show vJ _ _ (newExc (.type "StopIteration") [] >>= _) _ _ _;refine uU ?_
 simp only[newExc,newTuple];refine uU (wU ?_ (by size_fits))
 refine uU (m:=firstArgMember _ _) (x8 (a:=xq) (by first | rfl | (simp only[firstArgMember];rfl)) ?_);refine wU ?_ (by size_fits)
 simp only[raiseNew];refine uU (wpAny_handled ?_)
 first | (rw[show A.in1.handled=none from hh]) | (rw[hh])
 refine uU (vg (wpAny_throw ?_));exact q _ _ (((zS ..).extBut.push _).push _) ⟨_,ve _ rfl,rfl⟩
end
open PySem PySem.Spec PyProof.Rows
section
variable  {X:Cx}
end
def ForW (J:It)(g:TG)(tb:TS)(D:Ends)(σ:St)(H:Hp):Prop:=∃W:Nat->Nat->St->Hp->Prop,(∃m,W 0 m σ H)/\∀i m σ H,W i m σ H →
 (J.stop i H/\D.nx σ H)\/(J.go i H/\∃N:St->Hp->Prop,(∀σ' H',N σ' H'->∃m',m'<m/\W (i+1) m' σ' H')/\∀x H',J.yld i H x H'->g x σ H' λσ2 H2=>tb { D with nx:=N,ct:=N,bk:=D.nx } σ2 H2)
end L2
namespace Srt
open PySem PyProof.Rows
def gal:Bool->vy->Array vy->Nat->Nat->Nat->StateT vO Sem (Option Nat):=sortPriv% PySem.Builtin.gallop
def mLo:Array vy->Array vy->StateT vO Sem (Array vy):=sortPriv% PySem.Builtin.mergeLo
def mHi:Array vy->Array vy->StateT vO Sem (Array vy):=sortPriv% PySem.Builtin.mergeHi
def mAt:Nat->StateT vO Sem Bool:=sortPriv% PySem.Builtin.mergeAt
def rJ:StateT vO Sem Unit:=sortPriv% PySem.Builtin.sortRuns
def sJ:Nat->Nat->StateT vO Sem (Option Nat):=sortPriv% PySem.Builtin.countRun
def o8:Nat->Nat->Nat->StateT vO Sem Bool:=sortPriv% PySem.Builtin.binarySort
theorem sL (lf:Bool)(ky:vy)(ar:Array vy)(bs n ht:Nat):gal lf ky ar bs n ht=(do
    let far (i:Nat):StateT vO Sem (Option Bool):=do
      let z ← elem' ar (bs+i)
      if lf then lt' z ky else return (← lt' ky z).map (!·)
    let mut la:=0;let mut of:=1
    let mut lo:=0;let mut hi:=0
    let some rt ← far ht | return none
    if rt then
      let mx:=n-ht
      for _ in [0:n] do
        if of≥mx then break
        let some mo ← far (ht+of)
          | return none
        if !mo then break
        la:=of;of:=2*of+1
      lo:=ht+la+1;hi:=ht+min of mx
    else
      let mx:=ht+1
      for _ in [0:n] do
        if of≥mx then break
        let some fd ← far (ht-of)
          | return none
        if fd then break
        la:=of;of:=2*of+1
      lo:=ht+1-min of mx;hi:=ht-la
    for _ in [0:n] do
      if lo≥hi then break
      let md:=lo+(hi-lo)/2
      let some mo ← far md | return none
      if mo then lo:=md+1 else hi:=md
    return some hi):=rfl
section
variable  {prog:vI}{w:wc}{A:v7}{E:uW->uZ->Prop}{s:uZ}
theorem o9 {lf:Bool}{ky:vy}{ar:Array vy}{bs n ht:Nat}{st:vO}{Q:Option Nat->vO->Prop}(p:Nat->Bool)
    (hf:∀i,i<n->∀(Q:Option Bool->vO->Prop),Q (some (p i)) st->wpS (vK prog w) A E s (do let z ← elem' ar (bs+i);if lf then lt' z ky else return (← lt' ky z).map (!·)) Q st)
    (hp:∀i j,i<=j->j<n->p j=true->p i=true) (hh:ht<n)
    (h:∀k,k<=n->(∀i,i<k->p i=true)->(∀i,k<=i->i<n->p i=false)->Q (some k) st):wpS (vK prog w) A E s (gal lf ky ar bs n ht) Q st:=by
  rw[sL]
  dsimp only
  refine vt (hf ht hh _ ?_)
  dsimp only
  cases hr:p ht with
  | true =>
    rw[if_pos rfl]
    refine vt (xv (wJ (I:=λx c st'=>st=st'/\∃la of,c=(none,la,of)/\la<of/\x+1<=of/\ht+la<n/\p (ht+la)=true)
      (Q:=λc st'=>st=st'/\∃la of,c=(none,la,of)/\la<of/\ht+la<n/\p (ht+la)=true/\(n-ht<=of\/(ht+of<n/\p (ht+of)=false))) ?step ?fin ⟨rfl,0,1,rfl,by omega,by omega,by omega,by simpa using hr⟩) ?post)
    case fin =>
      rintro c st' ⟨rfl,la,of,rfl,b1,b2,b3,b4⟩
      exact ⟨rfl,la,of,rfl,b1,b3,b4,.inl (by omega)⟩
    case step =>
      rintro x c st' _ hx ⟨rfl,la,of,rfl,b1,b2,b3,b4⟩
      dsimp only
      by_cases hge:of≥n-ht
      · rw[if_pos hge]
        exact vB ⟨rfl,la,of,rfl,b1,b3,b4,.inl hge⟩
      · rw[if_neg hge]
        refine vt (hf _ (by omega) _ ?_)
        dsimp only
        cases hm:p (ht+of) with
        | true =>
          simp only[Au,w6,if_false]
          exact vB ⟨rfl,of,2*of+1,rfl,by omega,by omega,by omega,hm⟩
        | false =>
          simp only[Bool.not_false,if_true]
          exact vB ⟨rfl,la,of,rfl,b1,b3,b4,.inr ⟨by omega,hm⟩⟩
    case post =>
      rintro c st' ⟨rfl,la,of,rfl,b1,b3,b4,b5⟩
      have h1:(ht+la+1)<=(ht+min of (n-ht)):=by omega
      have h2:(ht+min of (n-ht))<=n:=by omega
      have h3:∀i,i<(ht+la+1)->p i=true:=λi hi=>hp i (ht+la) (by omega) b3 b4
      have h4:∀i,(ht+min of (n-ht))<=i->i<n->p i=false:=λi hi hn=>by
        rcases b5 with b5 | ⟨b5,b6⟩
        · omega
        · cases hpi:p i with
          | false=>rfl
          | true=>rw[hp (ht+of) i (by omega) hn hpi] at b6;cases b6
      dsimp only
      refine vt (xv (wJ (I:=λx c st'=>st=st'/\∃lo hi,c=(none,lo,hi)/\lo<=hi/\hi<=n/\hi-lo<=n-x/\(∀i,i<lo->p i=true)/\(∀i,hi<=i->i<n->p i=false))
        (Q:=λc st'=>st=st'/\∃k,c=(none,k,k)/\k<=n/\(∀i,i<k->p i=true)/\(∀i,k<=i->i<n->p i=false)) ?step ?fin ⟨rfl,(ht+la+1),(ht+min of (n-ht)),rfl,h1,h2,by omega,h3,h4⟩) ?post)
      case fin =>
        rintro c st' ⟨rfl,lo,hi,rfl,a1,a2,a3,a4,a5⟩
        have e:lo=hi:=by omega
        subst e
        exact ⟨rfl,lo,rfl,a2,a4,a5⟩
      case post =>
        rintro c st' ⟨rfl,k,rfl,a2,a4,a5⟩
        exact vB (h k a2 a4 a5)
      case step =>
        rintro x c st' _ hx ⟨rfl,lo,hi,rfl,a1,a2,a3,a4,a5⟩
        dsimp only
        by_cases hge:lo≥hi
        · rw[if_pos hge]
          have e:lo=hi:=by omega
          subst e
          exact vB ⟨rfl,lo,rfl,a2,a4,a5⟩
        · rw[if_neg hge]
          refine vt (hf _ (by omega) _ ?_)
          dsimp only
          cases hm:p (lo+(hi-lo)/2) with
          | true =>
            rw[if_pos rfl]
            exact vB ⟨rfl,_,_,rfl,by omega,a2,by omega,λi hi'=>hp i _ (by omega) (by omega) hm,a5⟩
          | false =>
            rw[if_neg (by simp)]
            refine vB ⟨rfl,_,_,rfl,by omega,by omega,by omega,a4,λi hi' hn =>?_⟩
            cases hpi:p i with
            | false=>rfl
            | true=>rw[hp _ i hi' hn hpi] at hm;cases hm
  | false =>
    rw[if_neg (by simp)]
    refine vt (xv (wJ (I:=λx c st'=>st=st'/\∃la of,c=(none,la,of)/\la<of/\x+1<=of/\la<=ht/\p (ht-la)=false)
      (Q:=λc st'=>st=st'/\∃la of,c=(none,la,of)/\la<of/\la<=ht/\p (ht-la)=false/\(ht+1<=of\/(of<=ht/\p (ht-of)=true))) ?step ?fin ⟨rfl,0,1,rfl,by omega,by omega,by omega,by simpa using hr⟩) ?post)
    case fin =>
      rintro c st' ⟨rfl,la,of,rfl,b1,b2,b3,b4⟩
      exact ⟨rfl,la,of,rfl,b1,b3,b4,.inl (by omega)⟩
    case step =>
      rintro x c st' _ hx ⟨rfl,la,of,rfl,b1,b2,b3,b4⟩
      dsimp only
      by_cases hge:of≥ht+1
      · rw[if_pos hge]
        exact vB ⟨rfl,la,of,rfl,b1,b3,b4,.inl hge⟩
      · rw[if_neg hge]
        refine vt (hf _ (by omega) _ ?_)
        dsimp only
        cases hm:p (ht-of) with
        | true =>
          rw[if_pos rfl]
          exact vB ⟨rfl,la,of,rfl,b1,b3,b4,.inr ⟨by omega,hm⟩⟩
        | false =>
          rw[if_neg (by simp)]
          exact vB ⟨rfl,of,2*of+1,rfl,by omega,by omega,by omega,hm⟩
    case post =>
      rintro c st' ⟨rfl,la,of,rfl,b1,b3,b4,b5⟩
      have h1:(ht+1-min of (ht+1))<=(ht-la):=by omega
      have h2:(ht-la)<=n:=by omega
      have h3:∀i,i<(ht+1-min of (ht+1))->p i=true:=λi hi=>by
        rcases b5 with b5 | ⟨b5,b6⟩
        · omega
        · exact hp i (ht-of) (by omega) (by omega) b6
      have h4:∀i,(ht-la)<=i->i<n->p i=false:=λi hi hn=>by
        cases hpi:p i with
        | false=>rfl
        | true=>rw[hp (ht-la) i hi hn hpi] at b4;cases b4
      dsimp only
      refine vt (xv (wJ (I:=λx c st'=>st=st'/\∃lo hi,c=(none,lo,hi)/\lo<=hi/\hi<=n/\hi-lo<=n-x/\(∀i,i<lo->p i=true)/\(∀i,hi<=i->i<n->p i=false))
        (Q:=λc st'=>st=st'/\∃k,c=(none,k,k)/\k<=n/\(∀i,i<k->p i=true)/\(∀i,k<=i->i<n->p i=false)) ?step ?fin ⟨rfl,(ht+1-min of (ht+1)),(ht-la),rfl,h1,h2,by omega,h3,h4⟩) ?post)
      case fin =>
        rintro c st' ⟨rfl,lo,hi,rfl,a1,a2,a3,a4,a5⟩
        have e:lo=hi:=by omega
        subst e
        exact ⟨rfl,lo,rfl,a2,a4,a5⟩
      case post =>
        rintro c st' ⟨rfl,k,rfl,a2,a4,a5⟩
        exact vB (h k a2 a4 a5)
      case step =>
        rintro x c st' _ hx ⟨rfl,lo,hi,rfl,a1,a2,a3,a4,a5⟩
        dsimp only
        by_cases hge:lo≥hi
        · rw[if_pos hge]
          have e:lo=hi:=by omega
          subst e
          exact vB ⟨rfl,lo,rfl,a2,a4,a5⟩
        · rw[if_neg hge]
          refine vt (hf _ (by omega) _ ?_)
          dsimp only
          cases hm:p (lo+(hi-lo)/2) with
          | true =>
            rw[if_pos rfl]
            exact vB ⟨rfl,_,_,rfl,by omega,a2,by omega,λi hi'=>hp i _ (by omega) (by omega) hm,a5⟩
          | false =>
            rw[if_neg (by simp)]
            refine vB ⟨rfl,_,_,rfl,by omega,by omega,by omega,a4,λi hi' hn =>?_⟩
            cases hpi:p i with
            | false=>rfl
            | true=>rw[hp _ i hi' hn hpi] at hm;cases hm
end
open PySem PyProof.Rows
structure Cmp (prog:vI)(w:wc)(A:v7)(s:uZ)(O:zJ)(key:vy->O.α)(U:vy->Prop)(κ:SortKind):Prop where
 lt:∀(E:uW->uZ->Prop) (st:vO) (x y:vy) (Q:Option Bool->vO->Prop),kindOf st=κ -> U x->U y->Q (some (O.blt (key x) (key y))) st->wpS (vK prog w) A E s (lt' x y) Q st
section
variable  {prog:vI}{w:wc}{A:v7}{E:uW->uZ->Prop}{s:uZ}{O:zJ}{key:vy->O.α}{U:vy->Prop}{κ:SortKind}
theorem aK {ar:Array vy}{i:Nat}{z:vy}{st:vO}{Q:vy->vO->Prop}(h:ar[i]? = some z)(hq:Q z st):wpS (vK prog w) A E s (elem' ar i) Q st:=by
 rw[elem'_eq,h]
 exact vB hq
theorem sM (C:Cmp prog w A s O key U κ){ky:vy}{ar:Array vy}{bs n ht:Nat}{st:vO}{Q:Option Nat->vO->Prop}(g:Nat->vy)(hk:kindOf st=κ)(uk:U ky)
  (hg:∀i,i<n->ar[bs+i]? = some (g i)) (hu:∀i,i<n->U (g i)) (hs:∀i j,i<=j->j<n->O.kle (key (g i)) (key (g j))) (hh:ht<n)
  (h:∀k,k<=n->(∀i,i<k->O.kle (key (g i)) (key ky))->(∀i,k<=i->i<n->O.klt (key ky) (key (g i)))->Q (some k) st):wpS (vK prog w) A E s (gal false ky ar bs n ht) Q st:=by
 refine o9 (λi => !O.blt (key ky) (key (g i))) (λi hi R hr =>?_) (λi j hij hj hp =>?_) hh (λk hk' h1 h2=>h k hk' (λi hi =>?_) λi hi hn =>?_)
 ·refine vt (aK (hg i hi) ?_)
  rw[if_neg (by simp)]
  exact vt (C.lt _ st ky (g i) _ hk uk (hu i hi) (vB hr))
 ·have a1:O.blt (key ky) (key (g j))=false:=by simpa using hp
  have a2:O.kle (key (g i)) (key ky):=vU (hs i j hij hj) a1
  have a3:O.blt (key ky) (key (g i))=false:=a2
  simp[a3]
 ·have a1:=h1 i hi
  exact (by simpa using a1:O.blt (key ky) (key (g i))=false)
 ·have a1:=h2 i hi hn
  exact (by simpa using a1:O.blt (key ky) (key (g i))=true)
theorem sN (C:Cmp prog w A s O key U κ){ky:vy}{ar:Array vy}{bs n ht:Nat}{st:vO}{Q:Option Nat->vO->Prop}(g:Nat->vy)(hk:kindOf st=κ)(uk:U ky)
  (hg:∀i,i<n->ar[bs+i]? = some (g i)) (hu:∀i,i<n->U (g i)) (hs:∀i j,i<=j->j<n->O.kle (key (g i)) (key (g j))) (hh:ht<n)
  (h:∀k,k<=n->(∀i,i<k->O.klt (key (g i)) (key ky))->(∀i,k<=i->i<n->O.kle (key ky) (key (g i)))->Q (some k) st):wpS (vK prog w) A E s (gal true ky ar bs n ht) Q st:=by
 refine o9 (λi=>O.blt (key (g i)) (key ky)) (λi hi R hr =>?_) (λi j hij hj hp =>?_) hh (λk hk' h1 h2=>h k hk' (λi hi=>h1 i hi) λi hi hn=>h2 i hi hn)
 ·refine vt (aK (hg i hi) ?_)
  rw[if_pos rfl]
  exact C.lt _ st (g i) ky _ hk (hu i hi) uk hr
 ·exact KeyOrd.klt_of_kle_of_klt (hs i j hij hj) hp
end
open PySem PyProof.Rows
section
variable  {O:zJ}(key:vy->O.α)
def Le (p q:vy):Prop:=O.kle (key p) (key q)
structure MW (a b o:Array vy)(x y:Nat):Prop where
 hx:x<=a.size
 hy:y<=b.size
 perm:(o.toList++(a.toList.drop x++b.toList.drop y)).Perm (a.toList++b.toList)
 sorted:o.toList.Pairwise (Le key)
 below:∀p∈o.toList,∀z∈a.toList.drop x++b.toList.drop y,Le key p z
def cK (a b r:Array vy):Prop:=r.toList.Perm (a.toList++b.toList)/\r.toList.Pairwise (Le key)
variable  {key}
theorem MW.fin {a b o:Array vy}{x y:Nat}(m:MW key a b o x y){t:List vy}{r:Array vy}(hr:r.toList=o.toList++t)(ht:t.Perm (a.toList.drop x++b.toList.drop y))(hs:t.Pairwise (Le key)):cK key a b r:=by
 unfold cK
 rw[hr]
 exact ⟨(xy _ ht).trans m.perm,wd.mpr ⟨m.sorted,hs,λp hp q hq=>m.below p hp q (ht.mem_iff.mp hq)⟩⟩
theorem MW.take {a b o:Array vy}{x y x' y':Nat}(m:MW key a b o x y){t:List vy}{r:Array vy}(hr:r.toList=o.toList++t)(hx:x'<=a.size)(hy:y'<=b.size)
  (ht:(t++(a.toList.drop x'++b.toList.drop y')).Perm (a.toList.drop x++b.toList.drop y)) (hs:t.Pairwise (Le key)) (hb:∀p∈t,∀z∈a.toList.drop x'++b.toList.drop y',Le key p z):MW key a b r x' y':=by
 have sub:∀z,z∈t\/z∈a.toList.drop x'++b.toList.drop y'->z∈a.toList.drop x++b.toList.drop y:=λz hz=>ht.mem_iff.mp (vx.mpr hz)
 refine ⟨hx,hy,?_,?_,?_⟩
 ·rw[hr,vZ]
  exact (xy _ ht).trans m.perm
 ·rw[hr]
  exact wd.mpr ⟨m.sorted,hs,λp hp q hq=>m.below p hp q (sub q (.inl hq))⟩
 ·rw[hr]
  intro p hp z hz
  rcases vx.mp hp with h | h
  ·exact m.below p h z (sub z (.inr hz))
  ·exact hb p h z hz
theorem drop_cons {α:Type}{l:List α}{i:Nat}{z:α}(h:l[i]? = some z):l.drop i=z :: l.drop (i+1):=by
 obtain ⟨hi,e⟩:=vb.mp h
 rw[List.drop_eq_getElem_cons hi,e]
theorem drop_take {α:Type}(l:List α)(i k:Nat):l.drop i=(l.drop i).take k++l.drop (i+k):=by
 rw[<- Cm,xA]
theorem aq {a:Array vy}{i:Nat}{z:vy}(h:a[i]? = some z):a.toList[i]? = some z:=by rw[vv];exact h
theorem MW.f9 {a b o:Array vy}{x y:Nat}{z:vy}(m:MW key a b o x y)(h:a[x]? = some z)(ha:a.toList.Pairwise (Le key))(hb:∀t∈b.toList.drop y,Le key z t):MW key a b (o.push z) (x+1) y:=by
 have e:=drop_cons (aq h)
 have hx:x<a.size:=(wZ.mp h).1
 have pa:(z :: a.toList.drop (x+1)).Pairwise (Le key):=by rw[<- e];exact ha.sublist (wH _ _)
 refine m.take (t:=[z]) (by rw[xN]) hx m.hy (by rw[e];exact Ag _) (wz _ _) λp hp t ht =>?_
 have ep:p=z:=by simpa using hp
 subst ep
 rcases vx.mp ht with q | q
 ·exact (yv.mp pa).1 t q
 ·exact hb t q
theorem MW.iT {a b o:Array vy}{x y:Nat}{z:vy}(m:MW key a b o x y)(h:b[y]? = some z)(hb:b.toList.Pairwise (Le key))(ha:∀t∈a.toList.drop x,Le key z t):MW key a b (o.push z) x (y+1):=by
 have e:=drop_cons (aq h)
 have hy:y<b.size:=(wZ.mp h).1
 have pb:(z :: b.toList.drop (y+1)).Pairwise (Le key):=by rw[<- e];exact hb.sublist (wH _ _)
 refine m.take (t:=[z]) (by rw[xN]) m.hx hy (by rw[e,List.singleton_append];exact BV.symm) (wz _ _) λp hp t ht =>?_
 have ep:p=z:=by simpa using hp
 subst ep
 rcases vx.mp ht with q | q
 ·exact ha t q
 ·exact (yv.mp pb).1 t q
theorem ext_toList (a:Array vy)(x k:Nat):(a.extract x (x+k)).toList=(a.toList.drop x).take k:=by
 rw[w4,wD,yn]
theorem dP (a:Array vy)(x:Nat):(a.extract x a.size).toList=a.toList.drop x:=by
 rw[w4,wD]
 exact vD (by rw[xH,vo];exact va _)
theorem ay {l:List vy}(h:l.Pairwise (Le key)){i j:Nat}{p q:vy}(hi:l[i]? = some p)(hj:l[j]? = some q)(hij:i<=j):Le key p q:=by
 by_cases e:i=j
 ·subst e
  rw[hi] at hj
  cases hj
  exact xk _
 ·obtain ⟨h1,e1⟩:=vb.mp hi
  obtain ⟨h2,e2⟩:=vb.mp hj
  have:=yN.mp h i j h1 h2 (by omega)
  rw[e1,e2] at this
  exact this
theorem aJ {l:List vy}{i:Nat}{t:vy}(h:t∈l.drop i):∃j,i<=j/\l[j]? = some t:=by
 obtain ⟨n,e⟩:=v8.mp h
 rw[zc] at e
 exact ⟨i+n,by omega,e⟩
theorem gc {l:List vy}{i k:Nat}{t:vy}(h:t∈(l.drop i).take k):∃j,j<k/\l[i+j]? = some t:=by
 obtain ⟨n,e⟩:=v8.mp h
 rw[xF] at e
 split at e
 ·rw[zc] at e
  exact ⟨n,by omega,e⟩
 ·cases e
theorem MW.fc {a b o:Array vy}{x y k:Nat}(m:MW key a b o x y)(hk:x+k<=a.size)(ha:a.toList.Pairwise (Le key))(hb:∀j p,j<k->a.toList[x+j]? = some p->∀t∈b.toList.drop y,Le key p t):MW key a b (o++a.extract x (x+k)) (x+k) y:=by
 refine m.take (t:=(a.toList.drop x).take k) (by rw[vS,ext_toList]) hk m.hy ?_ ?_ λp hp t ht =>?_
 ·rw[<- vZ, <- drop_take]
 ·exact ha.sublist ((wQ _ _).trans (wH _ _))
 ·obtain ⟨j,hj,e⟩:=gc hp
  rcases vx.mp ht with q | q
  ·obtain ⟨i,hi,e2⟩:=aJ q
   exact ay ha e e2 (by omega)
  ·exact hb j p hj e t q
theorem MW.pe {a b o:Array vy}{x y k:Nat}(m:MW key a b o x y)(hk:y+k<=b.size)(hb:b.toList.Pairwise (Le key))(ha:∀j p,j<k->b.toList[y+j]? = some p->∀t∈a.toList.drop x,Le key p t):MW key a b (o++b.extract y (y+k)) x (y+k):=by
 refine m.take (t:=(b.toList.drop y).take k) (by rw[vS,ext_toList]) m.hx hk ?_ ?_ λp hp t ht =>?_
 ·rw[drop_take b.toList y k]
  have e:((b.toList.drop y).take k++b.toList.drop (y+k)).take k=(b.toList.drop y).take k:=by rw[<- drop_take]
  rw[e]
  refine (List.perm_append_comm_assoc _ _ _)
 ·exact hb.sublist ((wQ _ _).trans (wH _ _))
 ·obtain ⟨j,hj,e⟩:=gc hp
  rcases vx.mp ht with q | q
  ·exact ha j p hj e t q
  ·obtain ⟨i,hi,e2⟩:=aJ q
   exact ay hb e e2 (by omega)
theorem MW.nk {a b o:Array vy}{x y:Nat}(m:MW key a b o x y)(ha:a.toList.Pairwise (Le key))(hy:y=b.size):cK key a b (o++a.extract x a.size++b.extract y b.size):=by
 subst hy
 have e:b.toList.drop b.size=[]:=AQ (by rw[vo];exact va _)
 refine m.fin (t:=a.toList.drop x) (by rw[vS,vS,dP,dP,e,wM]) (by rw[e,wM]) (ha.sublist (wH _ _))
theorem MW.nr {a b o:Array vy}{x y:Nat}(m:MW key a b o x y)(hb:b.toList.Pairwise (Le key))(hx:x=a.size):cK key a b (o++a.extract x a.size++b.extract y b.size):=by
 subst hx
 have e:a.toList.drop a.size=[]:=AQ (by rw[vo];exact va _)
 refine m.fin (t:=b.toList.drop y) (by rw[vS,vS,dP,dP,e,wM]) (by rw[e,zP]) (hb.sublist (wH _ _))
theorem MW.last {a b o:Array vy}{x y:Nat}(m:MW key a b o x y)(ha:a.toList.Pairwise (Le key))(hb:b.toList.Pairwise (Le key))(hx:x+1=a.size)(hl:∀p q,p∈b.toList->a[a.size-1]? = some q->Le key p q):cK key a b (o++b.extract y b.size++a.extract x a.size):=by
 refine m.fin (t:=b.toList.drop y++a.toList.drop x) (by rw[vS,vS,dP,dP,vZ]) yx ?_
 refine wd.mpr ⟨hb.sublist (wH _ _),ha.sublist (wH _ _),λp hp q hq=>hl p q (yc hp) ?_⟩
 obtain ⟨i,hi,e⟩:=aJ hq
 rw[vv] at e
 have hi2:i<a.size:=(wZ.mp e).1
 rw[show a.size-1=i by omega]
 exact e
theorem MW.size {a b o:Array vy}{x y:Nat}(m:MW key a b o x y):o.size+(a.size-x)+(b.size-y)=a.size+b.size:=by
 have e:=m.perm.length_eq
 simp only[u9,xH,vo] at e
 omega
end
structure Sm (st st':vO):Prop where
 k:kindOf st'=kindOf st
 a:vE st'=vE st
 p:vL st'=vL st
 f:failedOf st'=failedOf st
theorem Sm.refl (st:vO):Sm st st:=⟨rfl,rfl,rfl,rfl⟩
theorem Sm.mg {st st':vO}(h:Sm st st')(n:Nat):Sm st (SortSt.mk' (kindOf st') (vE st') (vL st') n (failedOf st')):=⟨h.k,h.a,h.p,h.f⟩
open PySem PyProof.Rows
section
variable  {prog:vI}{w:wc}{A:v7}{E:uW->uZ->Prop}{s:uZ}{O:zJ}{key:vy->O.α}{U:vy->Prop}{κ:SortKind}
theorem aM {a:Array vy}{i:Nat}(h:i<a.size):∃z,a[i]? = some z:=⟨a[i],by simp[h]⟩
theorem bb {a:Array vy}{i:Nat}{z:vy}(h:a[i]? = some z):z∈a.toList:=v8.mpr ⟨i,by rw[vv];exact h⟩
theorem ltq {x n:Nat}(h:x<=n)(c:¬ (x == n)=true):x<n:=Bn h λz=>c (beq_iff_eq.mpr z)
abbrev LoC:=Option (Array vy)×Array vy×Nat×Nat×Nat×Nat×Nat
def qM (a b o:Array vy)(x y mg ac bc:Nat):StateT vO Sem (ForInStep LoC):=do
  let z ← elem' a x
  if (x+1+1 == a.size)=true then pure (.done (some (o.push z++b.extract y b.size++a.extract (x+1) a.size),o.push z,x+1,y,mg,ac,bc))
  else if (decide (ac<7) && decide (bc<7))=true then pure (.done (none,o.push z,x+1,y,mg,ac,bc))
  else pure (.yield (none,o.push z,x+1,y,mg,ac,bc))
def qN (a b o:Array vy)(x y mg ac bc:Nat):StateT vO Sem (ForInStep LoC):=do
  let z ← elem' b y
  if (y+1 == b.size)=true then pure (.done (some (o.push z++a.extract x a.size++b.extract (y+1) b.size),o.push z,x,y+1,mg,ac,bc))
  else do
    let z2 ← elem' a x
    let __x ← gal true z2 b (y+1) (b.size-(y+1)) 0
    match __x with
    | some k =>
      if k>0 then
        if (y+1+k == b.size)=true then pure (.done (some (o.push z++b.extract (y+1) (y+1+k)++a.extract x a.size++b.extract (y+1+k) b.size),o.push z++b.extract (y+1) (y+1+k),x,y+1+k,mg,ac,k))
        else qM a b (o.push z++b.extract (y+1) (y+1+k)) x (y+1+k) mg ac k
      else qM a b (o.push z) x (y+1) mg ac k
    | _=>pure (.done (some (o.push z++a.extract x a.size++b.extract (y+1) b.size),o.push z,x,y+1,mg,ac,bc))
def nu (a b p:Array vy)(x y ac bc mg:Nat):StateT vO Sem (ForInStep LoC):=do
  modify (λs=>SortSt.mk' (kindOf s) (vE s) (vL s) mg (failedOf s))
  let z ← elem' b y
  let __x ← gal false z a x (a.size-x) 0
  match __x with
  | some k =>
    if k>0 then
      if (x+k+1 == a.size)=true then pure (.done (some (p++a.extract x (x+k)++b.extract y b.size++a.extract (x+k) a.size),p++a.extract x (x+k),x+k,y,mg,k,bc))
      else if (x+k == a.size)=true then pure (.done (some (p++a.extract x (x+k)++a.extract (x+k) a.size++b.extract y b.size),p++a.extract x (x+k),x+k,y,mg,k,bc))
      else qN a b (p++a.extract x (x+k)) (x+k) y mg k bc
    else qN a b p x y mg k bc
  | _=>pure (.done (some (p++a.extract x a.size++b.extract y b.size),p,x,y,mg,ac,bc))
def LoQ (key:vy->O.α)(a b:Array vy)(st:vO)(n:Nat)(r:ForInStep LoC)(st':vO):Prop:=match r with
 | .done c=>Sm st st'/\((∃r p x y mg ac bc,c=(some r,p,x,y,mg,ac,bc)/\cK key a b r)\/∃p x y mg ac bc,c=(none,p,x,y,mg,ac,bc)/\MW key a b p x y/\x+1<a.size/\y<b.size/\n<=p.size)
 | .yield c=>Sm st st'/\∃p x y mg ac bc,c=(none,p,x,y,mg,ac,bc)/\MW key a b p x y/\x+1<a.size/\y<b.size/\n<=p.size
theorem LoQ.out {a b:Array vy}{st st':vO}{n:Nat}{r:Array vy}{c:Array vy×Nat×Nat×Nat×Nat×Nat}(sm:Sm st st')(f:cK key a b r):LoQ key a b st n (.done (some r,c)) st':=by
 obtain ⟨p,x,y,mg,ac,bc⟩:=c
 exact ⟨sm,.inl ⟨_,_,_,_,_,_,_,rfl,f⟩⟩
theorem lX {a b:Array vy}{st st':vO}(ha:a.toList.Pairwise (Le key))(hb:b.toList.Pairwise (Le key))(hl:∀p q,p∈b.toList->a[a.size-1]? = some q->Le key p q)
  {o:Array vy} {x y mg ac bc n:Nat} {za:vy} (sm:Sm st st') (ea:a[x]? = some za) (m4:MW key a b (o.push za) (x+1) y) (hx:x+1<a.size) (hy:y<b.size) (hn:n<=o.size):wpS (vK prog w) A E s (qM a b o x y mg ac bc) (LoQ key a b st n) st':=by
 unfold qM
 refine vt (aK ea ?_)
 by_cases d5:(x+1+1 == a.size)=true
 ·rw[if_pos d5]
  exact vB (LoQ.out sm (m4.last ha hb (beq_iff_eq.mp d5) hl))
 rw[if_neg d5]
 have hx2:x+1+1<a.size:=ltq hx d5
 have hn':n<=(o.push za).size:=by rw[xQ];exact zo hn
 split
 ·exact vB ⟨sm,.inr ⟨_,_,_,_,_,_,rfl,m4,hx2,hy,hn'⟩⟩
 ·exact vB ⟨sm,_,_,_,_,_,_,rfl,m4,hx2,hy,hn'⟩
theorem lY (C:Cmp prog w A s O key U κ){a b:Array vy}{st st':vO}(hκ:kindOf st=κ)(ua:∀p∈a.toList,U p)(ub:∀p∈b.toList,U p)
  (ha:a.toList.Pairwise (Le key)) (hb:b.toList.Pairwise (Le key)) (hl:∀p q,p∈b.toList->a[a.size-1]? = some q->Le key p q)
  {o:Array vy} {x y mg ac bc n:Nat} {zb:vy} (sm:Sm st st') (eb:b[y]? = some zb) (mk:MW key a b o x y) (bl:∀t∈a.toList.drop x,Le key zb t) (hx1:x+1<a.size) (hy:y<b.size) (hn:n<=o.size):wpS (vK prog w) A E s (qN a b o x y mg ac bc) (LoQ key a b st n) st':=by
 unfold qN
 refine vt (aK eb ?_)
 have m2:=mk.iT eb hb bl
 by_cases d3:(y+1 == b.size)=true
 ·rw[if_pos d3]
  exact vB (LoQ.out sm (m2.nk ha (beq_iff_eq.mp d3)))
 rw[if_neg d3]
 have hy1:y+1<b.size:=ltq hy d3
 have hxa:x<a.size:=Ao hx1
 obtain ⟨za,ea⟩:=aM hxa
 refine vt (aK ea ?_)
 refine vt (sN C (λi=>(b[y+1+i]?).getD za) (sm.k.trans hκ) (ua _ (bb ea)) (λi hi =>?_) (λi hi =>?_) (λi j hij hj =>?_) (BC hy1) λk1 hk1 g1 g2 =>?_)
 ·obtain ⟨z,e⟩:=aM (show y+1+i<b.size by omega)
  rw[e];rfl
 ·obtain ⟨z,e⟩:=aM (show y+1+i<b.size by omega)
  rw[e];exact ub _ (bb e)
 ·obtain ⟨z,e⟩:=aM (show y+1+i<b.size by omega)
  obtain ⟨z',e'⟩:=aM (show y+1+j<b.size by omega)
  rw[e,e'];exact ay hb (aq e) (aq e') (yU hij _)
 dsimp only at g1 g2 ⊢
 have tb:∀j q,j<k1->b.toList[y+1+j]? = some q->∀t∈a.toList.drop x,Le key q t:=λj q hj e t ht=>by
  have z:=g1 j hj
  rw[vv] at e
  rw[e] at z
  obtain ⟨n,hn,e2⟩:=aJ ht
  exact vU (wR z) (ay ha (aq ea) e2 hn)
 have hk1':y+1+k1<=b.size:=by omega
 have m3:=m2.pe (k:=k1) hk1' hb tb
 have bl2:∀t∈b.toList.drop (y+1+k1),Le key za t:=λt ht=>by
  obtain ⟨n,hn,e2⟩:=aJ ht
  rw[vv] at e2
  have hn2:n<b.size:=(wZ.mp e2).1
  have z:=g2 (n-(y+1)) (by omega) (by omega)
  rw[show y+1+(n-(y+1))=n by omega,e2] at z
  exact z
 have hn1:n<=(o.push zb).size:=by rw[xQ];exact zo hn
 by_cases k2:k1>0
 ·rw[if_pos k2]
  by_cases d4:(y+1+k1 == b.size)=true
  ·rw[if_pos d4]
   exact vB (LoQ.out sm (m3.nk ha (beq_iff_eq.mp d4)))
  rw[if_neg d4]
  exact lX ha hb hl sm ea (m3.f9 ea ha bl2) hx1 (ltq hk1' d4) (vP hn1 (by rw[yF];exact yq _ _))
 ·rw[if_neg k2]
  obtain rfl:k1=0:=yu k2
  exact lX ha hb hl sm ea (m2.f9 ea ha bl2) hx1 hy1 hn1
theorem lZ (C:Cmp prog w A s O key U κ){a b:Array vy}{st st':vO}(hκ:kindOf st=κ)(ua:∀p∈a.toList,U p)(ub:∀p∈b.toList,U p)
  (ha:a.toList.Pairwise (Le key)) (hb:b.toList.Pairwise (Le key)) (hl:∀p q,p∈b.toList->a[a.size-1]? = some q->Le key p q)
  {p:Array vy} {x y ac bc n:Nat} (mg:Nat) (sm:Sm st st') (m:MW key a b p x y) (hx:x+1<a.size) (hy:y<b.size) (hn:n<=p.size):wpS (vK prog w) A E s (nu a b p x y ac bc mg) (LoQ key a b st n) st':=by
 unfold nu
 obtain ⟨zb,eb⟩:=aM hy
 refine vt (xO ?_)
 refine vt (aK eb ?_)
 refine vt (sM C (λi=>(a[x+i]?).getD zb) ((sm.mg _).k.trans hκ) (ub _ (bb eb)) (λi hi =>?_) (λi hi =>?_) (λi j hij hj =>?_) (BC (Ao hx)) λk hk h1 h2 =>?_)
 ·obtain ⟨z,e⟩:=aM (show x+i<a.size by omega)
  rw[e];rfl
 ·obtain ⟨z,e⟩:=aM (show x+i<a.size by omega)
  rw[e];exact ua _ (bb e)
 ·obtain ⟨z,e⟩:=aM (show x+i<a.size by omega)
  obtain ⟨z',e'⟩:=aM (show x+j<a.size by omega)
  rw[e,e'];exact ay ha (aq e) (aq e') (yU hij _)
 dsimp only at h1 h2 ⊢
 have ta:∀j q,j<k->a.toList[x+j]? = some q->∀t∈b.toList.drop y,Le key q t:=λj q hj e t ht=>by
  have z:=h1 j hj
  rw[vv] at e
  rw[e] at z
  obtain ⟨n,hn,e2⟩:=aJ ht
  exact vU (show O.kle (key q) (key zb) from z) (ay hb (aq eb) e2 hn)
 have hk':x+k<=a.size:=by omega
 have mk:=m.fc (k:=k) hk' ha ta
 have bl:∀t∈a.toList.drop (x+k),Le key zb t:=λt ht=>by
  obtain ⟨n,hn,e2⟩:=aJ ht
  rw[vv] at e2
  have hn2:n<a.size:=(wZ.mp e2).1
  have z:=h2 (n-x) (by omega) (by omega)
  rw[show x+(n-x)=n by omega,e2] at z
  exact wR z
 by_cases k0:k>0
 ·rw[if_pos k0]
  by_cases d1:(x+k+1 == a.size)=true
  ·rw[if_pos d1]
   exact vB (LoQ.out (sm.mg _) (mk.last ha hb (beq_iff_eq.mp d1) hl))
  rw[if_neg d1]
  by_cases d2:(x+k == a.size)=true
  ·rw[if_pos d2]
   exact vB (LoQ.out (sm.mg _) (mk.nr hb (beq_iff_eq.mp d2)))
  rw[if_neg d2]
  exact lY C hκ ua ub ha hb hl (sm.mg _) eb mk bl (ltq (ltq hk' d2) d1) hy (vP hn (by rw[yF];exact yq _ _))
 ·rw[if_neg k0]
  obtain rfl:k=0:=yu k0
  exact lY C hκ ua ub ha hb hl (sm.mg _) eb m bl hx hy hn
theorem qO (C:Cmp prog w A s O key U κ){a b:Array vy}{st st':vO}(hκ:kindOf st=κ)(ua:∀p∈a.toList,U p)(ub:∀p∈b.toList,U p)
  (ha:a.toList.Pairwise (Le key)) (hb:b.toList.Pairwise (Le key)) (hl:∀p q,p∈b.toList->a[a.size-1]? = some q->Le key p q)
  {p:Array vy} {x y ac bc n mg:Nat} (sm:Sm st st') (m:MW key a b p x y) (hx:x+1<a.size) (hy:y<b.size) (hn:n<=p.size):wpS (vK prog w) A E s (if mg>1 then nu a b p x y ac bc (mg-1) else nu a b p x y ac bc mg) (LoQ key a b st n) st':=by
 split
 ·exact lZ C hκ ua ub ha hb hl (mg-1) sm m hx hy hn
 ·exact lZ C hκ ua ub ha hb hl mg sm m hx hy hn
abbrev LoD:=Option (Array vy)×Array vy×Nat×Nat×Nat×Nat
abbrev LoE:=Option (Array vy)×Array vy×Nat×Nat×Nat
def pf (a b:Array vy)(mg:Nat)(c:LoD):StateT vO Sem (ForInStep LoD):=do
  let u ← elem' b c.2.2.2.1
  let v ← elem' a c.2.2.1
  let __x ← lt' u v
  match __x with
  | some bw =>
    if bw=true then do
      let z ← elem' b c.2.2.2.1
      if (c.2.2.2.1+1 == b.size)=true then pure (.done (some (c.2.1.push z++a.extract c.2.2.1 a.size++b.extract (c.2.2.2.1+1) b.size),c.2.1.push z,c.2.2.1,c.2.2.2.1+1,0,c.2.2.2.2.2+1))
      else if c.2.2.2.2.2+1≥mg then pure (.done (none,c.2.1.push z,c.2.2.1,c.2.2.2.1+1,0,c.2.2.2.2.2+1))
      else pure (.yield (none,c.2.1.push z,c.2.2.1,c.2.2.2.1+1,0,c.2.2.2.2.2+1))
    else do
      let z ← elem' a c.2.2.1
      if (c.2.2.1+1+1 == a.size)=true then pure (.done (some (c.2.1.push z++b.extract c.2.2.2.1 b.size++a.extract (c.2.2.1+1) a.size),c.2.1.push z,c.2.2.1+1,c.2.2.2.1,c.2.2.2.2.1+1,0))
      else if c.2.2.2.2.1+1≥mg then pure (.done (none,c.2.1.push z,c.2.2.1+1,c.2.2.2.1,c.2.2.2.2.1+1,0))
      else pure (.yield (none,c.2.1.push z,c.2.2.1+1,c.2.2.2.1,c.2.2.2.2.1+1,0))
  | _=>pure (.done (some (c.2.1++a.extract c.2.2.1 a.size++b.extract c.2.2.2.1 b.size),c.2.1,c.2.2.1,c.2.2.2.1,c.2.2.2.2.1,c.2.2.2.2.2))
def sO (a b:Array vy)(c:LoC):StateT vO Sem (ForInStep LoC) :=
 if c.2.2.2.2.1>1 then nu a b c.2.1 c.2.2.1 c.2.2.2.1 c.2.2.2.2.2.1 c.2.2.2.2.2.2 (c.2.2.2.2.1-1) else nu a b c.2.1 c.2.2.1 c.2.2.2.1 c.2.2.2.2.2.1 c.2.2.2.2.2.2 c.2.2.2.2.1
def lh (a b:Array vy)(c:LoE):StateT vO Sem (ForInStep LoE):=do
  let d ← forIn [0:a.size+b.size] ((none,c.2.1,c.2.2.1,c.2.2.2.1,0,0):LoD) λ_ d=>pf a b c.2.2.2.2 d
  match d.1 with
  | some r=>pure (.done (some r,d.2.1,d.2.2.1,d.2.2.2.1,c.2.2.2.2))
  | none=>do
    rule "list.sort.gallop"
    let e ← forIn [0:a.size+b.size] ((none,d.2.1,d.2.2.1,d.2.2.2.1,c.2.2.2.2+1,d.2.2.2.2.1,d.2.2.2.2.2):LoC) λ_ e=>sO a b e
    match e.1 with
    | some r=>pure (.done (some r,e.2.1,e.2.2.1,e.2.2.2.1,e.2.2.2.2.1))
    | none=>do
      modify (λs=>SortSt.mk' (kindOf s) (vE s) (vL s) (e.2.2.2.2.1+1) (failedOf s))
      pure (.yield (none,e.2.1,e.2.2.1,e.2.2.2.1,e.2.2.2.2.1+1))
theorem qP (a b:Array vy):mLo a b=(do
    rule "list.sort.merge-lo"
    let z ← elem' b 0
    if (1 == b.size)=true then pure (#[z]++a.extract 0 a.size++b.extract 1 b.size)
    else if (0+1 == a.size)=true then pure (#[z]++b.extract 1 b.size++a.extract 0 a.size)
    else do
      let g ← get
      let c ← forIn [0:a.size+b.size] ((none, #[z],0,1,gallopOf g):LoE) λ_ c=>lh a b c
      match c.1 with
      | some r=>pure r
      | none=>unsupported "internal:list.sort.merge-bound"):=by
  kernel_rfl
def LdI (key:vy->O.α)(a b:Array vy)(st:vO)(n:Nat)(c:LoD)(st':vO):Prop:=Sm st st'/\∃o' x y ac bc,c=(none,o',x,y,ac,bc)/\MW key a b o' x y/\x+1<a.size/\y<b.size/\n<=o'.size
def LdQ (key:vy->O.α)(a b:Array vy)(st:vO)(n:Nat)(c:LoD)(st':vO):Prop:=Sm st st'/\((∃r o x y ac bc,c=(some r,o,x,y,ac,bc)/\cK key a b r)\/∃o' x y ac bc,c=(none,o',x,y,ac,bc)/\MW key a b o' x y/\x+1<a.size/\y<b.size/\n<=o'.size)
theorem ph (C:Cmp prog w A s O key U κ){a b:Array vy}{st st':vO}(hκ:kindOf st=κ)(ua:∀p∈a.toList,U p)(ub:∀p∈b.toList,U p)
  (ha:a.toList.Pairwise (Le key)) (hb:b.toList.Pairwise (Le key)) (hl:∀p q,p∈b.toList->a[a.size-1]? = some q->Le key p q)
  {mg n m':Nat} {c:LoD} (I:LdI key a b st n c st') (hm:m'<=n+1) {Q:ForInStep LoD->vO->Prop} (h:∀r st',(match r with | .done c'=>LdQ key a b st (n+1) c' st' | .yield c'=>LdI key a b st m' c' st')->Q r st'):wpS (vK prog w) A E s (pf a b mg c) Q st':=by
 obtain ⟨sm2,o',x,y,ac,bc,rfl,m,hx,hy,hz⟩:=I
 unfold pf
 obtain ⟨za,ea⟩:=aM (Ao hx)
 obtain ⟨zb,eb⟩:=aM hy
 refine vt (aK eb (vt (aK ea (vt (C.lt _ st' zb za _ (sm2.k.trans hκ) (ub _ (bb eb)) (ua _ (bb ea)) ?_)))))
 dsimp only
 have sz:∀z,n+1<=(o'.push z).size:=λz=>by rw[xQ];exact BW hz
 cases hlt:O.blt (key zb) (key za) with
 | true =>
  rw[if_pos rfl]
  refine vt (aK eb ?_)
  have m1:=m.iT eb hb λt ht=>by
   obtain ⟨n,hn,e⟩:=aJ ht
   exact vU (wR hlt) (ay ha (aq ea) e hn)
  by_cases c3:(y+1 == b.size)=true
  ·rw[if_pos c3]
   exact vB (h _ _ ⟨sm2,.inl ⟨_,_,_,_,_,_,rfl,m1.nk ha (beq_iff_eq.mp c3)⟩⟩)
  ·rw[if_neg c3]
   have c3':=ltq hy c3
   split
   ·exact vB (h _ _ ⟨sm2,.inr ⟨_,_,_,_,_,rfl,m1,hx,c3',sz _⟩⟩)
   ·exact vB (h _ _ ⟨sm2,_,_,_,_,_,rfl,m1,hx,c3',vP hm (sz _)⟩)
 | false =>
  rw[if_neg vp]
  refine vt (aK ea ?_)
  have m1:=m.f9 ea ha λt ht=>by
   obtain ⟨n,hn,e⟩:=aJ ht
   exact vU (show O.kle (key za) (key zb) from hlt) (ay hb (aq eb) e hn)
  by_cases c3:(x+1+1 == a.size)=true
  ·rw[if_pos c3]
   exact vB (h _ _ ⟨sm2,.inl ⟨_,_,_,_,_,_,rfl,m1.last ha hb (beq_iff_eq.mp c3) hl⟩⟩)
  ·rw[if_neg c3]
   have c3':=ltq hx c3
   split
   ·exact vB (h _ _ ⟨sm2,.inr ⟨_,_,_,_,_,rfl,m1,c3',hy,sz _⟩⟩)
   ·exact vB (h _ _ ⟨sm2,_,_,_,_,_,rfl,m1,c3',hy,vP hm (sz _)⟩)
def LeI (key:vy->O.α)(a b:Array vy)(st:vO)(n:Nat)(c:LoE)(st':vO):Prop:=Sm st st'/\∃o x y mg,c=(none,o,x,y,mg)/\MW key a b o x y/\x+1<a.size/\y<b.size/\n+1<=o.size
def LeQ (key:vy->O.α)(a b:Array vy)(st:vO)(c:LoE)(st':vO):Prop:=Sm st st'/\((∃r o x y mg,c=(some r,o,x,y,mg)/\cK key a b r)\/∃o x y mg,c=(none,o,x,y,mg)/\MW key a b o x y/\x+1<a.size/\y<b.size/\a.size+b.size+1<=o.size)
theorem nv (C:Cmp prog w A s O key U κ){a b:Array vy}{st st':vO}(hκ:kindOf st=κ)(ua:∀p∈a.toList,U p)(ub:∀p∈b.toList,U p)
  (ha:a.toList.Pairwise (Le key)) (hb:b.toList.Pairwise (Le key)) (na:0<a.size) (hl:∀p q,p∈b.toList->a[a.size-1]? = some q->Le key p q)
  {n:Nat} {c:LoE} (I:LeI key a b st n c st'):wpS (vK prog w) A E s (lh a b c) (λr st'=>match r with | .done c'=>LeQ key a b st c' st' | .yield c'=>LeI key a b st (n+1) c' st') st':=by
 obtain ⟨sm1,o,x,y,mg,rfl,m,hx,hy,hz⟩:=I
 unfold lh
 have q1:1<=a.size+b.size:=vP na (yq _ _)
 refine vt (xv (wJ (I:=λj c st'=>LdI key a b st (o.size+min j 1) c st') (Q:=LdQ key a b st (o.size+1)) (λj c st2 _ hj J=>ph (n:=o.size+min j 1) (m':=o.size+min (j+1) 1) C hκ ua ub ha hb hl J (by omega) λr st' k =>?_) (λc st' J =>?_) ⟨sm1,o,x,y,0,0,rfl,m,hx,hy,va _⟩) ?_)
 ·cases r with
  | done c'=>exact k.imp id λz=>z.imp id λ⟨o',x,y,ac,bc,e,m,hx,hy,hz⟩=>⟨o',x,y,ac,bc,e,m,hx,hy,by omega⟩
  | yield c'=>exact k
 ·obtain ⟨sm,o',x,y,ac,bc,e,m,hx,hy,hz⟩:=J
  exact ⟨sm,.inr ⟨o',x,y,ac,bc,e,m,hx,hy,by omega⟩⟩
 rintro c st2 ⟨sm2,⟨r,o',x,y,ac,bc,rfl,fr⟩ | ⟨o',x,y,ac,bc,rfl,m,hx,hy,hz2⟩⟩
 ·exact vB ⟨sm2,.inl ⟨_,_,_,_,_,rfl,fr⟩⟩
 dsimp only
 refine vt (Ad (xY ⟨rfl,?_⟩))
 refine vt (xv (wJ (I:=λ_ c st'=>LoQ key a b st o'.size (.yield c) st') (Q:=λc st'=>LoQ key a b st o'.size (.done c) st') (λj c st3 _ hj J =>?_) (λc st' J=>⟨J.1,.inr J.2⟩) ⟨sm2,o',x,y,_,ac,bc,rfl,m,hx,hy,va _⟩) ?_)
 ·obtain ⟨sm3,p,x,y,mg,ac,bc,rfl,m,hx,hy,hz3⟩:=J
  refine xv (qO C hκ ua ub ha hb hl sm3 m hx hy hz3) ?_
  intro r st' h
  cases r <;> exact h
 rintro c st3 ⟨sm3,⟨r,p,x,y,mg,ac,bc,rfl,fr⟩ | ⟨p,x,y,mg,ac,bc,rfl,m,hx,hy,hz3⟩⟩
 ·exact vB ⟨sm3,.inl ⟨_,_,_,_,_,rfl,fr⟩⟩
 ·dsimp only
  exact vt (xO (vB ⟨sm3.mg _,p,x,y,_,rfl,m,hx,hy,by omega⟩))
theorem sP (C:Cmp prog w A s O key U κ){a b:Array vy}{st:vO}{Q:Array vy->vO->Prop}(hκ:kindOf st=κ)(ua:∀p∈a.toList,U p)(ub:∀p∈b.toList,U p)
  (ha:a.toList.Pairwise (Le key)) (hb:b.toList.Pairwise (Le key)) (na:0<a.size) (nb:0<b.size) (h0:∀p q,b[0]? = some p->a[0]? = some q->Le key p q) (hl:∀p q,p∈b.toList->a[a.size-1]? = some q->Le key p q)
  (h:∀r st',Sm st st'->cK key a b r->Q r st'):wpS (vK prog w) A E s (mLo a b) Q st:=by
 rw[qP]
 refine vt (Ad (xY ⟨rfl,?_⟩))
 obtain ⟨b0,eb0⟩:=aM nb
 obtain ⟨a0,ea0⟩:=aM na
 have a0le:∀t∈a.toList,Le key a0 t:=λt ht=>by
  obtain ⟨i,e⟩:=v8.mp ht
  exact ay ha (aq ea0) e (vY _)
 have m0:MW key a b #[] 0 0:=⟨vY _,vY _,Ag _,List.Pairwise.nil,λp hp=>by cases hp⟩
 have m1:MW key a b #[b0] 0 1:=m0.iT eb0 hb λt ht=>vU (h0 _ _ eb0 ea0) (a0le t ht)
 refine vt (aK eb0 ?_)
 by_cases c1:(1 == b.size)=true
 ·rw[if_pos c1]
  exact vB (h _ st (Sm.refl st) (m1.nk ha (beq_iff_eq.mp c1)))
 rw[if_neg c1]
 by_cases c2:(0+1 == a.size)=true
 ·rw[if_pos c2]
  exact vB (h _ st (Sm.refl st) (m1.last ha hb (beq_iff_eq.mp c2) hl))
 rw[if_neg c2]
 refine vt (zW ?_)
 refine vt (xv (wJ (I:=λi c st'=>LeI key a b st i c st') (Q:=LeQ key a b st) (λi c st1 _ _ J=>xv (nv C hκ ua ub ha hb na hl J) λr st' h=>by cases r <;> exact h) (λc st' J =>?_) ⟨Sm.refl st,_,_,_,_,rfl,m1,ltq na c2,ltq nb c1,va _⟩) ?_)
 ·obtain ⟨sm,o,x,y,mg,e,m,hx,hy,hz⟩:=J
  exact ⟨sm,.inr ⟨o,x,y,mg,e,m,hx,hy,by omega⟩⟩
 rintro c st' ⟨sm,⟨r,o,x,y,mg,rfl,fr⟩ | ⟨o,x,y,mg,rfl,m,hx,hy,hz⟩⟩
 ·exact vB (h r st' sm fr)
 ·have:=m.size
  omega
end
open PySem PyProof.Rows
section
variable  {O:zJ}(key:vy->O.α)
structure MV (a b o:Array vy)(x y:Nat):Prop where
 hx:x<=a.size
 hy:y<=b.size
 perm:((a.toList.take x++b.toList.take y)++o.toList.reverse).Perm (a.toList++b.toList)
 sorted:o.toList.reverse.Pairwise (Le key)
 above:∀p∈a.toList.take x++b.toList.take y,∀q∈o.toList.reverse,Le key p q
variable  {key}
theorem MV.fin {a b o:Array vy}{x y:Nat}(m:MV key a b o x y){t:List vy}{r:Array vy}(hr:r.toList=t++o.toList.reverse)(ht:t.Perm (a.toList.take x++b.toList.take y))(hs:t.Pairwise (Le key)):cK key a b r:=by
 unfold cK
 rw[hr]
 exact ⟨(xU _ ht).trans m.perm,wd.mpr ⟨hs,m.sorted,λp hp q hq=>m.above p (ht.mem_iff.mp hp) q hq⟩⟩
theorem MV.take {a b o:Array vy}{x y x' y':Nat}(m:MV key a b o x y){t:List vy}{r:Array vy}(hr:r.toList.reverse=t++o.toList.reverse)(hx:x'<=a.size)(hy:y'<=b.size)
  (ht:((a.toList.take x'++b.toList.take y')++t).Perm (a.toList.take x++b.toList.take y)) (hs:t.Pairwise (Le key)) (hb:∀p∈a.toList.take x'++b.toList.take y',∀q∈t,Le key p q):MV key a b r x' y':=by
 have sub:∀z,z∈a.toList.take x'++b.toList.take y'\/z∈t->z∈a.toList.take x++b.toList.take y:=λz hz=>ht.mem_iff.mp (vx.mpr hz)
 refine ⟨hx,hy,?_,?_,?_⟩
 ·rw[hr, <- vZ]
  exact (xU _ ht).trans m.perm
 ·rw[hr]
  exact wd.mpr ⟨hs,m.sorted,λp hp q hq=>m.above p (sub p (.inr hp)) q hq⟩
 ·rw[hr]
  intro p hp z hz
  rcases vx.mp hz with h | h
  ·exact hb p hp z h
  ·exact m.above p (sub p (.inl hp)) z h
theorem aN {l:List vy}{k:Nat}{t:vy}(h:t∈l.take k):∃j,j<k/\l[j]? = some t:=by
 obtain ⟨n,e⟩:=v8.mp h
 rw[xF] at e
 split at e
 ·exact ⟨n,by omega,e⟩
 ·cases e
theorem iU {l:List vy}{x:Nat}{z:vy}(hx:1<=x)(h:l[x-1]? = some z):l.take x=l.take (x-1)++[z]:=by
 obtain ⟨n,rfl⟩:∃n,x=n+1:=⟨x-1,by omega⟩
 rw[Nat.add_sub_cancel] at h ⊢
 rw[vQ,h]
 rfl
theorem l7 (a:Array vy)(c x:Nat)(hx:x<=a.size):(a.extract c x).toList=(a.toList.take x).drop c:=by
 rw[w4,wD,List.drop_take]
theorem dQ (a:Array vy)(x:Nat):(a.extract 0 x).toList=a.toList.take x:=by
 rw[w4,wD,Cn,Nat.sub_zero]
theorem MV.f9 {a b o:Array vy}{x y:Nat}{z:vy}(m:MV key a b o x y)(h1:1<=x)(h:a[x-1]? = some z)(ha:a.toList.Pairwise (Le key))(hb:∀t∈b.toList.take y,Le key t z):MV key a b (o.push z) (x-1) y:=by
 have e:=iU h1 (aq h)
 refine m.take (t:=[z]) (by rw[xN,yV];rfl) (by have:=m.hx;omega) m.hy ?_ (wz _ _) λp hp q hq =>?_
 ·rw[e,vZ,vZ]
  exact xy _ yx
 ·have eq:q=z:=by simpa using hq
  subst eq
  rcases vx.mp hp with r | r
  ·obtain ⟨j,hj,e2⟩:=aN r
   exact ay ha e2 (aq h) (by omega)
  ·exact hb p r
theorem MV.iT {a b o:Array vy}{x y:Nat}{z:vy}(m:MV key a b o x y)(h1:1<=y)(h:b[y-1]? = some z)(hb:b.toList.Pairwise (Le key))(ha:∀t∈a.toList.take x,Le key t z):MV key a b (o.push z) x (y-1):=by
 have e:=iU h1 (aq h)
 refine m.take (t:=[z]) (by rw[xN,yV];rfl) m.hx (by have:=m.hy;omega) ?_ (wz _ _) λp hp q hq =>?_
 ·rw[e,vZ]
 ·have eq:q=z:=by simpa using hq
  subst eq
  rcases vx.mp hp with r | r
  ·exact ha p r
  ·obtain ⟨j,hj,e2⟩:=aN r
   exact ay hb e2 (aq h) (by omega)
theorem ma (l:List vy){c x:Nat}(h:c<=x):l.take x=l.take c++(l.take x).drop c:=by
 have e:(l.take x).take c=l.take c:=by rw[List.take_take,Nat.min_eq_left h]
 rw[<- e,xA]
theorem gL {l:List vy}{c x:Nat}{t:vy}(h:t∈(l.take x).drop c):∃j,c<=j/\j<x/\l[j]? = some t:=by
 obtain ⟨j,hj,e⟩:=aJ h
 rw[xF] at e
 split at e
 ·exact ⟨j,hj,by omega,e⟩
 ·cases e
theorem MV.fc {a b o:Array vy}{x y c:Nat}(m:MV key a b o x y)(hc:c<=x)(ha:a.toList.Pairwise (Le key))(hb:∀j p,c<=j->j<x->a.toList[j]? = some p->∀t∈b.toList.take y,Le key t p):MV key a b (o++(a.extract c x).reverse) c y:=by
 refine m.take (t:=(a.toList.take x).drop c) (by rw[vS,yV,yd,A5,l7 _ _ _ m.hx]) (vP hc m.hx) m.hy ?_ ?_ λp hp q hq =>?_
 ·refine List.Perm.trans ?_ (xU _ (List.Perm.of_eq (ma a.toList hc).symm))
  rw[vZ,vZ]
  exact xy _ yx
 ·exact ha.sublist ((wH _ _).trans (wQ _ _))
 ·obtain ⟨j,h1,h2,e⟩:=gL hq
  rcases vx.mp hp with r | r
  ·obtain ⟨i,hi,e2⟩:=aN r
   exact ay ha e2 e (by omega)
  ·exact hb j q h1 h2 e p r
theorem MV.pe {a b o:Array vy}{x y c:Nat}(m:MV key a b o x y)(hc:c<=y)(hb:b.toList.Pairwise (Le key))(ha:∀j p,c<=j->j<y->b.toList[j]? = some p->∀t∈a.toList.take x,Le key t p):MV key a b (o++(b.extract c y).reverse) x c:=by
 refine m.take (t:=(b.toList.take y).drop c) (by rw[vS,yV,yd,A5,l7 _ _ _ m.hy]) m.hx (vP hc m.hy) ?_ ?_ λp hp q hq =>?_
 ·rw[vZ, <- ma b.toList hc]
 ·exact hb.sublist ((wH _ _).trans (wQ _ _))
 ·obtain ⟨j,h1,h2,e⟩:=gL hq
  rcases vx.mp hp with r | r
  ·exact ha j q h1 h2 e p r
  ·obtain ⟨i,hi,e2⟩:=aN r
   exact ay hb e2 e (by omega)
theorem MV.nr {a b o:Array vy}{x y:Nat}(m:MV key a b o x y)(hb:b.toList.Pairwise (Le key))(hx:x=0):cK key a b (a.extract 0 x++b.extract 0 y++o.reverse):=by
 subst hx
 refine m.fin (t:=b.toList.take y) (by rw[vS,vS,dQ,dQ,yd,Ah,zP]) (by rw[Ah,zP]) (hb.sublist (wQ _ _))
theorem MV.nk {a b o:Array vy}{x y:Nat}(m:MV key a b o x y)(ha:a.toList.Pairwise (Le key))(hy:y=0):cK key a b (a.extract 0 x++b.extract 0 y++o.reverse):=by
 subst hy
 refine m.fin (t:=a.toList.take x) (by rw[vS,vS,dQ,dQ,yd,Ah,wM]) (by rw[Ah,wM]) (ha.sublist (wQ _ _))
theorem MV.first {a b o:Array vy}{x y:Nat}(m:MV key a b o x y)(ha:a.toList.Pairwise (Le key))(hb:b.toList.Pairwise (Le key))(hy:y=1)(hl:∀p q,b[0]? = some p->q∈a.toList->Le key p q):cK key a b (b.extract 0 y++a.extract 0 x++o.reverse):=by
 refine m.fin (t:=b.toList.take y++a.toList.take x) (by rw[vS,vS,dQ,dQ,yd]) yx ?_
 refine wd.mpr ⟨hb.sublist (wQ _ _),ha.sublist (wQ _ _),λp hp q hq=>hl p q ?_ (ye hq)⟩
 obtain ⟨i,hi,e⟩:=aN hp
 rw[vv] at e
 rw[show i=0 by omega] at e
 exact e
theorem MV.size {a b o:Array vy}{x y:Nat}(m:MV key a b o x y):o.size+x+y=a.size+b.size:=by
 have e:=m.perm.length_eq
 have h1:=m.hx
 have h2:=m.hy
 simp only[u9,v3,vo,yW] at e
 omega
end
open PySem PyProof.Rows
section
variable  {prog:vI}{w:wc}{A:v7}{E:uW->uZ->Prop}{s:uZ}{O:zJ}{key:vy->O.α}{U:vy->Prop}{κ:SortKind}
abbrev HiC:=Option (Array vy)×Nat×Nat×Array vy×Nat×Nat×Nat
def qQ (a b:Array vy)(x y:Nat)(o:Array vy)(mg ac bc:Nat):StateT vO Sem (ForInStep HiC):=do
  let z ← elem' a (x-1)
  if (x-1 == 0)=true then pure (.done (some (a.extract 0 (x-1)++b.extract 0 y++(o.push z).reverse),x-1,y,o.push z,mg,ac,bc))
  else if (decide (ac<7) && decide (bc<7))=true then pure (.done (none,x-1,y,o.push z,mg,ac,bc))
  else pure (.yield (none,x-1,y,o.push z,mg,ac,bc))
def qR (a b:Array vy)(x y:Nat)(o:Array vy)(mg ac bc:Nat):StateT vO Sem (ForInStep HiC):=do
  let z ← elem' b (y-1)
  if (y-1 == 1)=true then pure (.done (some (b.extract 0 (y-1)++a.extract 0 x++(o.push z).reverse),x,y-1,o.push z,mg,ac,bc))
  else do
    let z2 ← elem' a (x-1)
    let __x ← gal true z2 b 0 (y-1) (y-1-1)
    match __x with
    | some c =>
      if y-1-c>0 then
        if (c == 1)=true then pure (.done (some (b.extract 0 c++a.extract 0 x++(o.push z++(b.extract c (y-1)).reverse).reverse),x,c,o.push z++(b.extract c (y-1)).reverse,mg,ac,y-1-c))
        else if (c == 0)=true then pure (.done (some (a.extract 0 x++b.extract 0 c++(o.push z++(b.extract c (y-1)).reverse).reverse),x,c,o.push z++(b.extract c (y-1)).reverse,mg,ac,y-1-c))
        else qQ a b x c (o.push z++(b.extract c (y-1)).reverse) mg ac (y-1-c)
      else qQ a b x (y-1) (o.push z) mg ac (y-1-c)
    | _=>pure (.done (some (a.extract 0 x++b.extract 0 (y-1)++(o.push z).reverse),x,y-1,o.push z,mg,ac,bc))
def nz (a b:Array vy)(x y:Nat)(p:Array vy)(ac bc mg:Nat):StateT vO Sem (ForInStep HiC):=do
  modify (λs=>SortSt.mk' (kindOf s) (vE s) (vL s) mg (failedOf s))
  let z ← elem' b (y-1)
  let __x ← gal false z a 0 x (x-1)
  match __x with
  | some c =>
    if x-c>0 then
      if (c == 0)=true then pure (.done (some (a.extract 0 c++b.extract 0 y++(p++(a.extract c x).reverse).reverse),c,y,p++(a.extract c x).reverse,mg,x-c,bc))
      else qR a b c y (p++(a.extract c x).reverse) mg (x-c) bc
    else qR a b x y p mg (x-c) bc
  | _=>pure (.done (some (a.extract 0 x++b.extract 0 y++p.reverse),x,y,p,mg,ac,bc))
def HiQ (key:vy->O.α)(a b:Array vy)(st:vO)(n:Nat)(r:ForInStep HiC)(st':vO):Prop:=match r with
 | .done c=>Sm st st'/\((∃r x y p mg ac bc,c=(some r,x,y,p,mg,ac,bc)/\cK key a b r)\/∃x y p mg ac bc,c=(none,x,y,p,mg,ac,bc)/\MV key a b p x y/\1<=x/\2<=y/\n<=p.size)
 | .yield c=>Sm st st'/\∃x y p mg ac bc,c=(none,x,y,p,mg,ac,bc)/\MV key a b p x y/\1<=x/\2<=y/\n<=p.size
theorem HiQ.out {a b:Array vy}{st st':vO}{n:Nat}{r:Array vy}{c:Nat×Nat×Array vy×Nat×Nat×Nat}(sm:Sm st st')(f:cK key a b r):HiQ key a b st n (.done (some r,c)) st':=by
 obtain ⟨p,x,y,mg,ac,bc⟩:=c
 exact ⟨sm,.inl ⟨_,_,_,_,_,_,_,rfl,f⟩⟩
theorem pk {x:Nat}(c:¬ (x == 0)=true):1<=x:=Nat.pos_of_ne_zero λz=>c (beq_iff_eq.mpr z)
theorem qS {y:Nat}(h:1<=y)(c:¬ (y == 1)=true):2<=y:=Bn h λz=>c (beq_iff_eq.mpr z.symm)
theorem me {a b:Array vy}{st st':vO}(hb:b.toList.Pairwise (Le key))
  {o:Array vy} {x y mg ac bc n:Nat} {za:vy} (sm:Sm st st') (ea:a[x-1]? = some za) (m4:MV key a b (o.push za) (x-1) y) (hy:2<=y) (hn:n<=o.size):wpS (vK prog w) A E s (qQ a b x y o mg ac bc) (HiQ key a b st n) st':=by
 unfold qQ
 refine vt (aK ea ?_)
 by_cases d5:(x-1 == 0)=true
 ·rw[if_pos d5]
  exact vB (HiQ.out sm (m4.nr hb (beq_iff_eq.mp d5)))
 rw[if_neg d5]
 have hx2:=pk d5
 have hn':n<=(o.push za).size:=by rw[xQ];exact zo hn
 split
 ·exact vB ⟨sm,.inr ⟨_,_,_,_,_,_,rfl,m4,hx2,hy,hn'⟩⟩
 ·exact vB ⟨sm,_,_,_,_,_,_,rfl,m4,hx2,hy,hn'⟩
theorem mf (C:Cmp prog w A s O key U κ){a b:Array vy}{st st':vO}(hκ:kindOf st=κ)(ua:∀p∈a.toList,U p)(ub:∀p∈b.toList,U p)
  (ha:a.toList.Pairwise (Le key)) (hb:b.toList.Pairwise (Le key)) (h0:∀p q,b[0]? = some p->q∈a.toList->Le key p q)
  {o:Array vy} {x y mg ac bc n:Nat} {zb:vy} (sm:Sm st st') (eb:b[y-1]? = some zb) (mk:MV key a b o x y) (bl:∀t∈a.toList.take x,Le key t zb) (hx1:1<=x) (hy:2<=y) (hn:n<=o.size):wpS (vK prog w) A E s (qR a b x y o mg ac bc) (HiQ key a b st n) st':=by
 unfold qR
 refine vt (aK eb ?_)
 have m2:=mk.iT (BD hy) eb hb bl
 have y1:1<=y-1:=xI hy
 have bx1:=mk.hx
 have by1:=mk.hy
 by_cases d3:(y-1 == 1)=true
 ·rw[if_pos d3]
  exact vB (HiQ.out sm (m2.first ha hb (beq_iff_eq.mp d3) h0))
 rw[if_neg d3]
 have hy1:=qS y1 d3
 obtain ⟨za,ea⟩:=aM (show x-1<a.size by omega)
 refine vt (aK ea ?_)
 refine vt (sN C (λi=>(b[i]?).getD za) (sm.k.trans hκ) (ua _ (bb ea)) (λi hi =>?_) (λi hi =>?_) (λi j hij hj =>?_) (zH y1) λc2 hc2 g1 g2 =>?_)
 ·obtain ⟨z,e⟩:=aM (show i<b.size by omega)
  rw[yZ,e];rfl
 ·obtain ⟨z,e⟩:=aM (show i<b.size by omega)
  rw[e];exact ub _ (bb e)
 ·obtain ⟨z,e⟩:=aM (show i<b.size by omega)
  obtain ⟨z',e'⟩:=aM (show j<b.size by omega)
  rw[e,e'];exact ay hb (aq e) (aq e') hij
 dsimp only at g1 g2 ⊢
 have tb:∀j q,c2<=j->j<y-1->b.toList[j]? = some q->∀t∈a.toList.take x,Le key t q:=λj q hj hj2 e t ht=>by
  have z:=g2 j hj hj2
  rw[vv] at e
  rw[e] at z
  obtain ⟨n,hn,e2⟩:=aN ht
  exact vU (ay ha e2 (aq ea) (xI hn)) z
 have m3:=m2.pe hc2 hb tb
 have bl2:∀t∈b.toList.take c2,Le key t za:=λt ht=>by
  obtain ⟨n,hn,e2⟩:=aN ht
  rw[vv] at e2
  have z:=g1 n hn
  rw[e2] at z
  exact wR z
 have hn1:n<=(o.push zb).size:=by rw[xQ];exact zo hn
 by_cases k2:y-1-c2>0
 ·rw[if_pos k2]
  by_cases d4:(c2 == 1)=true
  ·rw[if_pos d4]
   exact vB (HiQ.out sm (m3.first ha hb (beq_iff_eq.mp d4) h0))
  rw[if_neg d4]
  by_cases d6:(c2 == 0)=true
  ·rw[if_pos d6]
   exact vB (HiQ.out sm (m3.nk ha (beq_iff_eq.mp d6)))
  rw[if_neg d6]
  exact me hb sm ea (m3.f9 hx1 ea ha bl2) (qS (pk d6) d4) (vP hn1 (by rw[yF];exact yq _ _))
 ·rw[if_neg k2]
  have ec2:c2=y-1:=B8 hc2 (AX (yu k2))
  rw[ec2] at bl2
  exact me hb sm ea (m2.f9 hx1 ea ha bl2) hy1 hn1
theorem mh (C:Cmp prog w A s O key U κ){a b:Array vy}{st st':vO}(hκ:kindOf st=κ)(ua:∀p∈a.toList,U p)(ub:∀p∈b.toList,U p)
  (ha:a.toList.Pairwise (Le key)) (hb:b.toList.Pairwise (Le key)) (h0:∀p q,b[0]? = some p->q∈a.toList->Le key p q)
  {p:Array vy} {x y ac bc n:Nat} (mg:Nat) (sm:Sm st st') (m:MV key a b p x y) (hx:1<=x) (hy:2<=y) (hn:n<=p.size):wpS (vK prog w) A E s (nz a b x y p ac bc mg) (HiQ key a b st n) st':=by
 unfold nz
 have bx:=m.hx
 have by':=m.hy
 obtain ⟨zb,eb⟩:=aM (show y-1<b.size by omega)
 refine vt (xO ?_)
 refine vt (aK eb ?_)
 refine vt (sM C (λi=>(a[i]?).getD zb) ((sm.mg _).k.trans hκ) (ub _ (bb eb)) (λi hi =>?_) (λi hi =>?_) (λi j hij hj =>?_) (zH hx) λc hc h1 h2 =>?_)
 ·obtain ⟨z,e⟩:=aM (vF hi bx)
  rw[yZ,e];rfl
 ·obtain ⟨z,e⟩:=aM (vF hi bx)
  rw[e];exact ua _ (bb e)
 ·obtain ⟨z,e⟩:=aM (show i<a.size by omega)
  obtain ⟨z',e'⟩:=aM (show j<a.size by omega)
  rw[e,e'];exact ay ha (aq e) (aq e') hij
 dsimp only at h1 h2 ⊢
 have ta:∀j q,c<=j->j<x->a.toList[j]? = some q->∀t∈b.toList.take y,Le key t q:=λj q hj hj2 e t ht=>by
  have z:=h2 j hj hj2
  rw[vv] at e
  rw[e] at z
  obtain ⟨n,hn,e2⟩:=aN ht
  exact vU (ay hb e2 (aq eb) (xI hn)) (wR z)
 have mk:=m.fc hc ha ta
 have bl:∀t∈a.toList.take c,Le key t zb:=λt ht=>by
  obtain ⟨n,hn,e2⟩:=aN ht
  rw[vv] at e2
  have z:=h1 n hn
  rw[e2] at z
  exact z
 by_cases k0:x-c>0
 ·rw[if_pos k0]
  by_cases d1:(c == 0)=true
  ·rw[if_pos d1]
   exact vB (HiQ.out (sm.mg _) (mk.nr hb (beq_iff_eq.mp d1)))
  rw[if_neg d1]
  exact mf C hκ ua ub ha hb h0 (sm.mg _) eb mk bl (pk d1) hy (vP hn (by rw[yF];exact yq _ _))
 ·rw[if_neg k0]
  have ec:c=x:=B8 hc (AX (yu k0))
  rw[ec] at bl
  exact mf C hκ ua ub ha hb h0 (sm.mg _) eb m bl hx hy hn
theorem qT (C:Cmp prog w A s O key U κ){a b:Array vy}{st st':vO}(hκ:kindOf st=κ)(ua:∀p∈a.toList,U p)(ub:∀p∈b.toList,U p)
  (ha:a.toList.Pairwise (Le key)) (hb:b.toList.Pairwise (Le key)) (h0:∀p q,b[0]? = some p->q∈a.toList->Le key p q)
  {p:Array vy} {x y ac bc n mg:Nat} (sm:Sm st st') (m:MV key a b p x y) (hx:1<=x) (hy:2<=y) (hn:n<=p.size):wpS (vK prog w) A E s (if mg>1 then nz a b x y p ac bc (mg-1) else nz a b x y p ac bc mg) (HiQ key a b st n) st':=by
 split
 ·exact mh C hκ ua ub ha hb h0 (mg-1) sm m hx hy hn
 ·exact mh C hκ ua ub ha hb h0 mg sm m hx hy hn
abbrev HiD:=Option (Array vy)×Nat×Nat×Array vy×Nat×Nat
abbrev HiE:=Option (Array vy)×Nat×Nat×Array vy×Nat
def pq (a b:Array vy)(mg:Nat)(c:HiD):StateT vO Sem (ForInStep HiD):=do
  let u ← elem' b (c.2.2.1-1)
  let v ← elem' a (c.2.1-1)
  let __x ← lt' u v
  match __x with
  | some aw =>
    if aw=true then do
      let z ← elem' a (c.2.1-1)
      if (c.2.1-1 == 0)=true then pure (.done (some (a.extract 0 (c.2.1-1)++b.extract 0 c.2.2.1++(c.2.2.2.1.push z).reverse),c.2.1-1,c.2.2.1,c.2.2.2.1.push z,c.2.2.2.2.1+1,0))
      else if c.2.2.2.2.1+1≥mg then pure (.done (none,c.2.1-1,c.2.2.1,c.2.2.2.1.push z,c.2.2.2.2.1+1,0))
      else pure (.yield (none,c.2.1-1,c.2.2.1,c.2.2.2.1.push z,c.2.2.2.2.1+1,0))
    else do
      let z ← elem' b (c.2.2.1-1)
      if (c.2.2.1-1 == 1)=true then pure (.done (some (b.extract 0 (c.2.2.1-1)++a.extract 0 c.2.1++(c.2.2.2.1.push z).reverse),c.2.1,c.2.2.1-1,c.2.2.2.1.push z,0,c.2.2.2.2.2+1))
      else if c.2.2.2.2.2+1≥mg then pure (.done (none,c.2.1,c.2.2.1-1,c.2.2.2.1.push z,0,c.2.2.2.2.2+1))
      else pure (.yield (none,c.2.1,c.2.2.1-1,c.2.2.2.1.push z,0,c.2.2.2.2.2+1))
  | _=>pure (.done (some (a.extract 0 c.2.1++b.extract 0 c.2.2.1++c.2.2.2.1.reverse),c.2.1,c.2.2.1,c.2.2.2.1,c.2.2.2.2.1,c.2.2.2.2.2))
def sQ (a b:Array vy)(c:HiC):StateT vO Sem (ForInStep HiC) :=
 if c.2.2.2.2.1>1 then nz a b c.2.1 c.2.2.1 c.2.2.2.1 c.2.2.2.2.2.1 c.2.2.2.2.2.2 (c.2.2.2.2.1-1) else nz a b c.2.1 c.2.2.1 c.2.2.2.1 c.2.2.2.2.2.1 c.2.2.2.2.2.2 c.2.2.2.2.1
def lq (a b:Array vy)(c:HiE):StateT vO Sem (ForInStep HiE):=do
  let d ← forIn [0:a.size+b.size] ((none,c.2.1,c.2.2.1,c.2.2.2.1,0,0):HiD) λ_ d=>pq a b c.2.2.2.2 d
  match d.1 with
  | some r=>pure (.done (some r,d.2.1,d.2.2.1,d.2.2.2.1,c.2.2.2.2))
  | none=>do
    rule "list.sort.gallop"
    let e ← forIn [0:a.size+b.size] ((none,d.2.1,d.2.2.1,d.2.2.2.1,c.2.2.2.2+1,d.2.2.2.2.1,d.2.2.2.2.2):HiC) λ_ e=>sQ a b e
    match e.1 with
    | some r=>pure (.done (some r,e.2.1,e.2.2.1,e.2.2.2.1,e.2.2.2.2.1))
    | none=>do
      modify (λs=>SortSt.mk' (kindOf s) (vE s) (vL s) (e.2.2.2.2.1+1) (failedOf s))
      pure (.yield (none,e.2.1,e.2.2.1,e.2.2.2.1,e.2.2.2.2.1+1))
theorem qU (a b:Array vy):mHi a b=(do
    rule "list.sort.merge-hi"
    let z ← elem' a (a.size-1)
    if (a.size-1 == 0)=true then pure (a.extract 0 (a.size-1)++b.extract 0 b.size++(#[z]:Array vy).reverse)
    else if (b.size == 1)=true then pure (b.extract 0 b.size++a.extract 0 (a.size-1)++(#[z]:Array vy).reverse)
    else do
      let g ← get
      let c ← forIn [0:a.size+b.size] ((none,a.size-1,b.size, #[z],gallopOf g):HiE) λ_ c=>lq a b c
      match c.1 with
      | some r=>pure r
      | none=>unsupported "internal:list.sort.merge-bound"):=by
  kernel_rfl
def HdI (key:vy->O.α)(a b:Array vy)(st:vO)(n:Nat)(c:HiD)(st':vO):Prop:=Sm st st'/\∃x y o' ac bc,c=(none,x,y,o',ac,bc)/\MV key a b o' x y/\1<=x/\2<=y/\n<=o'.size
def HdQ (key:vy->O.α)(a b:Array vy)(st:vO)(n:Nat)(c:HiD)(st':vO):Prop:=Sm st st'/\((∃r x y o ac bc,c=(some r,x,y,o,ac,bc)/\cK key a b r)\/∃x y o' ac bc,c=(none,x,y,o',ac,bc)/\MV key a b o' x y/\1<=x/\2<=y/\n<=o'.size)
theorem px (C:Cmp prog w A s O key U κ){a b:Array vy}{st st':vO}(hκ:kindOf st=κ)(ua:∀p∈a.toList,U p)(ub:∀p∈b.toList,U p)
  (ha:a.toList.Pairwise (Le key)) (hb:b.toList.Pairwise (Le key)) (h0:∀p q,b[0]? = some p->q∈a.toList->Le key p q)
  {mg n m':Nat} {c:HiD} (I:HdI key a b st n c st') (hm:m'<=n+1) {Q:ForInStep HiD->vO->Prop} (h:∀r st',(match r with | .done c'=>HdQ key a b st (n+1) c' st' | .yield c'=>HdI key a b st m' c' st')->Q r st'):wpS (vK prog w) A E s (pq a b mg c) Q st':=by
 obtain ⟨sm2,x,y,o',ac,bc,rfl,m,hx,hy,hz⟩:=I
 unfold pq
 have bx:=m.hx
 have by':=m.hy
 obtain ⟨za,ea⟩:=aM (show x-1<a.size by omega)
 obtain ⟨zb,eb⟩:=aM (show y-1<b.size by omega)
 refine vt (aK eb (vt (aK ea (vt (C.lt _ st' zb za _ (sm2.k.trans hκ) (ub _ (bb eb)) (ua _ (bb ea)) ?_)))))
 dsimp only
 have sz:∀z,n+1<=(o'.push z).size:=λz=>by rw[xQ];exact BW hz
 cases hlt:O.blt (key zb) (key za) with
 | true =>
  rw[if_pos rfl]
  refine vt (aK ea ?_)
  have m1:=m.f9 hx ea ha λt ht=>by
   obtain ⟨n,hn,e⟩:=aN ht
   exact vU (ay hb e (aq eb) (xI hn)) (wR hlt)
  by_cases c3:(x-1 == 0)=true
  ·rw[if_pos c3]
   exact vB (h _ _ ⟨sm2,.inl ⟨_,_,_,_,_,_,rfl,m1.nr hb (beq_iff_eq.mp c3)⟩⟩)
  ·rw[if_neg c3]
   have c3':=pk c3
   split
   ·exact vB (h _ _ ⟨sm2,.inr ⟨_,_,_,_,_,rfl,m1,c3',hy,sz _⟩⟩)
   ·exact vB (h _ _ ⟨sm2,_,_,_,_,_,rfl,m1,c3',hy,vP hm (sz _)⟩)
 | false =>
  rw[if_neg vp]
  refine vt (aK eb ?_)
  have m1:=m.iT (BD hy) eb hb λt ht=>by
   obtain ⟨n,hn,e⟩:=aN ht
   exact vU (ay ha e (aq ea) (xI hn)) (show O.kle (key za) (key zb) from hlt)
  by_cases c3:(y-1 == 1)=true
  ·rw[if_pos c3]
   exact vB (h _ _ ⟨sm2,.inl ⟨_,_,_,_,_,_,rfl,m1.first ha hb (beq_iff_eq.mp c3) h0⟩⟩)
  ·rw[if_neg c3]
   have c3':=qS (xI hy) c3
   split
   ·exact vB (h _ _ ⟨sm2,.inr ⟨_,_,_,_,_,rfl,m1,hx,c3',sz _⟩⟩)
   ·exact vB (h _ _ ⟨sm2,_,_,_,_,_,rfl,m1,hx,c3',vP hm (sz _)⟩)
def HeI (key:vy->O.α)(a b:Array vy)(st:vO)(n:Nat)(c:HiE)(st':vO):Prop:=Sm st st'/\∃x y o mg,c=(none,x,y,o,mg)/\MV key a b o x y/\1<=x/\2<=y/\n+1<=o.size
def HeQ (key:vy->O.α)(a b:Array vy)(st:vO)(c:HiE)(st':vO):Prop:=Sm st st'/\((∃r x y o mg,c=(some r,x,y,o,mg)/\cK key a b r)\/∃x y o mg,c=(none,x,y,o,mg)/\MV key a b o x y/\1<=x/\2<=y/\a.size+b.size+1<=o.size)
theorem nA (C:Cmp prog w A s O key U κ){a b:Array vy}{st st':vO}(hκ:kindOf st=κ)(ua:∀p∈a.toList,U p)(ub:∀p∈b.toList,U p)
  (ha:a.toList.Pairwise (Le key)) (hb:b.toList.Pairwise (Le key)) (h0:∀p q,b[0]? = some p->q∈a.toList->Le key p q) (na:0<a.size)
  {n:Nat} {c:HiE} (I:HeI key a b st n c st'):wpS (vK prog w) A E s (lq a b c) (λr st'=>match r with | .done c'=>HeQ key a b st c' st' | .yield c'=>HeI key a b st (n+1) c' st') st':=by
 obtain ⟨sm1,x,y,o,mg,rfl,m,hx,hy,hz⟩:=I
 unfold lq
 have q1:1<=a.size+b.size:=vP na (yq _ _)
 refine vt (xv (wJ (I:=λj c st'=>HdI key a b st (o.size+min j 1) c st') (Q:=HdQ key a b st (o.size+1)) (λj c st2 _ hj J=>px (n:=o.size+min j 1) (m':=o.size+min (j+1) 1) C hκ ua ub ha hb h0 J (by omega) λr st' k =>?_) (λc st' J =>?_) ⟨sm1,x,y,o,0,0,rfl,m,hx,hy,va _⟩) ?_)
 ·cases r with
  | done c'=>exact k.imp id λz=>z.imp id λ⟨x,y,o',ac,bc,e,m,hx,hy,hz⟩=>⟨x,y,o',ac,bc,e,m,hx,hy,by omega⟩
  | yield c'=>exact k
 ·obtain ⟨sm,x,y,o',ac,bc,e,m,hx,hy,hz⟩:=J
  exact ⟨sm,.inr ⟨x,y,o',ac,bc,e,m,hx,hy,by omega⟩⟩
 rintro c st2 ⟨sm2,⟨r,x,y,o',ac,bc,rfl,fr⟩ | ⟨x,y,o',ac,bc,rfl,m,hx,hy,hz2⟩⟩
 ·exact vB ⟨sm2,.inl ⟨_,_,_,_,_,rfl,fr⟩⟩
 dsimp only
 refine vt (Ad (xY ⟨rfl,?_⟩))
 refine vt (xv (wJ (I:=λ_ c st'=>HiQ key a b st o'.size (.yield c) st') (Q:=λc st'=>HiQ key a b st o'.size (.done c) st') (λj c st3 _ hj J =>?_) (λc st' J=>⟨J.1,.inr J.2⟩) ⟨sm2,x,y,o',_,ac,bc,rfl,m,hx,hy,va _⟩) ?_)
 ·obtain ⟨sm3,x,y,p,mg,ac,bc,rfl,m,hx,hy,hz3⟩:=J
  refine xv (qT C hκ ua ub ha hb h0 sm3 m hx hy hz3) ?_
  intro r st' h
  cases r <;> exact h
 rintro c st3 ⟨sm3,⟨r,x,y,p,mg,ac,bc,rfl,fr⟩ | ⟨x,y,p,mg,ac,bc,rfl,m,hx,hy,hz3⟩⟩
 ·exact vB ⟨sm3,.inl ⟨_,_,_,_,_,rfl,fr⟩⟩
 ·dsimp only
  exact vt (xO (vB ⟨sm3.mg _,x,y,p,_,rfl,m,hx,hy,by omega⟩))
theorem sR (C:Cmp prog w A s O key U κ){a b:Array vy}{st:vO}{Q:Array vy->vO->Prop}(hκ:kindOf st=κ)(ua:∀p∈a.toList,U p)(ub:∀p∈b.toList,U p)
  (ha:a.toList.Pairwise (Le key)) (hb:b.toList.Pairwise (Le key)) (na:0<a.size) (nb:0<b.size) (h0:∀p q,b[0]? = some p->q∈a.toList->Le key p q) (hl:∀p q,p∈b.toList->a[a.size-1]? = some q->Le key p q)
  (h:∀r st',Sm st st'->cK key a b r->Q r st'):wpS (vK prog w) A E s (mHi a b) Q st:=by
 rw[qU]
 refine vt (Ad (xY ⟨rfl,?_⟩))
 obtain ⟨a0,ea0⟩:=aM (zH na)
 have m0:MV key a b #[] a.size b.size:=by
  refine ⟨va _,va _,?_,List.Pairwise.nil,λp _ q hq=>by cases hq⟩
  rw[vD (by rw[vo];exact va _),vD (by rw[vo];exact va _)]
  show (a.toList++b.toList++[]).Perm _
  rw[wM]
 have m1:MV key a b #[a0] (a.size-1) b.size:=m0.f9 na ea0 ha λt ht=>hl t a0 (ye ht) ea0
 refine vt (aK ea0 ?_)
 by_cases c1:(a.size-1 == 0)=true
 ·rw[if_pos c1]
  exact vB (h _ st (Sm.refl st) (m1.nr hb (beq_iff_eq.mp c1)))
 rw[if_neg c1]
 by_cases c2:(b.size == 1)=true
 ·rw[if_pos c2]
  exact vB (h _ st (Sm.refl st) (m1.first ha hb (beq_iff_eq.mp c2) h0))
 rw[if_neg c2]
 refine vt (zW ?_)
 refine vt (xv (wJ (I:=λi c st'=>HeI key a b st i c st') (Q:=HeQ key a b st) (λi c st1 _ _ J=>xv (nA C hκ ua ub ha hb h0 na J) λr st' h=>by cases r <;> exact h) (λc st' J =>?_) ⟨Sm.refl st,_,_,_,_,rfl,m1,pk c1,qS nb c2,va _⟩) ?_)
 ·obtain ⟨sm,x,y,o,mg,e,m,hx,hy,hz⟩:=J
  exact ⟨sm,.inr ⟨x,y,o,mg,e,m,hx,hy,by omega⟩⟩
 rintro c st' ⟨sm,⟨r,x,y,o,mg,rfl,fr⟩ | ⟨x,y,o,mg,rfl,m,hx,hy,hz⟩⟩
 ·exact vB (h r st' sm fr)
 ·have:=m.size
  omega
end
open PySem PyProof.Rows
theorem sT (i:Nat):mAt i=(do
    let s ← get
    let (some (sa,na,pw),some (sb,nb,_)):=((vL s)[i]?,(vL s)[i+1]?) | unsupported "internal:list.sort.pending"
    set (SortSt.mk' (kindOf s) (vE s) (((vL s).setIfInBounds i (sa,na+nb,pw)).eraseIdxIfInBounds (i+1)) (gallopOf s) (failedOf s))
    let some k ← gal false (← elem' (vE s) sb) (vE s) sa na 0 | return false
    let (sa,na):=(sa+k,na-k)
    if na == 0 then return true
    let some nb ← gal true (← elem' (vE s) (sa+na-1)) (vE s) sb nb (nb-1) | return false
    if nb == 0 then return true
    let x:=(vE s).extract sa sb
    let y:=(vE s).extract sb (sb+nb)
    let mm ← if na<=nb then mLo x y else mHi x y
    modify λs=>setArr s (mm.toList.zipIdx.foldl (λa (p,j)=>a.setIfInBounds (sa+j) p) (vE s))
    return (failedOf (← get)).isNone):=rfl
theorem fe {α:Type}(p r:List α)(k:Nat):(p++r).drop (p.length+k)=r.drop k:=by
 rw[<- Cm,Ai]
theorem ly {α:Type}(p r:List α)(k:Nat):(p++r)[p.length+k]? = r[k]? := by
 rw[yH (by omega),yn]
theorem rK {α:Type}(p a r:List α){k:Nat}(h:k<a.length):(p++(a++r))[p.length+k]? = a[k]? := by
 rw[ly,yL h]
theorem written (l:List vy):∀(c n:Nat) (a:Array vy),c+n+l.length<=a.size->((l.zipIdx n).foldl (λ(a:Array vy) (pj:vy×Nat)=>a.setIfInBounds (c+pj.2) pj.1) a).toList=a.toList.take (c+n)++l++a.toList.drop (c+n+l.length):=by
 induction l with
 | nil=>intro c n a _;simp
 | cons z l ih =>
  intro c n a h
  rw[vT] at h
  rw[AH,B5,ih c (n+1) _ (by rw[Array.size_setIfInBounds];omega)]
  have e:(a.setIfInBounds (c+n) z).toList=a.toList.set (c+n) z:=z9 ..
  rw[e]
  have lt:c+n<a.toList.length:=by rw[vo];omega
  have t1:(a.toList.set (c+n) z).take (c+(n+1))=a.toList.take (c+n)++[z]:=by
   rw[show c+(n+1)=c+n+1 by omega,vQ,List.take_set_of_le (va _),xr lt]
   rfl
  have t2:(a.toList.set (c+n) z).drop (c+(n+1)+l.length)=a.toList.drop (c+n+(l.length+1)):=by
   rw[List.drop_set_of_lt (by omega),show c+(n+1)+l.length=c+n+(l.length+1) by omega]
  rw[t1,t2,vT]
  simp
section
variable  {prog:vI}{w:wc}{A:v7}{E:uW->uZ->Prop}{s:uZ}{O:zJ}{key:vy->O.α}{U:vy->Prop}{κ:SortKind}
theorem sU (C:Cmp prog w A s O key U κ){i pw pw2:Nat}{st:vO}{Q:Bool->vO->Prop}{P X Y S:List vy}(hκ:kindOf st=κ)(hf:failedOf st=none)
    (ha:(vE st).toList=P++(X++(Y++S))) (hu:∀p∈(vE st).toList,U p) (h1:(vL st)[i]? = some (P.length,X.length,pw)) (h2:(vL st)[i+1]? = some (P.length+X.length,Y.length,pw2))
    (nx:0<X.length) (ny:0<Y.length) (sx:X.Pairwise (Le key)) (sy:Y.Pairwise (Le key))
    (h:∀st' M,M.Perm (X++Y)->M.Pairwise (Le key)->(vE st').toList=P++(M++S)->vL st'=((vL st).setIfInBounds i (P.length,X.length+Y.length,pw)).eraseIdxIfInBounds (i+1)->kindOf st'=κ -> failedOf st'=none->Q true st') :
    wpS (vK prog w) A E s (mAt i) Q st:=by
  rw[sT]
  refine vt (zW ?_)
  rw[h1,h2]
  dsimp only
  refine vt (show wpS (vK prog w) A E s (modify λ_=>SortSt.mk' (kindOf st) (vE st) (((vL st).setIfInBounds i (P.length,X.length+Y.length,pw)).eraseIdxIfInBounds (i+1)) (gallopOf st) (failedOf st)) _ st from xO ?_)
  generalize hst1:SortSt.mk' (kindOf st) (vE st) (((vL st).setIfInBounds i (P.length,X.length+Y.length,pw)).eraseIdxIfInBounds (i+1)) (gallopOf st) (failedOf st)=st1
  have k1:kindOf st1=κ:=by rw[<- hst1];exact hκ
  have a1:vE st1=vE st:=by rw[<- hst1]
  have p1:vL st1=((vL st).setIfInBounds i (P.length,X.length+Y.length,pw)).eraseIdxIfInBounds (i+1):=by rw[<- hst1]
  have f1:failedOf st1=none:=by rw[<- hst1];exact hf
  have sz:(vE st).size=P.length+X.length+Y.length+S.length:=by
    rw[<- vo,ha];simp only[u9];omega
  have atX:∀j,j<X.length->(vE st)[P.length+j]? = X[j]? := λj hj=>by
    rw[<- vv,ha,rK _ _ _ hj]
  have atY:∀j,j<Y.length->(vE st)[P.length+X.length+j]? = Y[j]? := λj hj=>by
    rw[<- vv,ha, <- vZ,show P.length+X.length+j=(P++X).length+j by rw[u9],rK _ _ _ hj]
  have uX:∀p∈X,U p:=λp hp=>hu p (by rw[ha];simp[hp])
  have uY:∀p∈Y,U p:=λp hp=>hu p (by rw[ha];simp[hp])
  have xget:∀j,j<X.length->∃z,X[j]? = some z:=λj hj=>⟨X[j],by simp[hj]⟩
  have yget:∀j,j<Y.length->∃z,Y[j]? = some z:=λj hj=>⟨Y[j],by simp[hj]⟩
  obtain ⟨y0,ey0⟩:=yget 0 ny
  have plain:(∀p∈X,∀q∈Y,Le key p q)->Q true st1:=λhle=>h st1 (X++Y) (Ag _) (wd.mpr ⟨sx,sy,hle⟩) (by rw[a1,ha,vZ]) p1 k1 f1
  refine vt (aK (z:=y0) (by rw[show P.length+X.length=P.length+X.length+0 by omega,atY 0 ny];exact ey0) ?_)
  refine vt (sM C (λj=>(X[j]?).getD y0) k1 (uY _ (vf ey0)) (λj hj =>?_) (λj hj =>?_) (λi j hij hj =>?_) nx λk hk g1 g2 =>?_)
  · obtain ⟨z,e⟩:=xget j hj
    rw[atX j hj,e];rfl
  · obtain ⟨z,e⟩:=xget j hj
    rw[e];exact uX _ (vf e)
  · obtain ⟨z,e⟩:=xget i (by omega)
    obtain ⟨z',e'⟩:=xget j hj
    rw[e,e'];exact ay sx e e' hij
  dsimp only at g1 g2 ⊢
  have y0le:∀q∈Y,Le key y0 q:=λq hq=>by
    obtain ⟨n,e⟩:=v8.mp hq
    exact ay sy ey0 e (vY _)
  by_cases c1:(X.length-k == 0)=true
  · rw[if_pos c1]
    refine vB (plain λp hp q hq =>?_)
    obtain ⟨n,e⟩:=v8.mp hp
    have hn:n<X.length:=(vb.mp e).1
    have z:=g1 n (by have:=beq_iff_eq.mp c1;omega)
    rw[e] at z
    exact vU z (y0le q hq)
  rw[if_neg c1]
  have kx:k<X.length:=by have:X.length-k≠0:=λz=>c1 (beq_iff_eq.mpr z);omega
  obtain ⟨xl,exl⟩:=xget (X.length-1) (by omega)
  have xlle:∀p∈X,Le key p xl:=λp hp=>by
    obtain ⟨n,e⟩:=v8.mp hp
    have hn:n<X.length:=(vb.mp e).1
    exact ay sx e exl (by omega)
  refine vt (aK (z:=xl) (by rw[show P.length+k+(X.length-k)-1=P.length+(X.length-1) by omega,atX _ (by omega)];exact exl) ?_)
  refine vt (sN C (λj=>(Y[j]?).getD xl) k1 (uX _ (vf exl)) (λj hj =>?_) (λj hj =>?_) (λi j hij hj =>?_) (by omega) λm hm e1 e2 =>?_)
  · obtain ⟨z,e⟩:=yget j hj
    rw[atY j hj,e];rfl
  · obtain ⟨z,e⟩:=yget j hj
    rw[e];exact uY _ (vf e)
  · obtain ⟨z,e⟩:=yget i (by omega)
    obtain ⟨z',e'⟩:=yget j hj
    rw[e,e'];exact ay sy e e' hij
  dsimp only at e1 e2 ⊢
  by_cases c2:(m == 0)=true
  · rw[if_pos c2]
    refine vB (plain λp hp q hq =>?_)
    obtain ⟨n,e⟩:=v8.mp hq
    have hn:n<Y.length:=(vb.mp e).1
    have z:=e2 n (by have:=beq_iff_eq.mp c2;omega) hn
    rw[e] at z
    exact vU (xlle p hp) z
  rw[if_neg c2]
  have m0:0<m:=by have:m≠0:=λz=>c2 (beq_iff_eq.mpr z);omega
  have ex:((vE st).extract (P.length+k) (P.length+X.length)).toList=X.drop k:=by
    rw[w4,wD,ha,fe,zE (by omega)]
    rw[List.take_left' (by rw[xH];omega)]
  have ey:((vE st).extract (P.length+X.length) (P.length+X.length+m)).toList=Y.take m:=by
    have e:=fe (P++X) (Y++S) 0
    rw[u9,Nat.add_zero,Cn,vZ] at e
    rw[w4,wD,ha,e,yn,zF hm]
  have sX:((vE st).extract (P.length+k) (P.length+X.length)).size=X.length-k:=by rw[<- vo,ex,xH]
  have sY:((vE st).extract (P.length+X.length) (P.length+X.length+m)).size=m:=by rw[<- vo,ey,v3];omega
  generalize (vE st).extract (P.length+k) (P.length+X.length)=xa at ex sX ⊢
  generalize (vE st).extract (P.length+X.length) (P.length+X.length+m)=ya at ey sY ⊢
  have xa0:∀q∈xa.toList,Le key y0 q:=λq hq=>by
    rw[ex] at hq
    obtain ⟨n,hn,e⟩:=aJ hq
    have hn2:n<X.length:=(vb.mp e).1
    have z:=g2 n hn hn2
    rw[e] at z
    exact wR z
  have yaL:∀p∈ya.toList,Le key p xl:=λp hp=>by
    rw[ey] at hp
    obtain ⟨n,hn,e⟩:=aN hp
    have z:=e1 n hn
    rw[e] at z
    exact wR z
  have first:∀p q,ya[0]? = some p->q∈xa.toList->Le key p q:=λp q hp hq=>by
    rw[<- vv,ey,xF,if_pos m0,ey0] at hp
    cases hp
    exact xa0 q hq
  have lst:∀p q,p∈ya.toList->xa[xa.size-1]? = some q->Le key p q:=λp q hp hq=>by
    rw[<- vv,ex,zc,sX,show k+(X.length-k-1)=X.length-1 by omega,exl] at hq
    cases hq
    exact yaL p hp
  have sxa:xa.toList.Pairwise (Le key):=by rw[ex];exact sx.sublist (wH _ _)
  have sya:ya.toList.Pairwise (Le key):=by rw[ey];exact sy.sublist (wQ _ _)
  have uxa:∀p∈xa.toList,U p:=λp hp=>by rw[ex] at hp;exact uX p (yc hp)
  have uya:∀p∈ya.toList,U p:=λp hp=>by rw[ey] at hp;exact uY p (ye hp)
  have post:∀r st',Sm st1 st'->cK key xa ya r->wpS (vK prog w) A E s (do modify λs=>setArr s (r.toList.zipIdx.foldl (λa (p,j)=>a.setIfInBounds (P.length+k+j) p) (vE s));return (failedOf (← get)).isNone) Q st':=by
    rintro r st' sm ⟨fp,fs⟩
    refine vt (xO (vt (zW (vB ?_))))
    have rl:r.toList.length=X.length-k+m:=by rw[fp.length_eq,u9,vo,vo,sX,sY]
    have wr:=written r.toList (P.length+k) 0 (vE st') (by rw[sm.a,a1,sz,rl];omega)
    have e:(failedOf (setArr st' (r.toList.zipIdx.foldl (λa (p,j)=>a.setIfInBounds (P.length+k+j) p) (vE st')))).isNone=true:=by
      show (failedOf st').isNone=true
      rw[sm.f,f1];rfl
    rw[e]
    have t1:(P++(X++(Y++S))).take (P.length+k+0)=P++X.take k:=by
      rw[Nat.add_zero,List.take_append,vD (by omega),yn,zF (by omega)]
    have t2:(P++(X++(Y++S))).drop (P.length+k+0+r.toList.length)=Y.drop m++S:=by
      rw[rl,show P.length+k+0+(X.length-k+m)=P.length+(X.length+m) by omega,fe,fe,zE hm]
    have perm:(X.take k++(r.toList++Y.drop m)).Perm (X++Y):=by
      rw[ex,ey] at fp
      have q:(X.take k++(r.toList++Y.drop m)).Perm (X.take k++((X.drop k++Y.take m)++Y.drop m)):=xy _ (xU _ fp)
      have e3:X.take k++((X.drop k++Y.take m)++Y.drop m)=X++Y:=by
        rw[vZ (X.drop k),xA, <- vZ,xA]
      rw[e3] at q
      exact q
    have inr:∀z∈r.toList,z∈X.drop k\/z∈Y.take m:=λz hz=>by
      have q:=fp.mem_iff.mp hz
      rw[ex,ey] at q
      exact vx.mp q
    refine h _ (X.take k++(r.toList++Y.drop m)) perm ?_ ?_ ?_ (sm.k.trans k1) (sm.f.trans f1)
    · refine wd.mpr ⟨sx.sublist (wQ _ _),wd.mpr ⟨fs,sy.sublist (wH _ _),λp hp q hq =>?_⟩,λp hp q hq =>?_⟩
      · obtain ⟨n,hn,en⟩:=aJ hq
        have hn2:n<Y.length:=(vb.mp en).1
        rcases inr p hp with z | z
        · have g:=e2 n hn hn2
          rw[en] at g
          exact vU (xlle p (yc z)) g
        · obtain ⟨j,hj,ej⟩:=aN z
          exact ay sy ej en (by omega)
      · obtain ⟨n,hn,en⟩:=aN hp
        have g:=g1 n hn
        rw[en] at g
        rcases vx.mp hq with z | z
        · rcases inr q z with z | z
          · obtain ⟨j,hj,ej⟩:=aJ z
            exact ay sx en ej (by omega)
          · exact vU g (y0le q (ye z))
        · exact vU g (y0le q (yc z))
    · show (r.toList.zipIdx.foldl (λa (p,j)=>a.setIfInBounds (P.length+k+j) p) (vE st')).toList=_
      rw[wr,sm.a,a1,ha,t1,t2]
      simp only[vZ]
    · show vL st'=_
      rw[sm.p,p1]
  by_cases c3:X.length-k<=m
  · rw[if_pos c3]
    exact vt (sP C k1 uxa uya sxa sya (by omega) (by omega) (λp q hp hq=>first p q hp (bb hq)) lst λr st' sm fr=>post r st' sm fr)
  · rw[if_neg c3]
    exact vt (sR C k1 uxa uya sxa sya (by omega) (by omega) first lst λr st' sm fr=>post r st' sm fr)
end
open PySem PyProof.Rows
theorem qV (lo m:Nat):sJ lo m=(do
    let mut n:=1
    for _ in [1:m] do
      let some sm ← ltAt' (lo+n) (lo+n-1)
        | return none
      if sm then break
      n:=n+1
    if n == m then return some n
    if n>1 then
      let some ro ← ltAt' lo (lo+n-1)
        | return none
      if ro then return some n
      reverseSlice' lo (lo+n)
    rule "list.sort.descending-run"
    n:=n+1
    let mut q:=0
    for _ in [n:m] do
      let some sm ← ltAt' (lo+n) (lo+n-1)
        | return none
      if sm then
        if q>0 then reverseSlice' (lo+n-(q+1)) (lo+n)
        q:=0
      else
        let some lg ← ltAt' (lo+n-1) (lo+n)
          | return none
        if lg then break
        q:=q+1
      n:=n+1
    if q>0 then reverseSlice' (lo+n-(q+1)) (lo+n)
    reverseSlice' lo (lo+n)
    for _ in [n:m] do
      let some sm ← ltAt' (lo+n) (lo+n-1)
        | return none
      if sm then break
      n:=n+1
    return some n):=rfl
theorem pz (lo n ok:Nat):o8 lo n ok=(do
    for k in [max ok 1:n] do
      let mut l:=0;let mut r:=k
      for _ in [0:k] do
        if l≥r then break
        let m:=(l+r)/2
        let some le ← ltAt' (lo+k) (lo+m)
          | return false
        if le then r:=m else l:=m+1
      moveDown' (lo+k) (lo+l)
    return true):=rfl
section
variable  {O:zJ}(key:vy->O.α)
def kk (xs:Array vy)(i:Nat):O.α:=key ((xs[i]?).getD (xq,xq))
def Up (xs:Array vy)(lo n:Nat):Prop:=∀i j,lo<=i->i<=j->j<lo+n->O.kle (kk key xs i) (kk key xs j)
def Down (xs:Array vy)(lo n:Nat):Prop:=∀i j,lo<=i->i<=j->j<lo+n->O.kle (kk key xs j) (kk key xs i)
variable  {key}
theorem fg {xs ys:Array vy}{i j:Nat}(h:xs[i]? = ys[j]?):kk key xs i=kk key ys j:=by unfold kk;rw[h]
theorem iV {xs:Array vy}{i j:Nat}(hj:j<=xs.size)(k:Nat):kk key (mirror xs i j ((j-i)/2)) k=if i<=k/\k<j then kk key xs (i+j-1-k) else kk key xs k:=by
 have e:=Bg (i:=i) hj k
 by_cases h:i<=k/\k<j
 ·rw[if_pos h] at e ⊢;exact fg e
 ·rw[if_neg h] at e ⊢;exact fg e
theorem da {xs:Array vy}{i j:Nat}(hj:j<=xs.size)(he:∀k,i<=k->k<j->kk key xs k=kk key xs (j-1))(k:Nat):kk key (mirror xs i j ((j-i)/2)) k=kk key xs k:=by
 rw[iV hj]
 split
 ·rw[he _ (by omega) (by omega),he k (by omega) (by omega)]
 ·rfl
end
structure SA (lo:Nat)(st st':vO):Prop where
 perm:(vE st').Perm (vE st)
 pre:∀k,k<lo->(vE st')[k]? = (vE st)[k]?
 k:kindOf st'=kindOf st
 p:vL st'=vL st
 f:failedOf st'=failedOf st
theorem SA.refl (lo:Nat)(st:vO):SA lo st st:=⟨Array.Perm.refl _,λ_ _=>rfl,rfl,rfl,rfl⟩
theorem SA.size {lo:Nat}{st st':vO}(h:SA lo st st'):(vE st').size=(vE st).size:=h.perm.size_eq
theorem SA.mirror {lo:Nat}{st st':vO}(h:SA lo st st'){i j:Nat}(hi:lo<=i)(hj:j<=(vE st').size):SA lo st (setArr st' (mirror (vE st') i j ((j-i)/2))) :=
 ⟨(mirror_perm _ _ _ _).trans h.perm,λk hk=>by
  show (PyProof.Rows.mirror (vE st') i j ((j-i)/2))[k]? = _
  rw[Bg hj,if_neg (by omega)]
  exact h.pre k hk,h.k,h.p,h.f⟩
theorem SA.mem {lo:Nat}{st st':vO}(h:SA lo st st'){p:vy}(hp:p∈(vE st').toList):p∈(vE st).toList:=(Aa.mp h.perm).mem_iff.mp hp
section
variable  {prog:vI}{w:wc}{A:v7}{E:uW->uZ->Prop}{s:uZ}{O:zJ}{key:vy->O.α}{U:vy->Prop}{κ:SortKind}
theorem dR (C:Cmp prog w A s O key U κ){st:vO}{i j:Nat}{Q:Option Bool->vO->Prop}(hκ:kindOf st=κ)(hu:∀p∈(vE st).toList,U p)(hi:i<(vE st).size)(hj:j<(vE st).size)
  (h:Q (some (O.blt (kk key (vE st) i) (kk key (vE st) j))) st):wpS (vK prog w) A E s (ltAt' i j) Q st:=by
 rw[ltAt'_eq]
 refine vt (zW ?_)
 obtain ⟨x,ex⟩:=aM hi
 obtain ⟨y,ey⟩:=aM hj
 dsimp only
 refine vt (aK ex (vt (aK ey (C.lt _ st x y _ hκ (hu _ (bb ex)) (hu _ (bb ey)) ?_))))
 unfold kk at h
 rw[ex,ey] at h
 exact h
theorem qW (C:Cmp prog w A s O key U κ){st:vO}{lo m:Nat}{Q:Option Nat->vO->Prop}(hκ:kindOf st=κ)(hu:∀p∈(vE st).toList,U p)(hm:1<=m)(hz:lo+m=(vE st).size)
  (h:∀n st',1<=n->n<=m->SA lo st st'->Up key (vE st') lo n->Q (some n) st'):wpS (vK prog w) A E s (sJ lo m) Q st:=by
 rw[qV]
 dsimp only
 refine vt (xv (wJ (I:=λx c st'=>st=st'/\c=(none,x)/\Up key (vE st) lo x)
  (Q:=λc st'=>st=st'/\∃n,c=(none,n)/\1<=n/\n<=m/\Up key (vE st) lo n/\(n<m->O.klt (kk key (vE st) (lo+n)) (kk key (vE st) (lo+n-1)))) ?step ?fin ⟨rfl,rfl,λi j h1 h2 h3=>by rw[show i=j by omega];exact xk _⟩) ?post)
 case fin =>
  rintro c st' ⟨rfl,rfl,up⟩
  exact ⟨rfl,_,rfl,by omega,by omega,by rw[show max 1 m=m by omega] at up ⊢;exact up,by omega⟩
 case step =>
  rintro x c st' h1 h2 ⟨rfl,rfl,up⟩
  dsimp only
  refine vt (dR C hκ hu (by omega) (by omega) ?_)
  dsimp only
  cases hb:O.blt (kk key (vE st) (lo+x)) (kk key (vE st) (lo+x-1)) with
  | true =>
   rw[if_pos rfl]
   exact vB ⟨rfl,x,rfl,h1,by omega,up,λ_=>hb⟩
  | false =>
   rw[if_neg (by simp)]
   refine vB ⟨rfl,rfl,λi j k1 k2 k3 =>?_⟩
   by_cases hj:j=lo+x
   ·by_cases hi:i=j
    ·rw[hi];exact xk _
    ·rw[hj]
     exact vU (up i (lo+x-1) k1 (by omega) (by omega)) hb
   ·exact up i j k1 k2 (by omega)
 case post =>
  rintro c st' ⟨rfl,n,rfl,n1,n2,up,br⟩
  dsimp only
  by_cases c1:(n == m)=true
  ·rw[if_pos c1]
   exact vB (h n st n1 n2 (SA.refl _ _) up)
  rw[if_neg c1]
  have nm:n<m:=by have:n≠m:=λz=>c1 (beq_iff_eq.mpr z);omega
  have br:=br nm
  by_cases c2:n>1
  case' pos =>
   rw[if_pos c2]
   refine vt (dR C hκ hu (by omega) (by omega) ?_)
   dsimp only
   cases hro:O.blt (kk key (vE st) lo) (kk key (vE st) (lo+n-1))
   case' true =>
    rw[if_pos rfl]
    exact vB (h n st n1 n2 (SA.refl _ _) up)
   rw[if_neg (by simp)]
   have eqs:∀k,lo<=k->k<lo+n->kk key (vE st) k=kk key (vE st) (lo+n-1):=λk k1 k2 =>
    Bb (up k (lo+n-1) k1 (by omega) (by omega)) (vU (show O.kle (kk key (vE st) (lo+n-1)) (kk key (vE st) lo) from hro) (up lo k (va _) k1 k2))
   rw[zG]
   refine vt (xO ?_)
   have sa:=(SA.refl lo st).mirror (i:=lo) (j:=lo+n) (va _) (by omega)
   have ke:=da (key:=key) (xs:=vE st) (i:=lo) (j:=lo+n) (by omega) eqs
   have ka:∀k,kk key (vE (setArr st (mirror (vE st) lo (lo+n) ((lo+n-lo)/2)))) k=kk key (vE st) k:=ke
   generalize setArr st (mirror (vE st) lo (lo+n) ((lo+n-lo)/2))=st1 at sa ka ⊢
   clear ke
  case' neg =>
   rw[if_neg c2]
   have eqs:∀k,lo<=k->k<lo+n->kk key (vE st) k=kk key (vE st) (lo+n-1):=λk k1 k2=>by rw[show k=lo+n-1 by omega]
   obtain ⟨st1,e1⟩:∃st1,st1=st:=⟨_,rfl⟩
   have sa:SA lo st st1:=by rw[e1];exact SA.refl _ _
   have ka:∀k,kk key (vE st1) k=kk key (vE st) k:=λk=>by rw[e1]
   rw[<- e1]
   clear e1
  all_goals
   refine vt (Ad (xY ⟨rfl,?_⟩))
   have dn:Down key (vE st1) lo (n+1):=λi j k1 k2 k3=>by
    rw[ka,ka]
    by_cases hj:j=lo+n
    ·by_cases hi:i=j
     ·rw[hi];exact xk _
     ·rw[hj,eqs i k1 (by omega)]
      exact wR br
    ·rw[eqs i k1 (by omega),eqs j (by omega) (by omega)]
     exact xk _
   clear eqs up br ka
   refine vt (xv (wJ (I:=λx c st'=>∃q,c=(none,x,q)/\x<=m/\SA lo st st'/\Down key (vE st') lo x/\q+1<=x/\∀k,lo+x-(q+1)<=k->k<lo+x->kk key (vE st') k=kk key (vE st') (lo+x-1))
    (Q:=λc st'=>∃x q,c=(none,x,q)/\1<=x/\x<=m/\SA lo st st'/\Down key (vE st') lo x/\q+1<=x/\∀k,lo+x-(q+1)<=k->k<lo+x->kk key (vE st') k=kk key (vE st') (lo+x-1)) ?step ?fin
    ⟨0,rfl,by omega,sa,dn,by omega,λk k1 k2=>by rw[show k=lo+(n+1)-1 by omega]⟩) ?post)
   case fin =>
    rintro c st' ⟨q,rfl,xm,sa,dn,hq,he⟩
    exact ⟨_,q,rfl,by omega,xm,sa,dn,hq,he⟩
   case step =>
    rintro x c st2 h1 h2 ⟨q,rfl,xm,sa2,dn2,hq,he⟩
    dsimp only
    have sz:=sa2.size
    have u2:∀p∈(vE st2).toList,U p:=λp hp=>hu p (sa2.mem hp)
    refine vt (dR C (sa2.k.trans hκ) u2 (by omega) (by omega) ?_)
    dsimp only
    cases hb:O.blt (kk key (vE st2) (lo+x)) (kk key (vE st2) (lo+x-1)) with
    | true =>
     rw[if_pos rfl]
     have dn3:Down key (vE st2) lo (x+1):=λi j k1 k2 k3=>by
      by_cases hj:j=lo+x
      ·by_cases hi:i=j
       ·rw[hi];exact xk _
       ·rw[hj];exact vU (wR hb) (dn2 i (lo+x-1) k1 (by omega) (by omega))
      ·exact dn2 i j k1 k2 (by omega)
     by_cases q0:q>0
     ·rw[if_pos q0,zG]
      refine vt (xO (vB ?_))
      have ke:=da (key:=key) (xs:=vE st2) (i:=lo+x-(q+1)) (j:=lo+x) (by omega) he
      refine ⟨0,rfl,by omega,sa2.mirror (by omega) (by omega),λi j k1 k2 k3 =>?_,by omega,λk k1 k2=>by rw[show k=lo+(x+1)-1 by omega]⟩
      show O.kle (kk key (mirror (vE st2) (lo+x-(q+1)) (lo+x) ((lo+x-(lo+x-(q+1)))/2)) j) (kk key (mirror (vE st2) (lo+x-(q+1)) (lo+x) ((lo+x-(lo+x-(q+1)))/2)) i)
      rw[ke,ke]
      exact dn3 i j k1 k2 k3
     ·rw[if_neg q0]
      exact vB ⟨0,rfl,by omega,sa2,dn3,by omega,λk k1 k2=>by rw[show k=lo+(x+1)-1 by omega]⟩
    | false =>
     rw[if_neg (by simp)]
     refine vt (dR C (sa2.k.trans hκ) u2 (by omega) (by omega) ?_)
     dsimp only
     cases hb2:O.blt (kk key (vE st2) (lo+x-1)) (kk key (vE st2) (lo+x)) with
     | true =>
      rw[if_pos rfl]
      exact vB ⟨x,q,rfl,by omega,xm,sa2,dn2,hq,he⟩
     | false =>
      rw[if_neg (by simp)]
      have eq:=Bb (show O.kle (kk key (vE st2) (lo+x)) (kk key (vE st2) (lo+x-1)) from hb2) hb
      refine vB ⟨q+1,rfl,by omega,sa2,λi j k1 k2 k3 =>?_,by omega,λk k1 k2 =>?_⟩
      ·by_cases hj:j=lo+x
       ·by_cases hi:i=j
        ·rw[hi];exact xk _
        ·rw[hj,eq];exact dn2 i (lo+x-1) k1 (by omega) (by omega)
       ·exact dn2 i j k1 k2 (by omega)
      ·rw[show lo+(x+1)-1=lo+x by omega,eq]
       by_cases hk:k=lo+x
       ·rw[hk,eq]
       ·exact he k (by omega) (by omega)
   case post =>
    rintro c st2 ⟨x,q,rfl,x1,xm,sa2,dn2,hq,he⟩
    dsimp only
    have sz:=sa2.size
    by_cases q0:q>0
    case' pos =>
     rw[if_pos q0,zG]
     refine vt (xO ?_)
     have ke:=da (key:=key) (xs:=vE st2) (i:=lo+x-(q+1)) (j:=lo+x) (by omega) he
     have sa3:=sa2.mirror (i:=lo+x-(q+1)) (j:=lo+x) (by omega) (by omega)
     have dn3:Down key (vE (setArr st2 (mirror (vE st2) (lo+x-(q+1)) (lo+x) ((lo+x-(lo+x-(q+1)))/2)))) lo x:=λi j k1 k2 k3=>by
      show O.kle (kk key (mirror (vE st2) (lo+x-(q+1)) (lo+x) ((lo+x-(lo+x-(q+1)))/2)) j) (kk key (mirror (vE st2) (lo+x-(q+1)) (lo+x) ((lo+x-(lo+x-(q+1)))/2)) i)
      rw[ke,ke]
      exact dn2 i j k1 k2 k3
     generalize setArr st2 (mirror (vE st2) (lo+x-(q+1)) (lo+x) ((lo+x-(lo+x-(q+1)))/2))=st3 at sa3 dn3 ⊢
     clear ke
    case' neg =>
     rw[if_neg q0]
     obtain ⟨st3,e3⟩:∃st3,st3=st2:=⟨_,rfl⟩
     have sa3:SA lo st st3:=by rw[e3];exact sa2
     have dn3:Down key (vE st3) lo x:=by rw[e3];exact dn2
     rw[<- e3]
     clear e3
    all_goals
     rw[zG]
     refine vt (xO ?_)
     have sz3:=sa3.size
     have sa4:=sa3.mirror (i:=lo) (j:=lo+x) (va _) (by omega)
     have km:=iV (key:=key) (xs:=vE st3) (i:=lo) (j:=lo+x) (by omega)
     have up4:Up key (vE (setArr st3 (mirror (vE st3) lo (lo+x) ((lo+x-lo)/2)))) lo x:=λi j k1 k2 k3=>by
      show O.kle (kk key (mirror (vE st3) lo (lo+x) ((lo+x-lo)/2)) i) (kk key (mirror (vE st3) lo (lo+x) ((lo+x-lo)/2)) j)
      rw[km,km,if_pos ⟨by omega,by omega⟩,if_pos ⟨by omega,by omega⟩]
      exact dn3 _ _ (by omega) (by omega) (by omega)
     generalize setArr st3 (mirror (vE st3) lo (lo+x) ((lo+x-lo)/2))=st4 at sa4 up4 ⊢
     clear km
     have u4:∀p∈(vE st4).toList,U p:=λp hp=>hu p (sa4.mem hp)
     have sz4:=sa4.size
     refine vt (xv (wJ (I:=λz c st'=>st4=st'/\c=(none,z)/\z<=m/\Up key (vE st4) lo z)
      (Q:=λc st'=>st4=st'/\∃z,c=(none,z)/\1<=z/\z<=m/\Up key (vE st4) lo z) ?step ?fin ⟨rfl,rfl,xm,up4⟩) ?post)
     case fin =>
      rintro c st' ⟨rfl,rfl,zm,up⟩
      exact ⟨rfl,_,rfl,by omega,zm,up⟩
     case post =>
      rintro c st' ⟨rfl,z,rfl,z1,zm,up⟩
      exact vB (h z st4 z1 zm sa4 up)
     case step =>
      rintro z c st' h1 h2 ⟨rfl,rfl,zm,up⟩
      dsimp only
      refine vt (dR C (sa4.k.trans hκ) u4 (by omega) (by omega) ?_)
      dsimp only
      cases hb:O.blt (kk key (vE st4) (lo+z)) (kk key (vE st4) (lo+z-1)) with
      | true =>
       rw[if_pos rfl]
       exact vB ⟨rfl,z,rfl,by omega,zm,up⟩
      | false =>
       rw[if_neg (by simp)]
       refine vB ⟨rfl,rfl,by omega,λi j k1 k2 k3 =>?_⟩
       by_cases hj:j=lo+z
       ·by_cases hi:i=j
        ·rw[hi];exact xk _
        ·rw[hj];exact vU (up i (lo+z-1) k1 (by omega) (by omega)) hb
       ·exact up i j k1 k2 (by omega)
theorem iW {xs:Array vy}{src d:Nat}(hs:src<xs.size)(hd:d<=src)(k:Nat) :
  kk key (bubble xs src d) k=if k=src-d then kk key xs src else if src-d<k/\k<=src then kk key xs (k-1) else kk key xs k:=by
 have e:=getElem?_bubble hs d hd k
 by_cases h1:k=src-d
 ·rw[if_pos h1] at e ⊢;exact fg e
 ·rw[if_neg h1] at e ⊢
  by_cases h2:src-d<k/\k<=src
  ·rw[if_pos h2] at e ⊢;exact fg e
  ·rw[if_neg h2] at e ⊢;exact fg e
theorem SA.bubble {lo:Nat}{st st':vO}(h:SA lo st st'){src d:Nat}(hs:src<(vE st').size)(hd:lo+d<=src):SA lo st (setArr st' (bubble (vE st') src d)) :=
 ⟨(bubble_perm _ _ _).trans h.perm,λk hk=>by
  show (PyProof.Rows.bubble (vE st') src d)[k]? = _
  rw[getElem?_bubble hs d (by omega),if_neg (by omega),if_neg (by omega)]
  exact h.pre k hk,h.k,h.p,h.f⟩
theorem pA (C:Cmp prog w A s O key U κ){st:vO}{lo n ok:Nat}{Q:Bool->vO->Prop}(hκ:kindOf st=κ)(hu:∀p∈(vE st).toList,U p)(hn:lo+n<=(vE st).size)(hok:ok<=n)(up:Up key (vE st) lo ok)
  (h:∀st',SA lo st st'->Up key (vE st') lo n->Q true st'):wpS (vK prog w) A E s (o8 lo n ok) Q st:=by
 rw[pz]
 dsimp only
 refine vt (xv (wJ (I:=λx c st'=>c=(none,())/\SA lo st st'/\Up key (vE st') lo (min x n)) (Q:=λc st'=>c=(none,())/\SA lo st st'/\Up key (vE st') lo n) ?step ?fin ⟨rfl,SA.refl _ _,λi j k1 k2 k3 =>?_⟩) ?post)
 case post =>
  rintro c st' ⟨rfl,sa,up⟩
  exact vB (h st' sa up)
 case fin =>
  rintro c st' ⟨rfl,sa,up⟩
  refine ⟨rfl,sa,?_⟩
  rw[show min (max (max ok 1) n) n=n by omega] at up
  exact up
 case step =>
  rintro k c st1 h1 h2 ⟨rfl,sa1,up1⟩
  rw[show min k n=k by omega] at up1
  have sz:=sa1.size
  have u1:∀p∈(vE st1).toList,U p:=λp hp=>hu p (sa1.mem hp)
  refine vt (xv (wJ (I:=λx c st'=>st1=st'/\∃l r,c=(none,l,r)/\l<=r/\r<=k/\r-l<=k-x/\(∀i,i<l->O.kle (kk key (vE st1) (lo+i)) (kk key (vE st1) (lo+k)))/\(∀i,r<=i->i<k->O.klt (kk key (vE st1) (lo+k)) (kk key (vE st1) (lo+i))))
   (Q:=λc st'=>st1=st'/\∃l r,c=(none,l,r)/\l<=k/\(∀i,i<l->O.kle (kk key (vE st1) (lo+i)) (kk key (vE st1) (lo+k)))/\(∀i,l<=i->i<k->O.klt (kk key (vE st1) (lo+k)) (kk key (vE st1) (lo+i)))) ?istep ?ifin ⟨rfl,0,k,rfl,by omega,by omega,by omega,λi hi=>by omega,λi a1 a2=>by omega⟩) ?ipost)
  case ifin =>
   rintro c st' ⟨rfl,l,r,rfl,b1,b2,b3,b4,b5⟩
   have e:l=r:=by omega
   subst e
   exact ⟨rfl,l,l,rfl,b2,b4,b5⟩
  case istep =>
   rintro x c st' _ hx ⟨rfl,l,r,rfl,b1,b2,b3,b4,b5⟩
   dsimp only
   by_cases hge:l≥r
   ·rw[if_pos hge]
    have e:l=r:=by omega
    subst e
    exact vB ⟨rfl,l,l,rfl,b2,b4,b5⟩
   ·rw[if_neg hge]
    refine vt (dR C (sa1.k.trans hκ) u1 (by omega) (by omega) ?_)
    dsimp only
    cases hb:O.blt (kk key (vE st1) (lo+k)) (kk key (vE st1) (lo+(l+r)/2)) with
    | true =>
     rw[if_pos rfl]
     exact vB ⟨rfl,l,(l+r)/2,rfl,by omega,by omega,by omega,b4,λi a1 a2=>KeyOrd.klt_of_klt_of_kle hb (up1 _ _ (by omega) (by omega) (by omega))⟩
    | false =>
     rw[if_neg (by simp)]
     exact vB ⟨rfl,(l+r)/2+1,r,rfl,by omega,by omega,by omega,λi a1=>vU (up1 (lo+i) (lo+(l+r)/2) (by omega) (by omega) (by omega)) hb,b5⟩
  case ipost =>
   rintro c st' ⟨rfl,l,r,rfl,b2,b4,b5⟩
   dsimp only
   rw[moveDown'_eq]
   have e:lo+k-(lo+l)=k-l:=by omega
   refine vt (xO (vB ⟨rfl,?_,?_⟩))
   ·rw[e]
    exact sa1.bubble (by omega) (by omega)
   ·rw[show min (k+1) n=k+1 by omega]
    intro i j k1 k2 k3
    show O.kle (kk key (bubble (vE st1) (lo+k) (lo+k-(lo+l))) i) (kk key (bubble (vE st1) (lo+k) (lo+k-(lo+l))) j)
    have lt:lo+k<(vE st1).size:=by omega
    rw[e,iW lt (by omega),iW lt (by omega),show lo+k-(k-l)=lo+l by omega]
    have b4':∀z,lo<=z->z<lo+l->O.kle (kk key (vE st1) z) (kk key (vE st1) (lo+k)):=λz z1 z2=>by
     have:=b4 (z-lo) (by omega)
     rw[show lo+(z-lo)=z by omega] at this
     exact this
    have b5':∀z,lo+l<=z->z<lo+k->O.kle (kk key (vE st1) (lo+k)) (kk key (vE st1) z):=λz z1 z2=>by
     have:=b5 (z-lo) (by omega) (by omega)
     rw[show lo+(z-lo)=z by omega] at this
     exact wR this
    repeat' split
    all_goals first
     | (exfalso;omega)
     | exact xk _
     | exact b4' _ (by omega) (by omega)
     | exact b5' _ (by omega) (by omega)
     | exact up1 _ _ (by omega) (by omega) (by omega)
 ·by_cases h1:ok=0
  ·rw[show i=j by omega];exact xk _
  ·exact up i j k1 k2 (by omega)
end
open PySem PyProof.Rows
def pwr:Nat->Nat->Nat->Nat->Nat:=sortPriv% PySem.Builtin.power
def mrn:Nat->Nat->Nat->Nat:=sortPriv% PySem.Builtin.minRun
theorem pB:rJ=(do
    let sz:=(vE (← get)).size
    let mr:=mrn sz sz 0
    let mut lo:=0
    for _ in [0:sz] do
      if lo≥sz then break
      let some fd ← sJ lo (sz-lo)
        | return
      let mut n:=fd
      if n<mr then
        rule "list.sort.binary-insertion"
        let fo:=min (sz-lo) mr
        if !(← o8 lo fo n) then return
        n:=fo
      if let some (s1,n1,_):=(vL (← get)).back? then
        let pw:=pwr sz (2*s1+n1) (2*s1+n1+n1+n) sz
        for _ in [0:sz] do
          let p:=vL (← get)
          let some (_,_,old):=(if p.size>1 then p[p.size-2]? else none)
            | break
          if old<=pw then break
          if !(← mAt (p.size-2)) then return
        modify λs=>SortSt.mk' (kindOf s) (vE s) ((vL s).modify ((vL s).size-1) λ(st,len,_)=>(st,len,pw)) (gallopOf s) (failedOf s)
      modify λs=>SortSt.mk' (kindOf s) (vE s) ((vL s).push (lo,n,0)) (gallopOf s) (failedOf s)
      lo:=lo+n
    for _ in [0:sz] do
      let p:=vL (← get)
      if p.size<=1 then break
      let i:=p.size-2
      let bf:=if i>0 then p[i-1]?.map (·.2.1) else none
      let i:=if bf.any (· < (p[i+1]?.elim 0 (·.2.1))) then i-1 else i
      if !(← mAt i) then return):=rfl
def Mt:Nat->List (List vy)->List (Nat×Nat×Nat)->Prop
 | _,[],[]=>True
 | off,r :: rs,p :: ps=>p.1=off/\p.2.1=r.length/\Mt (off+r.length) rs ps
 | _,_,_=>False
theorem Mt.length:∀{off:Nat} {rs:List (List vy)} {ps:List (Nat×Nat×Nat)},Mt off rs ps->ps.length=rs.length
 | _,[],[],_=>rfl
 | _,_ :: _,_ :: _,h=>by rw[vT,vT,Mt.length h.2.2]
theorem Mt.append:∀{off:Nat} {rs ts:List (List vy)} {ps us:List (Nat×Nat×Nat)},Mt off rs ps->Mt (off+rs.flatten.length) ts us->Mt off (rs++ts) (ps++us)
 | _,[],_,[],_,_,h=>by simpa using h
 | off,r :: rs,ts,p :: ps,us,h,h'=>by
  refine ⟨h.1,h.2.1,Mt.append h.2.2 ?_⟩
  rw[xu,u9, <- CB] at h'
  exact h'
theorem Mt.split:∀{off:Nat} {rs:List (List vy)} {ps:List (Nat×Nat×Nat)} (i:Nat),Mt off rs ps->i+1<ps.length →
  ∃R1 X Y R2 L1 w1 w2 L2,rs=R1++X :: Y :: R2/\ps=L1++(off+R1.flatten.length,X.length,w1) :: (off+R1.flatten.length+X.length,Y.length,w2) :: L2/\L1.length=i/\Mt off R1 L1/\Mt (off+R1.flatten.length+X.length+Y.length) R2 L2
 | off,r :: r2 :: rs,p :: p2 :: ps,0,h,_=>by
  obtain ⟨a,b,w1⟩:=p
  obtain ⟨c,d,w2⟩:=p2
  obtain ⟨h1,h2,h3,h4,h5⟩:=h
  dsimp only at h1 h2 h3 h4
  subst h1 h2 h3 h4
  exact ⟨[],r,r2,rs,[],w1,w2,ps,rfl,rfl,rfl,trivial,h5⟩
 | off,r :: rs,p :: ps,i+1,h,hl=>by
  rw[vT] at hl
  obtain ⟨R1,X,Y,R2,L1,w1,w2,L2,e1,e2,e3,m1,m2⟩:=Mt.split i h.2.2 (by omega)
  have ea:off+(r :: R1).flatten.length=off+r.length+R1.flatten.length:=by rw[xu,u9];omega
  refine ⟨r :: R1,X,Y,R2,p :: L1,w1,w2,L2,by rw[e1];rfl,?_,by rw[vT,e3],⟨h.1,h.2.1,m1⟩,?_⟩
  ·rw[ea,e2];rfl
  ·rw[ea];exact m2
 | off,[],[],i,_,hl=>by simp at hl
 | off,[_],[_],0,_,hl=>by simp at hl
theorem Mt.modify (f:Nat×Nat×Nat->Nat×Nat×Nat)(hf:∀p,(f p).1=p.1/\(f p).2.1=p.2.1):∀{off:Nat} {rs:List (List vy)} {ps:List (Nat×Nat×Nat)} (i:Nat),Mt off rs ps->Mt off rs (ps.modify i f)
 | _,[],[],i,_=>by cases i <;> exact trivial
 | off,r :: rs,p :: ps,0,h=>⟨(hf p).1.trans h.1,(hf p).2.trans h.2.1,h.2.2⟩
 | off,r :: rs,p :: ps,i+1,h=>⟨h.1,h.2.1,Mt.modify f hf i h.2.2⟩
theorem nB {α:Type}(l:List α)(a b c:α)(r:List α):((l++a :: b :: r).set l.length c).eraseIdx (l.length+1)=l++c :: r:=by
 induction l with
 | nil=>rfl
 | cons x l ih=>simp only[List.cons_append,vT,List.set_cons_succ,List.eraseIdx_cons_succ,ih]
section
variable  {O:zJ}(key:vy->O.α)(U:vy->Prop)(κ:SortKind)
structure Rn (a0:List vy)(lo:Nat)(st:vO):Prop where
 ex:∃runs rest,(vE st).toList=runs.flatten++rest/\runs.flatten.length=lo/\(∀r∈runs,r.Pairwise (Le key)/\0<r.length)/\Mt 0 runs (vL st).toList
 perm:(vE st).toList.Perm a0
 k:kindOf st=κ
 f:failedOf st=none
end
section
variable  {prog:vI}{w:wc}{A:v7}{E:uW->uZ->Prop}{s:uZ}{O:zJ}{key:vy->O.α}{U:vy->Prop}{κ:SortKind}
theorem jZ (C:Cmp prog w A s O key U κ){a0:List vy}{lo i:Nat}{st:vO}{Q:Bool->vO->Prop}(hu:∀p∈a0,U p)(R:Rn key κ a0 lo st)(hi:i+1<(vL st).size)
  (h:∀st',Rn key κ a0 lo st'->(vL st').size+1=(vL st).size->(vE st').toList.drop lo=(vE st).toList.drop lo->Q true st'):wpS (vK prog w) A E s (mAt i) Q st:=by
 obtain ⟨runs,rest,ea,el,er,em⟩:=R.ex
 obtain ⟨R1,X,Y,R2,L1,w1,w2,L2,e1,e2,e3,m1,m2⟩:=Mt.split i em (by rw[vo];exact hi)
 subst e1
 rw[yZ] at e2 m2
 have hx:=er X (by simp)
 have hy:=er Y (by simp)
 have ga:(vL st)[i]? = some (R1.flatten.length,X.length,w1):=by
  rw[<- vv,e2, <- e3,show L1.length=L1.length+0 by omega,ly];rfl
 have gb:(vL st)[i+1]? = some (R1.flatten.length+X.length,Y.length,w2):=by
  rw[<- vv,e2, <- e3,ly];rfl
 refine sU C (P:=R1.flatten) (X:=X) (Y:=Y) (S:=R2.flatten++rest) R.k R.f (by rw[ea];simp) (λp hp=>hu p (R.perm.mem_iff.mp hp)) ga gb hx.2 hy.2 hx.1 hy.1 λst' M pm sm ar pd kd fl =>?_
 have lm:M.length=X.length+Y.length:=by rw[pm.length_eq,u9]
 have ep:(vL st').toList=L1++(R1.flatten.length,X.length+Y.length,w1) :: L2:=by
  rw[pd,Array.toList_eraseIdxIfInBounds,z9,e2, <- e3]
  exact nB _ _ _ _ _
 refine h st' ⟨⟨R1++M :: R2,rest,?_,?_,λr hr =>?_,?_⟩,?_,kd,fl⟩ ?_ ?_
 ·rw[ar];simp
 ·rw[<- el];simp[lm];omega
 ·rcases vx.mp hr with q | q
  ·exact er r (by simp[q])
  ·rcases vM.mp q with q | q
   ·rw[q];exact ⟨sm,by have:=hx.2;omega⟩
   ·exact er r (by simp[q])
 ·rw[ep]
  refine Mt.append m1 ⟨by rw[yZ],lm.symm,?_⟩
  rw[yZ,lm, <- CB]
  exact m2
 ·rw[ar]
  refine List.Perm.trans ?_ R.perm
  rw[ea,show (R1++X :: Y :: R2).flatten++rest=R1.flatten++((X++Y)++(R2.flatten++rest)) by simp]
  exact xy _ (xU _ pm)
 ·rw[<- vo, <- vo,ep,e2]
  simp only[u9,vT]
  omega
 ·have l1:(R1++M :: R2).flatten.length=lo:=by rw[<- el];simp[lm];omega
  have q1:(vE st').toList=(R1++M :: R2).flatten++rest:=by rw[ar];simp
  rw[q1,ea, <- l1,Ai,l1, <- el,Ai]
theorem Rn.sa {a0:List vy}{lo:Nat}{st st':vO}(R:Rn key κ a0 lo st)(sa:SA lo st st'):Rn key κ a0 lo st':=by
 obtain ⟨runs,rest,ea,el,er,em⟩:=R.ex
 have et:(vE st').toList.take lo=runs.flatten:=by
  have e1:(vE st').toList.take lo=(vE st).toList.take lo:=by
   refine zp λi =>?_
   rw[xF,xF]
   split
   ·rw[vv,vv];exact sa.pre i (by assumption)
   ·rfl
  rw[e1,ea, <- el,List.take_left]
 refine ⟨⟨runs,(vE st').toList.drop lo,by rw[<- et,xA],el,er,by rw[sa.p];exact em⟩,(Aa.mp sa.perm).trans R.perm,sa.k.trans R.k,sa.f.trans R.f⟩
theorem nC {xs:Array vy}{lo n:Nat}(h:Up key xs lo n):((xs.toList.drop lo).take n).Pairwise (Le key):=by
 refine yN.mpr λi j hi hj hij =>?_
 have get:∀k (hk:k<((xs.toList.drop lo).take n).length),key ((xs.toList.drop lo).take n)[k]=kk key xs (lo+k)/\k<n:=λk hk=>by
  have hk':=hk
  rw[v3] at hk'
  refine ⟨?_,by omega⟩
  have e:((xs.toList.drop lo).take n)[k]? = xs[lo+k]? := by
   rw[xF,if_pos (by omega),zc,vv]
  rw[vk hk] at e
  unfold kk
  rw[<- e];rfl
 obtain ⟨e1,l1⟩:=get i hi
 obtain ⟨e2,l2⟩:=get j hj
 show O.kle (key _) (key _)
 rw[e1,e2]
 exact h _ _ (by omega) (by omega) (by omega)
theorem Rn.push {a0:List vy}{lo n:Nat}{st:vO}(R:Rn key κ a0 lo st)(hn:0<n)(hz:lo+n<=(vE st).size)(hs:(((vE st).toList.drop lo).take n).Pairwise (Le key)) :
  Rn key κ a0 (lo+n) (SortSt.mk' (kindOf st) (vE st) ((vL st).push (lo,n,0)) (gallopOf st) (failedOf st)):=by
 obtain ⟨runs,rest,ea,el,er,em⟩:=R.ex
 have ed:(vE st).toList.drop lo=rest:=by rw[ea, <- el,Ai]
 rw[ed] at hs
 have lr:n<=rest.length:=by
  have:=congrArg List.length ea
  rw[vo,u9,el] at this
  omega
 have lt:(rest.take n).length=n:=by rw[v3];omega
 refine ⟨⟨runs++[rest.take n],rest.drop n,?_,?_,λr hr =>?_,?_⟩,R.perm,R.k,R.f⟩
 ·show (vE st).toList=_
  rw[ea];simp
 ·simp[lt,el]
 ·rcases vx.mp hr with q | q
  ·exact er r q
  ·have e:r=rest.take n:=by simpa using q
   rw[e];exact ⟨hs,by omega⟩
 ·show Mt 0 _ ((vL st).push (lo,n,0)).toList
  rw[xN]
  exact Mt.append em ⟨by show lo=_;omega,lt.symm,trivial⟩
theorem Rn.mod {a0:List vy}{lo:Nat}{st:vO}(R:Rn key κ a0 lo st)(i:Nat)(f:Nat×Nat×Nat->Nat×Nat×Nat)(hf:∀p,(f p).1=p.1/\(f p).2.1=p.2.1):Rn key κ a0 lo (SortSt.mk' (kindOf st) (vE st) ((vL st).modify i f) (gallopOf st) (failedOf st)):=by
 obtain ⟨runs,rest,ea,el,er,em⟩:=R.ex
 refine ⟨⟨runs,rest,ea,el,er,?_⟩,R.perm,R.k,R.f⟩
 show Mt 0 runs ((vL st).modify i f).toList
 rw[Array.toList_modify]
 exact Mt.modify f hf i em
theorem sV {c:Prop}[Decidable c]{n:Nat}(h:1<n):(if c then n-2-1 else n-2)+1<n:=by split <;> omega
theorem iX:∀{runs:List (List vy)},(∀r∈runs,0<r.length)->runs.length<=runs.flatten.length
 | [],_=>va _
 | r :: rs,h=>by
  have h1:=h r vC
  have h2:=iX λq hq=>h q (vG _ hq)
  rw[xu,u9,vT]
  omega
theorem j0 (C:Cmp prog w A s O key U κ){a0:List vy}{st:vO}{Q:Unit->vO->Prop}(hu:∀p∈a0,U p)(ha:(vE st).toList=a0)(hp:vL st = #[])(hk:kindOf st=κ)(hf:failedOf st=none)(h1:1<=a0.length)
  (h:∀st',(vE st').toList.Perm a0->(vE st').toList.Pairwise (Le key)->failedOf st'=none->Q () st'):wpS (vK prog w) A E s rJ Q st:=by
 rw[pB]
 refine vt (zW ?_)
 dsimp only
 have sz0:(vE st).size=a0.length:=by rw[<- vo,ha]
 have szR:∀{lo:Nat} {st':vO},Rn key κ a0 lo st'->(vE st').size=(vE st).size:=λR=>by rw[<- vo,R.perm.length_eq,sz0]
 have uR:∀{lo:Nat} {st':vO},Rn key κ a0 lo st'->∀p∈(vE st').toList,U p:=λR p hp=>hu p (R.perm.mem_iff.mp hp)
 have R0:Rn key κ a0 0 st:=⟨⟨[],a0,by rw[ha];rfl,rfl,λr hr=>(by cases hr),by rw[hp];exact trivial⟩,by rw[ha],hk,hf⟩
 refine vt (xv (wJ (I:=λx c st'=>∃lo,c=(none,lo)/\x<=lo/\lo<=(vE st).size/\Rn key κ a0 lo st') (Q:=λc st'=>c=(none,(vE st).size)/\Rn key κ a0 (vE st).size st') ?step ?fin ⟨0,rfl,va _,vY _,R0⟩) ?post)
 case fin =>
  rintro c st' ⟨lo,rfl,l1,l2,R⟩
  obtain rfl:lo=(vE st).size:=by omega
  exact ⟨rfl,R⟩
 case post =>
  rintro c st1 ⟨rfl,R⟩
  dsimp only
  have p0:(vL st1).size<=(vE st).size:=by
   obtain ⟨runs,rest,ea,el,er,em⟩:=R.ex
   have q:=em.length
   rw[vo] at q
   have:=iX λr hr=>(er r hr).2
   omega
  refine vt (xv (wJ (I:=λx c st'=>c=(none,())/\Rn key κ a0 (vE st).size st'/\((vL st').size<=1\/(vL st').size+x<=(vE st).size)) (Q:=λc st'=>c=(none,())/\Rn key κ a0 (vE st).size st'/\(vL st').size<=1) ?stepB ?finB ⟨rfl,R,.inr (by omega)⟩) ?postB)
  case finB =>
   rintro c st' ⟨rfl,R,q⟩
   exact ⟨rfl,R,by omega⟩
  case stepB =>
   rintro x c st' _ hx ⟨rfl,R,q⟩
   refine vt (zW ?_)
   by_cases c1:(vL st').size<=1
   ·rw[if_pos c1]
    exact vB ⟨rfl,R,c1⟩
   rw[if_neg c1]
   refine vt (jZ C hu R (sV (by omega)) λst2 R2 s2 _ =>?_)
   simp only[Au,w6,if_false]
   exact vB ⟨rfl,R2,by omega⟩
  case postB =>
   rintro c st' ⟨rfl,R,q⟩
   obtain ⟨runs,rest,ea,el,er,em⟩:=R.ex
   have lm:=em.length
   rw[vo] at lm
   have lr:=congrArg List.length ea
   rw[vo,szR R,u9,el] at lr
   have er0:rest=[]:=List.length_eq_zero_iff.mp (by omega)
   subst er0
   rw[wM] at ea
   match runs,er,lm,el,ea with
   | [],_,_,el,_=>simp at el;omega
   | [r],er,_,_,ea =>
    have e:(vE st').toList=r:=by rw[ea];simp
    exact vB (h st' R.perm (by rw[e];exact (er r (by simp)).1) R.f)
   | _ :: _ :: _,_,lm,_,_=>simp at lm;omega
 case step =>
  rintro x c st1 _ hx ⟨lo,rfl,l1,l2,R⟩
  dsimp only
  by_cases cl:lo≥(vE st).size
  ·rw[if_pos cl]
   obtain rfl:lo=(vE st).size:=by omega
   exact vB ⟨rfl,R⟩
  rw[if_neg cl]
  have s1:=szR R
  refine vt (qW C R.k (uR R) (by omega) (by omega) λn st2 n1 n2 sa2 up2 =>?_)
  dsimp only
  have R2:=R.sa sa2
  have s2:=szR R2
  by_cases cm:n<mrn (vE st).size (vE st).size 0
  case' pos =>
   rw[if_pos cm]
   refine vt (Ad (xY ⟨rfl,?_⟩))
   obtain ⟨fo,e⟩:∃fo,fo=min ((vE st).size-lo) (mrn (vE st).size (vE st).size 0):=⟨_,rfl⟩
   rw[<- e]
   refine vt (pA C R2.k (uR R2) (by omega) (by omega) up2 λst3 sa3 up3 =>?_)
   simp only[Au,w6,if_false]
   have R3:=R2.sa sa3
   have f0:0<fo:=by omega
   have f1:lo+fo<=(vE st).size:=by omega
  case' neg =>
   rw[if_neg cm]
   obtain ⟨fo,e⟩:∃fo,fo=n:=⟨_,rfl⟩
   subst e
   obtain ⟨st3,e3⟩:∃st3,st3=st2:=⟨_,rfl⟩
   subst e3
   have R3:=R2
   have up3:=up2
   have f0:0<fo:=n1
   have f1:lo+fo<=(vE st).size:=by omega
  all_goals
   have srt:=nC up3
   have s3:=szR R3
   refine vt (zW ?_)
   cases hbk:(vL st3).back? with
   | none =>
    dsimp only
    exact vt (xO (vB ⟨lo+fo,rfl,by omega,f1,R3.push f0 (by omega) srt⟩))
   | some t =>
    obtain ⟨t1,t2,t3⟩:=t
    dsimp only
    refine vt (xv (wJ (I:=λ_ c st'=>c=(none,())/\Rn key κ a0 lo st'/\(vE st').toList.drop lo=(vE st3).toList.drop lo) (Q:=λc st'=>c=(none,())/\Rn key κ a0 lo st'/\(vE st').toList.drop lo=(vE st3).toList.drop lo) ?stepC ?finC ⟨rfl,R3,rfl⟩) ?postC)
    case finC=>exact λc st' q=>q
    case stepC =>
     rintro z c st4 _ _ ⟨rfl,R4,d4⟩
     refine vt (zW ?_)
     by_cases p1:(vL st4).size>1
     ·rw[if_pos p1]
      have lt:(vL st4).size-2<(vL st4).size:=by omega
      have e:(vL st4)[(vL st4).size-2]? = some (vL st4)[(vL st4).size-2]:=by simp[lt]
      rw[e]
      dsimp only
      split
      ·exact vB ⟨rfl,R4,d4⟩
      ·refine vt (jZ C hu R4 (by omega) λst5 R5 _ d5 =>?_)
       simp only[Au,w6,if_false]
       exact vB ⟨rfl,R5,d5.trans d4⟩
     ·rw[if_neg p1]
      exact vB ⟨rfl,R4,d4⟩
    case postC =>
     rintro c st4 ⟨rfl,R4,d4⟩
     dsimp only
     have s4:=szR R4
     refine vt (xO (vt (xO (vB ⟨lo+fo,rfl,by omega,f1,?_⟩))))
     refine Rn.push ?_ f0 ?_ ?_
     ·refine Rn.mod R4 _ _ ?_
      exact λp=>⟨rfl,rfl⟩
     ·show lo+fo<=(vE st4).size
      omega
     ·show (((vE st4).toList.drop lo).take fo).Pairwise (Le key)
      rw[d4]
      exact srt
end
open PySem PyProof.Rows
section
variable  {prog:vI}{w:wc}{A:v7}{E:uW->uZ->Prop}{s:uZ}{O:zJ}{key:uW->O.α}
theorem zs:∀vs:List uW,(vs.zip vs).map (·.2)=vs
 | []=>rfl
 | v :: vs=>by rw[y6,vw,zs vs]
theorem j3 {l:List vy}{vs:List uW}(h:l.Perm (vs.zip vs)):(l.map (·.2)).Perm vs/\∀p∈l,p.1=p.2/\p.1∈vs:=by
 have e:=zs vs
 refine ⟨by have:=h.map (·.2);rw[e] at this;exact this,λp hp =>?_⟩
 have m:=h.mem_iff.mp hp
 obtain ⟨i,hi⟩:=v8.mp m
 rw[xf] at hi
 have e1:=hi.1.symm.trans hi.2
 exact ⟨vR e1,vf hi.1⟩
theorem eC {a:Addr}{vs:List uW}{n:Nat}{P:Fin->uZ->Prop}(ho:s.heap.get? a=some (seqObj "list" vs.toArray n))(hz:vs.length<=vm)
    (hc:2<=vs.length->∀h6,(∀b o,b≠a->s.heap.get? b=some o->h6.get? b=some o)->∃κ,(∀(Q:SortKind->uZ->Prop) (E:uW->uZ->Prop),Q κ { s with heap:=h6 }->vJ (vK prog w) A (keyKind' vs.toArray) Q E { s with heap:=h6 }) ∧
      Cmp prog w A { s with heap:=h6 } O (λp=>key p.1) (λp=>p.1=p.2/\p.1∈vs) κ)
    (h:∀out:List uW,out.Perm vs->out.Pairwise (λx y=>O.kle (key x) (key y))->P (.done (.ret .none)) { s with heap:=sortedHeap s.heap a vs out.toArray }):vJ (vK prog w) A (Builtin.«list.sort» ⟨[.ref a],[]⟩) P E s:=by
  rw[list_sort_plain]
  have ha:a<s.heap.objs.size:=vh ho
  refine uU (zA ho rfl ?_)
  refine uU (yp ho rfl ?_ (by rw[u0];exact hz) (vY _))
  obtain ⟨e1,ho1⟩:∃e1,(s.heap.update a (vV λ_ => #[])).get? a=some (seqObj "list" #[] e1):=⟨_,zi ho (λ_ => #[])⟩
  refine uU (Bh ho1 rfl (uU (A9 ?_ (by exact hz))))
  refine uU (zj ?_ (vY _))
  refine xK ?_
  generalize hH:((s.heap.update a (vV λ_ => #[])).push (seqObj "tuple" vs.toArray 0)).push (seqObj "list" #[] 0)=h6
  have kp:∀b o,b≠a->s.heap.get? b=some o->h6.get? b=some o:=λb o nb e=>by
    rw[<- hH]
    refine uV _ (uV _ ?_)
    rw[xh _ _ _ _ nb]
    exact e
  have ho6:h6.get? a=some (seqObj "list" #[] e1):=by
    rw[<- hH]
    exact uV _ (uV _ ho1)
  have eH:∀out:List uW,sortedHeap s.heap a vs out.toArray=h6.update a (vV λ_=>out.toArray):=λout=>by rw[<- hH];rfl
  have go:∀st':vO,(vE st').toList.Perm (vs.zip vs)->(vE st').toList.Pairwise (λp q=>O.kle (key p.1) (key q.1))->failedOf st'=none →
      vJ (vK prog w) A (do
        let sorted:=(vE st').map (·.2)
        let touched:=(← seqEpoch a) != e1
        Builtin.List.listUpdate (.ref a) λ_=>sorted
        if let some e:=failedOf st' then rule "list.sort.comparison-raised";throw e
        if touched then rule "list.sort.modified";raiseError "ValueError" "list modified during sort"
        ret .none) P E { s with heap:=h6 }:=by
    intro st' pm ps hf
    obtain ⟨z1,z2⟩:=j3 pm
    have em:(vE st').map (·.2)=((vE st').toList.map (·.2)).toArray:=by
      apply AG.mp
      rw[BX]
    dsimp only
    refine uU (Bh ho6 rfl ?_)
    refine uU (yp ho6 rfl ?_ (vY _) (by rw[Co, <- vo,pm.length_eq,yy,AY];omega))
    rw[hf]
    simp only[bne_self_eq_false,w6,if_false]
    refine vg ?_
    rw[em, <- eH]
    refine h _ z1 (wj.mpr (ps.imp_of_mem λ{p q} hp hq le =>?_))
    rw[<- (z2 p hp).1, <- (z2 q hq).1]
    exact le
  by_cases h2:vs.toArray.size<2
  · rw[if_pos h2,if_pos h2]
    refine uU (vg ?_)
    dsimp only
    rw[B9]
    refine uU (vg ?_)
    refine go (SortSt.mk' general' (vs.toArray.zip vs.toArray) #[] 7 none) (by show (vs.toArray.zip vs.toArray).toList.Perm _;simp) ?_ rfl
    rw[u0] at h2
    have et:(vs.toArray.zip vs.toArray).toList=vs.zip vs:=by simp
    show (vs.toArray.zip vs.toArray).toList.Pairwise (λ(p q:vy)=>O.kle (key p.1) (key q.1))
    rw[et]
    have short:∀us:List uW,us.length<2->(us.zip us).Pairwise (λ(p q:vy)=>O.kle (key p.1) (key q.1)):=λus hu=>by
      match us,hu with
      | [],_=>exact List.Pairwise.nil
      | [v],_=>exact wz _ _
      | _ :: _ :: _,hu=>simp only[vT] at hu;omega
    exact short vs h2
  · rw[if_neg h2,if_neg h2]
    rw[u0] at h2
    obtain ⟨κ,k1,C⟩:=hc (by omega) h6 kp
    refine uU (k1 _ _ ?_)
    have et:(vs.toArray.zip vs.toArray).toList=vs.zip vs:=by simp
    refine uU (xG (j0 C (E:=E) (a0:=vs.zip vs) (st:=SortSt.mk' κ (vs.toArray.zip vs.toArray) #[] 7 none)
      (Q:=λ_ st'=>(vE st').toList.Perm (vs.zip vs)/\(vE st').toList.Pairwise (Le λ(p:vy)=>key p.1)/\failedOf st'=none)
      (j3 (Ag _)).2 et rfl rfl rfl (by rw[yy,AY];omega) λst' a1 a2 a3=>⟨a1,a2,a3⟩) ?_ λ_ _ e=>e)
    rintro ⟨⟨⟩,st'⟩ s' ⟨rfl,hp,hs,hf⟩
    exact go st' hp hs hf
def gM (prog:vI)(w:wc)(s:uZ)(v:uW)(vs:List uW):Prop :=
 ∀(A:v7) (E:uW->uZ->Prop) (R:List uW->uZ->Prop),(∀h1,(∀b o,s.heap.get? b=some o->h1.get? b=some o)->s.heap.objs.size<=h1.objs.size->R vs { s with heap:=h1 })->vJ (vK prog w) A (collect v) R E s
theorem fh {l:Addr}{o:Obj}{vs:List uW}{n:Nat}(ho:s.heap.get? l=some o)(hc:o.cls = .type "list" \/ o.cls = .type "tuple")(hd:o.data = .seq vs.toArray n)(hz:vs.length<=vm):gM prog w s (.ref l) vs:=by
  intro A E R h
  unfold collect
  refine uU (Am (xo entry_proto_collect' ?_))
  show vJ _ _ (do again (.builtin "list.__iadd__" ⟨[<- newList [],.ref l],[]⟩)) _ _ s
  refine uU (zj (vg ⟨Code.quiet_builtin _ (by decide +kernel),xo entry_list_iadd' ?_⟩))
  show vJ _ _ (wm (.ref s.heap.objs.size) (.ref l) (.ref s.heap.objs.size)) _ _ { s with heap:=s.heap.push (seqObj "list" #[] 0) }
  unfold wm
  have ho':(s.heap.push (seqObj "list" #[] 0)).get? l=some o:=uV _ ho
  have cond:∀T,o.cls = .type T->(T = "list" \/ T = "tuple")->vJ (vK prog w) A (typeOf (.ref l)) (λt s'=>t = .type T/\s'={ s with heap:=s.heap.push (seqObj "list" #[] 0) }) E { s with heap:=s.heap.push (seqObj "list" #[] 0) }:=λT e _=>zB (T:=T) ⟨o,ho',e⟩ ⟨rfl,rfl⟩
  obtain ⟨T,eT,hT⟩:∃T,o.cls = .type T/\(T = "list" \/ T = "tuple"):=by
    rcases hc with hc | hc
    · exact ⟨_,hc,.inl rfl⟩
    · exact ⟨_,hc,.inr rfl⟩
  refine uU (zB (T:=T) ⟨o,ho',eT⟩ ?_)
  rw[if_pos (by rcases hT with rfl | rfl <;> simp)]
  refine uU (zA ho' hd ?_)
  refine uU (zA (xs := #[]) (n:=0) (ve _ rfl) rfl ?_)
  rw[if_neg (by simp)]
  refine uU (yp (xs := #[]) (n:=0) (ve _ rfl) rfl ?_ (vY _) (by show (#[]++vs.toArray).size<=vm+1;simp only[yF,u0,yw];omega))
  refine vg ?_
  show vJ (vK prog w) A (do
      let o ← load s.heap.objs.size
      match o.data with
      | .seq xs _=>pure xs.toList
      | _=>unsupported "internal:collect") R E { s with heap:=(s.heap.push (seqObj "list" #[] 0)).update s.heap.objs.size (vV (· ++ vs.toArray)) }
  refine uU (A4 (zi (ve _ rfl) _) ?_)
  show vJ _ _ (pure ((#[]:Array uW)++vs.toArray).toList) R E _
  rw[show ((#[]:Array uW)++vs.toArray).toList=vs by simp]
  refine vg (h _ (λb ob e =>?_) ?_)
  · rw[xh _ _ _ _ (vH (vh e))]
    exact uV _ e
  · rw[BZ,BI]
    exact Nat.le_succ _
end
open PySem PyProof.Rows
def ju:zJ where
 α:=Int
 blt:=λa b=>decide (a<b)
 irrefl:=λa=>by simp
 trans:=λa b c h1 h2=>by simp at *;omega
 negTrans:=λa b c h=>by simp at *;omega
 total:=λa b h1 h2=>by simp at *;omega
theorem lex_irrefl:∀a,HT.lexLt a a=false
 | []=>rfl
 | x :: xs=>by rw[HT.bS,if_pos rfl];exact lex_irrefl xs
theorem lex_trans:∀a b c,HT.lexLt a b=true->HT.lexLt b c=true->HT.lexLt a c=true
 | [],[],_,h,_=>by cases h
 | [],_ :: _,[],_,h=>by cases h
 | [],_ :: _,_ :: _,_,_=>rfl
 | _ :: _,[],_,h,_=>by cases h
 | _ :: _,_ :: _,[],_,h=>by cases h
 | x :: xs,y :: ys,z :: zs,h1,h2=>by
  rw[HT.bS] at *
  by_cases e1:x=y
  ·subst e1
   rw[if_pos rfl] at h1
   by_cases e2:x=z
   ·rw[if_pos e2] at h2 ⊢
    exact lex_trans xs ys zs h1 h2
   ·rw[if_neg e2] at h2 ⊢
    exact h2
  ·rw[if_neg e1] at h1
   have l1:=of_decide_eq_true h1
   by_cases e2:y=z
   ·subst e2
    rw[if_neg e1]
    exact h1
   ·rw[if_neg e2] at h2
    have l2:=of_decide_eq_true h2
    rw[if_neg (by omega)]
    exact decide_eq_true (by omega)
theorem cT:∀a b,HT.lexLt a b=false->HT.lexLt b a=false->a=b
 | [],[],_,_=>rfl
 | [],_ :: _,h,_=>by cases h
 | _ :: _,[],_,h=>by cases h
 | x :: xs,y :: ys,h1,h2=>by
  rw[HT.bS] at *
  by_cases e:x=y
  ·subst e
   rw[if_pos rfl] at h1 h2
   rw[cT xs ys h1 h2]
  ·rw[if_neg e] at h1
   rw[if_neg (xi e)] at h2
   have a1:=of_decide_eq_false h1
   have a2:=of_decide_eq_false h2
   omega
theorem qX (a b c:List Int)(h:HT.lexLt a c=true):HT.lexLt a b=true\/HT.lexLt b c=true:=by
 cases h1:HT.lexLt a b with
 | true=>exact .inl rfl
 | false =>
  right
  cases h2:HT.lexLt b a with
  | true=>exact lex_trans b a c h2 h
  | false=>rw[<- cT a b h1 h2];exact h
def lexOrd:zJ where
 α:=List Int
 blt:=HT.lexLt
 irrefl:=lex_irrefl
 trans:=lex_trans
 negTrans:=qX
 total:=cT
def intOf:uW->Int
 | .int i _=>i
 | _=>0
section
variable  {prog:vI}{w:wc}{A:v7}{E:uW->uZ->Prop}{s:uZ}
theorem j4:∀{vs:List uW} {ns:List Int},xT vs ns->∀v∈vs,∃i t,v = .int i t
 | _,_,.nil,v,h=>by cases h
 | _,_,.cons n t r,v,h=>by
  rcases vM.mp h with e | e
  ·exact ⟨n,t,e⟩
  ·exact j4 r v e
def cD (h:Heap)(v:uW):List Int:=match v with
 | .ref p=>match h.get? p with
  | some o=>match o.data with
   | .seq xs _=>xs.toList.map intOf
   | _=>[]
  | none=>[]
 | _=>[]
def aW (h:Heap)(v:uW)(ns:List Int):Prop:=∃p o xs n,v = .ref p/\h.get? p=some o/\o.cls = .type "tuple" /\ o.data = .seq xs n/\xT xs.toList ns
theorem ints_map:∀{vs:List uW} {ns:List Int},xT vs ns->vs.map intOf=ns
 | _,_,.nil=>rfl
 | _,_,.cons n t r=>by rw[vw,ints_map r];rfl
theorem aW.ints {h:Heap}{v:uW}{ns:List Int}(x:aW h v ns):cD h v=ns:=by
 obtain ⟨p,o,xs,n,rfl,e,_,d,r⟩:=x
 unfold cD
 dsimp only
 rw[e]
 dsimp only
 rw[d]
 exact ints_map r
theorem aW.keeps {h h':Heap}{v:uW}{ns:List Int}(x:aW h v ns)(k:∀b o,h.get? b=some o->h'.get? b=some o):aW h' v ns:=by
 obtain ⟨p,o,xs,n,rfl,e,r⟩:=x
 exact ⟨p,o,xs,n,rfl,k _ _ e,r⟩
end
end Srt
namespace L2
open PySem PySem.Spec PyProof.Rows
theorem eM {α β:Type}{f:α -> β}:∀{l:List β} {m:List α},l.Perm (m.map f)->∃m':List α,m'.Perm m/\l=m'.map f:=by
 intro l m h
 generalize hk:m.map f=k at h
 induction h generalizing m with
 | nil =>
  have:m=[]:=zT.mp hk
  exact ⟨[],by rw[this],rfl⟩
 | cons x _ ih =>
  match m,hk with
  | y :: m,hk =>
   rw[vw] at hk
   injection hk with h1 h2
   obtain ⟨m',p,e⟩:=ih h2
   exact ⟨y :: m',p.cons y,by rw[vw, <- e,h1]⟩
  | [],hk=>cases hk
 | swap x y l =>
  match m,hk with
  | a :: b :: m,hk =>
   rw[vw,vw] at hk
   injection hk with h1 h2
   injection h2 with h2 h3
   exact ⟨b :: a :: m,List.Perm.swap a b m,by rw[vw,vw,h1,h2,h3]⟩
  | [],hk=>cases hk
  | [_],hk=>simp at hk
 | trans _ _ ih1 ih2 =>
  obtain ⟨m',p,e⟩:=ih2 hk
  obtain ⟨m'',p',e'⟩:=ih1 e.symm
  exact ⟨m'',p'.trans p,e'⟩
theorem fi:∀{ns:List Int} {us:List uW},Vals (ns.map V.int) us->xT us ns:=λr=>intsAre_of r
theorem dS:∀{α:Type} {f:α -> Addr} {ps:List α} {us:List uW},Vals (ps.map λx=>V.ref (f x)) us->us=ps.map λx=>vq (f x)
 | _,_,[],_,r=>by cases r;rfl
 | _,f,p :: ps,_,r=>by
  cases r with
  | cons h t=>rw[vw, <- dS t,show _=vq (f p) from h]
theorem dU {α:Type}{f:α -> Addr}:∀{ps:List α},Vals (ps.map λx=>V.ref (f x)) (ps.map λx=>vq (f x))
 | [] =>.nil
 | p :: ps =>.cons rfl dU
section
variable  {X:Cx}
theorem Inv.j5 {pins:List (Addr×Obj)}{σ:St}{H:Hp}{s:uZ}{p:Addr}{ys:List V}(I:Inv X pins σ H s)(h:SqL X.K H p ys\/SqT X.K H p ys) :
  ∃(its:List uW) (o:Obj) (n:Nat),Vals ys its/\s.heap.get? p=some o/\(o.cls = .type "list" \/ o.cls = .type "tuple")/\o.data = .seq its.toArray n/\ys.length<=vm:=by
 rcases h with h | h
 ·obtain ⟨its,r,⟨o,n,e,c,_,d⟩,z⟩:=I.list h
  exact ⟨its,o,n,r,e,.inl c,d,z⟩
 ·obtain ⟨its,r,⟨o,e,c,n,d⟩,z⟩:=I.tuple h
  exact ⟨its,o,n,r,e,.inr c,d,z⟩
theorem Inv.newList {pins:List (Addr×Obj)}{σ:St}{H:Hp}{s:uZ}{h':Heap}{p:Addr}{ys:List V}{its:List uW}{n:Nat}(I:Inv X pins σ H s)(k:∀b o,s.heap.get? b=some o->h'.get? b=some o)(hp:s.heap.objs.size<=p)
  (e:h'.get? p=some { cls :=.type "list",data :=.seq its.toArray n }) (r:Vals ys its) (hz:ys.length<=vm):Inv X pins σ (upd H p (.lst ys)) { s with heap:=h' } :=
 I.laid (t':=s.toks) k hp ⟨hz,its,n,r,e⟩
end
open PySem PySem.Spec PyProof.Rows
section
variable  {X:Cx}{tg:Expr}
def iSeq (K:u6)(tl:TE):TI:=λσ H R=>tl σ H λx H1=>∃a,x = .ref a/\(((∃xs,SqL K H1 a xs)/\R (Itl K a) H1)\/((∃xs,SqT K H1 a xs)/\R (Itt K a) H1))
theorem sW {l:Expr}{tl:TE}(hl:PE X l tl):PI X tg l (iSeq X.K tl):=by
 intro pins s σ H R I h;refine thn (hl pins s σ H _ I h) λv s1 ⟨x,H1,I1,r1,q1⟩ =>?_
 obtain ⟨a,e,q1⟩:=q1
 subst e
 cases r1
 have fp:∀b∈[s1.heap.objs.size],fJ X pins H1 b:=λb hb=>by
  have e:b=s1.heap.objs.size:=by simpa using hb
  rw[e];exact I1.oK (va _) (I1.hok.fresh (va _))
 rcases q1 with ⟨⟨xs,hq⟩,q⟩ | ⟨⟨xs,hq⟩,q⟩
 ·obtain ⟨its,rv,p,hz⟩:=I1.list hq;refine zu p.isList ?_
  exact ⟨s1.heap.objs.size,_,_,_,H1,rfl,I1.kept (t':=s1.toks) (λb o e=>uV _ e),iH a _,⟨_,ve _ rfl,rfl,rfl⟩,fp,q⟩
 ·obtain ⟨its,rv,p,hz⟩:=I1.tuple hq;refine Ac (show s1.heap.IsTuple a its.toArray from p) ?_
  exact ⟨s1.heap.objs.size,_,_,_,H1,rfl,I1.kept (t':=s1.toks) (λb o e=>uV _ e),gC a _,⟨_,ve _ rfl,rfl,rfl⟩,fp,q⟩
end
theorem nD {K:u6}{a:Addr}{xs:List V}{k:Nat}{tc:TT}{te:TE}{τ:St}{H:Hp}{Q:VK}(Pv:Nat->List V->Hp->Prop)(hp:H a=some (.lst xs)\/H a=some (.tup xs))(h0:Pv 0 [] H)(hz:xs.length<=vm)
  (hl:∀i ys H',Pv i ys H'->H' a=H a) (hs:∀i x ys H,xs[i]? = some x->ys.length<=i->Pv i ys H->lW k tc te τ Pv i x ys H)
  (hd:∀ys H,ys.length<=xs.length->Pv xs.length ys H->∀l,H l=none->Q (.ref l) (upd H l (.lst ys))) :
  ((∃xs,SqL K H a xs)/\f6 (Itl K a) (eA k) tc te τ Q H)\/((∃xs,SqT K H a xs)/\f6 (Itt K a) (eA k) tc te τ Q H):=by
 rcases hp with hp | hp
 ·exact .inl ⟨⟨_,SqL.of hp⟩,bT Pv h0 hz (λi ys H' _ z=>SqL.of ((hl i ys H' z).trans hp)) hs hd⟩
 ·exact .inr ⟨⟨_,SqT.of hp⟩,cS Pv h0 hz (λi ys H' _ z=>SqT.of ((hl i ys H' z).trans hp)) hs hd⟩
theorem aD.at {H H':Hp}{a:Addr}{o:HO}(s:aD H H')(h:H a=some o):H' a=H a:=by rw[s _ _ h,h]
theorem j6 {X:Cx}{K:u6}{x y:Str}{i j k:Nat}{p p' pos:Pos}(hN:X.N.Nodup)(hi:X.N[i]? = some x)(hj:X.N[j]? = some y)(hx:Loc X.env.scope x)(hy:Loc X.env.scope y)(hc:X.calm=true:=by rfl)(h:X.K=K:=by rfl)
  (hf:X.fn x=true\/X.env.scope.names.lookup x=some .local:=by first | exact .inl rfl | exact .inr rfl) (hg:X.fn y=true\/X.env.scope.names.lookup y=some .local:=by first | exact .inl rfl | exact .inr rfl):PG X (.Tuple [.Name x p,.Name y p'] k pos) (o7 K i j):=by
 subst h
 exact fI hc (bg (av hN hi hx hf) (bg (av hN hj hy hg) dM))
open PySem PySem.Spec PyProof.Rows
section
variable  {X:Cx}
theorem nE {A:v7}{s:uZ}{k:Int}{t:Tok}{its:List uW}{ns:List Int}(hi:xT its ns):∀y,y∈its.toArray->yt A s y (.int k t) (isInt k y):=λy hy =>
 (eq_isInt k t hi y (by simpa using hy)).at _ _
theorem dW:∀{ns:List Int} {xs:List uW} {prog:vI} {w:wc},xT xs ns->ItemsAre (intKind prog w) ns xs
 | _,_,_,_,.nil =>.nil
 | _,_,_,_,.cons n t r =>.cons (intKind_is _ _ _ _) (dW r)
theorem Inv.tkA {pins:List (Addr×Obj)}{σ:St}{H:Hp}{s:uZ}(I:Inv X pins σ H s){b:Addr}{ns:List Int}(h:SqT X.K H b (ns.map V.int))(prog:vI)(w:wc):IsTupleKey (intKind prog w) s.heap ns b:=by
 obtain ⟨its,r,⟨o,e,c,n,d⟩,_⟩:=I.tuple h
 exact ⟨o,_,n,e,c,d,dW (by simpa using intsAre_of r)⟩
theorem Inv.eqT {pins:List (Addr×Obj)}{σ:St}{H:Hp}{s:uZ}(I:Inv X pins σ H s){A:v7}(hu:A.units<cLine){a b:Addr}{ns ms:List Int}(h1:SqT X.K H a (ns.map V.int))(h2:SqT X.K H b (ms.map V.int)):yt A s (.ref a) (.ref b) (decide (ns=ms)) :=
 λprog w E Q q=>Bt hu (I.tkA h1 prog w) (I.tkA h2 prog w) q
theorem gN:∀{ps:List (Addr×List Int)} {us:List uW},Vals (ps.map λx=>V.ref x.1) us->us=ps.map λx=>vq x.1
 | [],_,r=>by cases r;rfl
 | p :: ps,_,r=>by
  cases r with
  | cons h t=>rw[vw, <- gN t,show _=vq p.1 from h]
theorem dB:∀{its:List uW} {ns:List Int},xT its ns->∃xs:List (Int×Tok),its=xs.map (λp=>xC p.1 p.2)/\xs.map (·.1)=ns
 | _,_,.nil=>⟨[],rfl,rfl⟩
 | _,_,.cons n t r=>by
  obtain ⟨xs,e1,e2⟩:=dB r
  exact ⟨(n,t) :: xs,by rw[vw, <- e1],by rw[vw,e2]⟩
theorem gO (hh:X.A.handled=none):bY X (.builtin "sum") (λxs H Q=>∃(p:Addr) (ns:List Int),xs=[.ref p]/\H p=some (.lst (ns.map V.int))/\Q (.int ns.sum) H):=by
 intro pins s σ H xs us Q I r h
 obtain ⟨p,ns,rfl,hp,q⟩:=h
 obtain ⟨u,rfl,ru⟩:=vals1 r
 cases (show u=vq p from ru)
 obtain ⟨z,its,n,r,e1⟩:=(show aT X.prog X.w H s.heap p (.lst _) from I.hok p _ hp)
 obtain ⟨zs,e2,e3⟩:=dB (intsAre_of r)
 have ei:its.toArray=B4 zs.toArray:=by rw[e2];simp[B4]
 refine sum_intListG hh (xs:=zs.toArray) ⟨_,e1,rfl,n,by rw[ei]⟩ λh' tk t' k =>?_
 rw[preSum_eq,vD (by simp),e3]
 exact ⟨.int _,H,I.kept k,⟨_,rfl⟩,q⟩
end
end L2
namespace HT
open PySem PySem.Spec PyProof.Rows
section
variable  {prog:vI}{w:wc}{A:v7}{E:uW->uZ->Prop}{s:uZ}
end
end HT
namespace L2
open PySem PySem.Spec PyProof.Rows
section
variable  {X:Cx}
theorem dC:bY X (.type "range") (λxs H Q=>∃n:Int,xs=[.int n]/\∀a,H a=none->Q (.ref a) (upd H a (.rng 0 n))):=by
 intro pins s σ H xs us Q I r h
 obtain ⟨n,rfl,q⟩:=h
 obtain ⟨u,rfl,⟨t,rfl⟩⟩:=vals1 r
 refine call_range_1 ?_
 exact ⟨.ref s.heap.objs.size,_,I.laid (o :=.rng 0 n) (λb ob q=>uV _ q) (va _) ⟨_,_,_,ve _ rfl⟩,rfl,q _ (I.hok.fresh (va _))⟩
end
section
variable  {prog:vI}{w:wc}{A:v7}{E:uW->uZ->Prop}{s:uZ}
theorem iz {R:List uW->uZ->Prop}{r:Addr}{n:Nat}{t u v:Tok}(hh:A.handled=none)(hr:IsRange s.heap r 0 n 1 t u v)(hn:n<=2 ^ 24)
    (h:∀(h1:Heap) (tk:Nat) (vs:List uW),vs.length=n->(∀(i:Nat) (x:uW),vs[i]? = some x->∃t,x = .int i t)->(∀b o,s.heap.get? b=some o->h1.get? b=some o)->R vs { s with heap:=h1,toks:=tk }) :
    vJ (vK prog w) A (collect (.ref r)) R E s:=by
  have hlt:r<s.heap.objs.size:=vh (show s.heap.get? r=some _ from hr)
  unfold collect
  refine uU (Am (xo yz ?_))
  rw[w5 yA _]
  show vJ _ A.in1 (newList [] >>= λl=>again (.builtin "list.__iadd__" ⟨[l,.ref r],[]⟩)) _ _ s
  refine uU (wU ?_)
  refine vg ⟨yG xn _,xo zd ?_⟩
  rw[w5 xn _]
  show vJ _ A.in1 (wm (.ref s.heap.objs.size) (.ref r) (.ref s.heap.objs.size)) _ _ { s with heap:=s.heap.push { cls :=.type "list",data :=.seq ([]:List uW).toArray } }
  have hr1:IsRange (s.heap.push { cls :=.type "list",data :=.seq ([]:List uW).toArray }) r 0 n 1 t u v:=uV _ hr
  have rs:Builtin.Range.rangeSize 0 (n:Int) 1=(n:Int):=by
    rw[rangeSize_one]
    split <;> omega
  have hlen24:n<=16777216:=hn
  have hS0:(s.heap.push { cls :=.type "list",data :=.seq ([]:List uW).toArray }).get? s.heap.objs.size=some { cls :=.type "list",data :=.seq #[] 0 }:=ve _ rfl
  refine wpAny_extend_range (A:=A) (R:=λres s'=>match res with
      | .ok (.ret v)=>vJ (vK prog w) A (match v with | .ref a=>(do match (← load a).data with | .seq xs _=>pure xs.toList | _=>unsupported "internal:collect") | _=>unsupported "internal:collect") R E s'
      | .ok _=>False
      | .error e=>E e s') (s:={ s with heap:=s.heap.push { cls :=.type "list",data :=.seq ([]:List uW).toArray } }) hh hr1 (small_one (by omega) (by omega) (by omega) (by omega)) rs hn s.heap.objs.size (.ref s.heap.objs.size) 0 hS0 λh' tk acc' c' kk hS' hacc =>?_
  show vJ _ A (load s.heap.objs.size >>= _) _ _ { s with heap:=h',toks:=tk }
  refine uU (A4 hS' ?_)
  refine vg (h h' tk acc'.toList (by rw[vo];exact hacc.1) (λi x hx =>?_) λb o e=>kk b o (vH (vh e)) (uV _ e))
  rw[vv] at hx
  obtain ⟨t',e⟩:=hacc.2 i x hx
  exact ⟨t',by rw[e];simp⟩
theorem dt (r:Addr)(n:Nat)(t u v:Tok)(hn:n<=1000) :
  Meets (Builtin.«tuple.__new__» ⟨[.type "tuple",.ref r],[]⟩)
   (λA R s=>A.handled=none/\IsRange s.heap r 0 n 1 t u v/\∀(h':Heap) (tk:Nat) (vs:List uW),vs.length=n->(∀(i:Nat) (x:uW),vs[i]? = some x->∃t,x = .int i t)->(∀b o',s.heap.get? b=some o'->h'.get? b=some o')->R (.ok (.ret (.ref h'.objs.size))) { s with heap:=h'.push { cls :=.type "tuple",data :=.seq vs.toArray },toks:=tk }) :=
 .of_wp λprog w A R s h=>by
  obtain ⟨hp,g,d,tk,os⟩:=s;obtain ⟨hh,ht,h⟩:=h
  have hsub:=sub_tuple_self
  have hinit:=BJ
  have hmh:=madeHere_tuple
  have hT:Shared.TypeIs ⟨hp,g,d,tk,os⟩ (.ref r) "range" :=⟨_,ht,rfl⟩
  wp_walk using zB hT,iz (by simpa using hh) ht (by omega)
  intro h' tk' vs lv hv hk
  show vJ _ _ (Builtin.Tuple.tupleExact vs.toArray >>= λv=>ret v) _ _ _
  unfold Builtin.Tuple.tupleExact
  refine uU (wU ?_ (by show vs.toArray.size<=vm;rw[u0,lv];exact small hn))
  exact vg ⟨_,rfl,h h' tk' vs lv hv hk⟩
end
section
variable  {X:Cx}
theorem lA:∀{vs:List uW},(∀(i:Nat) (x:uW),vs[i]? = some x->∃t,x=xC i t)->Vals ((wF vs.length).map λi=>V.int (i:Nat)) vs:=by
 suffices h:∀(vs:List uW) (k:Nat),(∀(i:Nat) (x:uW),vs[i]? = some x->∃t,x=xC ((i+k:Nat):Int) t)->Vals ((List.range' k vs.length).map λi=>V.int (i:Nat)) vs by
  intro vs hv
  have:=h vs 0 hv
  rw[List.range_eq_range']
  exact this
 intro vs
 induction vs with
 | nil=>intro k _;exact .nil
 | cons x vs ih =>
  intro k hv
  rw[vT,List.range'_succ,vw]
  refine .cons ?_ (ih (k+1) λi y hy =>?_)
  ·obtain ⟨t,e⟩:=hv 0 x rfl
   exact ⟨t,by rw[e,yZ]⟩
  ·obtain ⟨t,e⟩:=hv (i+1) y (by rw[List.getElem?_cons_succ];exact hy)
   exact ⟨t,by rw[e,show i+1+k=i+(k+1) by omega]⟩
theorem dD (hh:X.A.handled=none):bY X (.type "tuple") (λxs H Q=>∃(a:Addr) (n:Nat),xs=[.ref a]/\H a=some (.rng 0 n)/\n<=1000/\∀l,H l=none->Q (.ref l) (upd H l (.tup ((wF n).map λi=>V.int (i:Nat))))):=by
 intro pins s σ H xs us Q I r h
 obtain ⟨a,n,rfl,ha,hn,q⟩:=h
 obtain ⟨u,rfl,ru⟩:=vals1 r
 cases (show u=vq a from ru)
 obtain ⟨t,u,v,e⟩:=(show aT X.prog X.w H s.heap a (.rng 0 n) from I.hok a _ ha)
 refine A3 A6 (by decide) (Ap _) (Av _) (λobj=>yI obj _) Aw
  (dt a n t u v hn) ⟨by simpa using hh,e,λh' tk vs lv hv k=>⟨⟨_,ve _ rfl,rfl⟩,?_⟩⟩
 have I1:Inv X pins σ H { s with heap:=h',toks:=tk }:=I.kept k
 have rv:=lA hv
 rw[lv] at rv
 exact ⟨.ref h'.objs.size,_,I1.laid (o :=.tup ((wF n).map λi=>V.int (i:Nat))) (λb ob q=>uV _ q) (va _) ⟨by rw[uT,List.length_range];exact small hn,vs,rv,cJ.new _ _⟩,rfl,q _ (I1.hok.fresh (va _))⟩
end
open PySem PySem.Spec PyProof.Rows
section
variable  {κ:Type}[DecidableEq κ]
def fj (kvs:List (κ×V))(k:κ):Option V:=(kvs.find? λkv=>decide (kv.1=k)).map (·.2)
def putK (kvs:List (κ×V))(k:κ)(v:V):List (κ×V) :=
 if (kvs.any λkv=>decide (kv.1=k))=true then kvs.map (λkv=>if kv.1=k then (kv.1,v) else kv) else kvs++[(k,v)]
theorem fk {p:κ×V}{r:List (κ×V)}{k:κ}(e:p.1=k):fj (p :: r) k=some p.2:=by simp[fj,yB,e]
theorem fm {p:κ×V}{r:List (κ×V)}{k:κ}(e:¬ p.1=k):fj (p :: r) k=fj r k:=by simp[fj,yB,e]
theorem gP (k:κ):∀kvs:List (κ×V),(kvs.any λkv=>decide (kv.1=k))=(fj kvs k).isSome
 | []=>rfl
 | p :: r=>by
  rw[y9]
  by_cases e:p.1=k
  ·simp only[fk e,decide_eq_true e,Bool.true_or,Option.isSome_some]
  ·rw[fm e,decide_eq_false e,CC];exact gP k r
theorem gd (kvs:List (κ×V))(k:κ)(v:V):(putK kvs k v).length<=kvs.length+1:=by
 unfold putK
 split
 ·rw[uT];omega
 ·rw[u9,vT,yw];omega
theorem pC {kvs:List (κ×V)}{k:κ}(v:V)(h:fj kvs k=none):putK kvs k v=kvs++[(k,v)]:=by
 unfold putK
 rw[gP,h]
 exact if_neg (by decide)
theorem gB.nF {o:Option V}{u:Option uW}(r:gB o u):o.isSome=u.isSome:=by
 cases o with
 | none=>cases u with
  | none=>rfl
  | some _=>exact (show False from r).elim
 | some _=>cases u with
  | none=>exact (show False from r).elim
  | some _=>rfl
theorem KV.val {kvs:List (κ×V)}{vs:List (κ×uW)}(r:KV kvs vs)(k:κ):gB (fj kvs k) (valueAt vs k):=by
 unfold KV at r
 induction r with
 | nil=>exact True.intro
 | @cons p q ps qs h t ih =>
  obtain ⟨h1,h2⟩:=h
  by_cases e:p.1=k
  ·have e':q.1=k:=h1.symm.trans e
   have b:valueAt (q :: qs) k=some q.2:=by simp[valueAt,yB,e']
   rw[fk e,b];exact h2
  ·have e':¬ q.1=k:=λz=>e (h1.trans z)
   have b:valueAt (q :: qs) k=valueAt qs k:=by simp[valueAt,yB,e']
   rw[fm e,b];exact ih
theorem KV.any {kvs:List (κ×V)}{vs:List (κ×uW)}(r:KV kvs vs)(k:κ):(kvs.any λkv=>decide (kv.1=k))=vs.any λkv=>decide (kv.1=k):=by
 unfold KV at r
 induction r with
 | nil=>rfl
 | cons h t ih=>rw[y9,y9,ih,h.1]
theorem KV.sZ {kvs:List (κ×V)}{vs:List (κ×uW)}(r:KV kvs vs)(k:κ){y:V}{u:uW}(ry:RelV y u) :
  KV (kvs.map λkv=>if kv.1=k then (kv.1,y) else kv) (vs.map λkv=>if kv.1=k then (kv.1,u) else kv):=by
 unfold KV at r ⊢
 induction r with
 | nil=>exact .nil
 | @cons p q ps qs h t ih =>
  rw[vw,vw]
  refine .cons ?_ ih
  obtain ⟨h1,h2⟩:=h
  by_cases e:p.1=k
  ·rw[if_pos e,if_pos (h1.symm.trans e)];exact ⟨h1,ry⟩
  ·rw[if_neg e,if_neg (λz=>e (h1.trans z))];exact ⟨h1,h2⟩
theorem KV.put {kvs:List (κ×V)}{vs:List (κ×uW)}(r:KV kvs vs)(k:κ){y:V}{u:uW}(ry:RelV y u):KV (putK kvs k y) (stored vs k u):=by
 unfold putK stored
 rw[r.any k]
 by_cases e:(vs.any λkv=>decide (kv.1=k))=true
 ·rw[if_pos e,if_pos e];exact r.sZ k ry
 ·rw[if_neg e,if_neg e];exact CK r ⟨rfl,ry⟩
theorem KV.length {kvs:List (κ×V)}{vs:List (κ×uW)}(r:KV kvs vs):kvs.length=vs.length:=y2 r
end
theorem pE {P:vI}{w:wc}{k:Key}{u:uW}(r:RelV (kV k) u):(bq P w).is k u=true:=by
 cases k with
 | inl i=>obtain ⟨t,e⟩:=(show ∃t,u=xC i t from r);subst e;exact jK P w i t
 | inr x=>obtain ⟨t,e⟩:=(show ∃t,u=Value.str x t from r);subst e;exact jL P w x t
theorem iY {P:vI}{w:wc}:∀{ks:List Key} {us:List uW},Vals (ks.map kV) us->ItemsAre (bq P w) ks us
 | [],_,r=>by rw[BL] at r;cases r;exact .nil
 | k :: ks,_,r=>by
  rw[vw] at r
  cases r with
  | cons h t=>exact .cons (pE h) (iY t)
abbrev KT (H:Hp):List (List Key×V)->List (List Key×Addr×uW)->Prop:=Paired λp q=>p.1=q.1/\H q.2.1=some (.tup (p.1.map kV))/\RelV p.2 q.2.2
theorem KT.val {H:Hp}{kvs:List (List Key×V)}{xs:List (List Key×Addr×uW)}(r:KT H kvs xs)(k:List Key):gB (fj kvs k) ((atKey xs k).map (·.2)):=by
 induction r with
 | nil=>exact True.intro
 | @cons p q ps qs h t ih =>
  obtain ⟨h1,_,h2⟩:=h
  by_cases e:p.1=k
  ·have e':q.1=k:=h1.symm.trans e
   have b:atKey (q :: qs) k=some q.2:=by simp[atKey,yB,e']
   rw[fk e,b];exact h2
  ·have e':¬ q.1=k:=λz=>e (h1.trans z)
   have b:atKey (q :: qs) k=atKey qs k:=by simp[atKey,yB,e']
   rw[fm e,b];exact ih
theorem KT.sZ {H:Hp}{kvs:List (List Key×V)}{xs:List (List Key×Addr×uW)}(r:KT H kvs xs)(k:List Key){y:V}{u:uW}(ry:RelV y u) :
  KT H (kvs.map λkv=>if kv.1=k then (kv.1,y) else kv) (xs.map (putAt k u)):=by
 induction r with
 | nil=>exact .nil
 | @cons p q ps qs h t ih =>
  rw[vw,vw]
  refine .cons ?_ ih
  obtain ⟨h1,h2,h3⟩:=h
  unfold putAt
  by_cases e:p.1=k
  ·rw[if_pos e,if_pos (h1.symm.trans e)];exact ⟨h1,h2,ry⟩
  ·rw[if_neg e,if_neg (λz=>e (h1.trans z))];exact ⟨h1,h2,h3⟩
theorem KT.put {H:Hp}{kvs:List (List Key×V)}{xs:List (List Key×Addr×uW)}(r:KT H kvs xs)(k:List Key){b:Addr}{y:V}{u:uW}(hb:H b=some (.tup (k.map kV)))(ry:RelV y u) :
  KT H (putK kvs k y) (storedH xs k b u):=by
 have e:(kvs.any λkv=>decide (kv.1=k))=(atKey xs k).isSome:=by
  rw[gP,(r.val k).nF,Option.isSome_map]
 unfold putK storedH
 rw[e]
 by_cases q:(atKey xs k).isSome=true
 ·rw[if_pos q,if_pos q];exact r.sZ k ry
 ·rw[if_neg q,if_neg q];exact CK r ⟨rfl,hb,ry⟩
theorem KT.keeps {H H':Hp}{kvs:List (List Key×V)}{xs:List (List Key×Addr×uW)}(r:KT H kvs xs)(ht:∀b ys,H b=some (.tup ys)->H' b=some (.tup ys)):KT H' kvs xs :=
 Paired.rZ r λ_ _ z=>⟨z.1,ht _ _ z.2.1,z.2.2⟩
section
variable  {P:vI}{w:wc}{H:Hp}{h:Heap}{a:Addr}
theorem rL {u:HO}(ok:HOk P w H h)(e:Rd H a u):aT P w H h a u:=e.ok ok
theorem pF {kvs:List (Key×V)}(ok:HOk P w H h)(e:Rd H a (.dK kvs)):kvs.length<=vm/\(a == sysModules)=false/\∃vs,KV kvs vs/\h.DictOf (bq P w) a vs :=
 show aT P w H h a (.dK kvs) from rL ok e
theorem uD {kvs:List (Key×V)}(ok:HOk P w H h)(e:H a=some (.dK kvs)):kvs.length<=vm/\(a == sysModules)=false/\∃vs,KV kvs vs/\h.DictOf (bq P w) a vs:=pF ok (.inl e)
theorem lB {ks:List Key}(ok:HOk P w H h)(e:H a=some (.tup (ks.map kV))):(tupleKind (bq P w)).is h ks a:=by
 obtain ⟨_,its,r,o,h1,h2,n,h3⟩:=(show aT P w H h a (.tup (ks.map kV)) from ok a _ e)
 exact ⟨o,its.toArray,n,h1,h2.1,h3,by simpa using iY r⟩
theorem pG {kvs:List (List Key×V)}(ok:HOk P w H h)(e:Rd H a (.dT kvs)):kvs.length<=vm/\(a == sysModules)=false ∧
  ∃xs,KT H kvs xs/\h.DictOfH (tupleKind (bq P w)) a xs:=by
 obtain ⟨z,y,xs,r,o,es,ep,h1,h2,h3,h4,h5⟩:=(show aT P w H h a (.dT kvs) from rL ok e)
 refine ⟨z,y,xs,r,o,es,ep,h1,h2,h3,h4,λx hx =>?_,h5⟩
 have all:∀{l:List (List Key×V)} {m:List (List Key×Addr×uW)},KT H l m->∀x∈m,(tupleKind (bq P w)).is h x.1 x.2.1:=by
  intro l m q
  induction q with
  | nil=>intro x hx;exact nomatch hx
  | @cons p q ps qs hq t ih =>
   intro x hx
   rcases vM.mp hx with e | hx
   ·subst e
    exact lB ok (by rw[<- hq.1];exact hq.2.1)
   ·exact ih x hx
 exact all r x hx
theorem pH {kvs:List (List Key×V)}(ok:HOk P w H h)(e:H a=some (.dT kvs)):kvs.length<=vm/\(a == sysModules)=false ∧
  ∃xs,KT H kvs xs/\h.DictOfH (tupleKind (bq P w)) a xs:=pG ok (.inl e)
end
def iA (H:Hp)(a:Addr)(y:V)(r:Option V):Prop :=
 (∃kvs k,Rd H a (.dK kvs)/\y=kV k/\r=fj kvs k)\/∃kvs k b,Rd H a (.dT kvs)/\y = .ref b/\H b=some (.tup (k.map kV))/\r=fj kvs k
def j7 (H:Hp)(a:Addr)(y v:V)(H':Hp):Prop :=
 (∃kvs k,H a=some (.dK kvs)/\y=kV k/\kvs.length<vm/\H'=upd H a (.dK (putK kvs k v))) ∨
 ∃kvs k b,H a=some (.dT kvs)/\y = .ref b/\H b=some (.tup (k.map kV))/\kvs.length<vm/\H'=upd H a (.dT (putK kvs k v))
theorem iA.t {H:Hp}{a b:Addr}{kvs:List (List Key×V)}{k:List Key}(e:H a=some (.dT kvs))(eb:H b=some (.tup (k.map kV))):iA H a (.ref b) (fj kvs k) :=.inr ⟨kvs,k,b,.inl e,rfl,eb,rfl⟩
theorem j7.t {H:Hp}{a b:Addr}{kvs:List (List Key×V)}{k:List Key}{v:V}(e:H a=some (.dT kvs))(eb:H b=some (.tup (k.map kV)))(hl:kvs.length<vm) :
  j7 H a (.ref b) v (upd H a (.dT (putK kvs k v))) :=.inr ⟨kvs,k,b,e,rfl,eb,hl,rfl⟩
section
variable  {X:Cx}{pins:List (Addr×Obj)}{σ:St}{H:Hp}{s:uZ}{a:Addr}{y v:V}{u r:uW}{o:Option V}{A:v7}{E:uW->uZ->Prop}
theorem Inv.big (I:Inv X pins σ H s):sysModules<s.heap.objs.size:=by
 have h:v5<s.heap.objs.size:=(I.mod.glob.keeps I.bk).lt
 exact Nat.lt_trans (by decide) h
theorem nG {Q:uW->uZ->Prop}(hu:A.units+1<cLine)(I:Inv X pins σ H s)(g:iA H a y (some v))(ry:RelV y u)(h:∀w' s',Inv X pins σ H s'->RelV v w'->Q w' s') :
  vJ (vK X.prog X.w) A (getItem (.ref a) u) Q E s:=by
 rcases g with ⟨kvs,k,e,ey,l⟩ | ⟨kvs,k,b,e,ey,eb,l⟩
 ·subst ey
  obtain ⟨z,hd,vs,rel,dd⟩:=pF I.hok e
  obtain ⟨w',hw,rw'⟩:=gB.some_of (v:=v) (o:=valueAt vs k) (by rw[l];exact rel.val k)
  exact wpAny_getItem_of (pE ry) dd.mapOf hw (h w' _ (I.tok _) rw')
 ·subst ey
  cases (show u=vq b from ry)
  obtain ⟨z,hd,xs,rel,dd⟩:=pG I.hok e
  obtain ⟨w',hw,rw'⟩:=gB.some_of (v:=v) (o:=(atKey xs k).map (·.2)) (by rw[l];exact rel.val k)
  obtain ⟨p,hp,hp2⟩:=Option.map_eq_some_iff.mp hw
  refine wpAny_getItem_heap (Bv hu) (lB I.hok eb) dd hp ?_
  rw[hp2]
  exact h w' _ (I.tok _) rw'
theorem mi {h':Heap}{t':Nat}{ob:HO}(I:Inv X pins σ H s)(mu:Mut (H a))(hs:Heap.SameBut a s.heap h')(he:∃q,h'.get? a=some q)(new:aT X.prog X.w (upd H a ob) h' a ob) :
  Inv X pins σ (upd H a ob) { s with heap:=h',toks:=t' } :=
 I.write (x:=a) (e:=a) mu (.inl rfl) (λb q hb z=>(hs.2 b hb).trans z) he new
theorem tf {P:vI}{w:wc}{H':Hp}{h':Heap}{kvs:List (Key×V)}{vs:List (Key×uW)}(z:kvs.length<=vm)(hd:(a == sysModules)=false)(rel:KV kvs vs)(dd:h'.DictOf (bq P w) a vs) :
  aT P w H' h' a (.dK kvs):=⟨z,hd,vs,rel,dd⟩
theorem nH {H':Hp}{Q:Unit->uZ->Prop}(hu:A.units+1<cLine)(I:Inv X pins σ H s)(g:j7 H a y v H')(ry:RelV y u)(rv:RelV v r)(h:∀s',Inv X pins σ H' s'->Q () s') :
  vJ (vK X.prog X.w) A (setItem (.ref a) u r) Q E s:=by
 rcases g with ⟨kvs,k,e,ey,l,eH⟩ | ⟨kvs,k,b,e,ey,eb,l,eH⟩
 ·subst ey eH
  obtain ⟨z,hd,vs,rel,dd⟩:=uD I.hok e
  have hz:vs.length<=vm:=by rw[<- rel.length];exact z
  have hl:(putK kvs k v).length<=vm:=by have:=gd kvs k v;omega
  refine wpAny_setItem_pairs (hsz:=hz) (pE ry) dd λh' dd' hs=>h _ ?_
  have he:∃q,h'.get? a=some q:=let ⟨q,_,_,hq,_⟩:=dd';⟨q,hq⟩
  exact mi I (by rw[e];exact True.intro) hs he (tf hl hd (rel.put k rv) dd')
 ·subst ey eH
  cases (show u=vq b from ry)
  obtain ⟨z,hd,xs,rel,dd⟩:=pH I.hok e
  have hz:xs.length<=vm:=by rw[<- y2 rel];exact z
  have hl:(putK kvs k v).length<=vm:=by have:=gd kvs k v;omega
  refine wpAny_setItem_heap (hsz:=hz) (Bv hu) (lB I.hok eb) dd λh' dd' hs=>h _ ?_
  obtain ⟨q,es,ep,hq,h2,h3,h4,_,h5⟩:=dd'
  refine mi I (by rw[e];exact True.intro) hs ⟨q,hq⟩ ⟨hl,hd,_,(rel.put k eb rv).keeps λc ys ec =>?_,q,es,ep,hq,h2,h3,h4,h5⟩
  rw[ax (lO ec e (λz=>nomatch z))]
  exact ec
end
section
variable  {X:Cx}{pins:List (Addr×Obj)}{σ:St}{H:Hp}{s:uZ}{a:Addr}{kvs:List (Key×V)}{k:Key}{u:uW}{A:v7}{E:uW->uZ->Prop}
end
def uE (i:Expr):Prop:=∀ov iv,subscripted i false ov iv=operate [ov,iv] (getItem ov iv)
theorem qY {prog:vI}{w:wc}{A:v7}{E:uW->uZ->Prop}{s:uZ}{env:Env}{value slice:Expr}{pos:Pos}{T id:String}{Q:uW->uZ->Prop}
  (hl:typeLookup (.type T) "__getitem__" = pure (some (.builtin id))) (hs:uE slice)
  (h:vJ (vK prog w) A (eval value env) (λo s₁=>vJ (vK prog w) A (eval slice env) (λi s₂=>s₂.TypeIs o T/\vJ (vK prog w) A (getItem o i) Q E s₂) E s₁) E s) :
  vJ (vK prog w) A (eval (.Subscript value slice pos) env) Q E s:=by
 refine Subscript_ (xG h (λo s₁ h₁=>xG h₁ (λi s₂ h₂ =>?_) λ_ _ x=>x) λ_ _ x=>x)
 obtain ⟨hT,h₂⟩:=h₂
 unfold subscriptTail
 refine uU ?_
 rw[getitemInPython_of_ne hT.not_modules]
 refine uU (yD hT hl ?_)
 have fin:vJ (vK prog w) A (subscripted slice false o i) (λr s₃=>vJ (vK prog w) A (letTemporaryGo value o r >>= λ_=>pure r) Q E s₃) E s₂:=by
  rw[hs o i]
  exact wpAny_operating (xG h₂ (λr s₃ h₃=>uU (wpAny_letTemporaryGo (vg h₃))) λ_ _ x=>x)
 first
  | exact vg (uU fin)
  | exact uU (vg (uU fin))
  | exact uU fin
theorem j8 {X:Cx}{pins:List (Addr×Obj)}{σ:St}{H:Hp}{s:uZ}{a:Addr}{y:V}{o:Option V}(I:Inv X pins σ H s)(g:iA H a y o):s.TypeIs (.ref a) "dict" := by
 rcases g with ⟨kvs,k,e,_,_⟩ | ⟨kvs,k,b,e,_,_,_⟩
 ·obtain ⟨_,_,vs,_,dd⟩:=pF I.hok e
  exact dd.typeIs
 ·obtain ⟨_,_,xs,_,dd⟩:=pG I.hok e
  exact dd.typeIs
def uF (td ty:TE):TE:=λσ H Q=>td σ H λx H1=>ty σ H1 λy H2=>∃a v,x = .ref a/\iA H2 a y (some v)/\Q v H2
def uG (td ty tv:TE):TS:=λD σ H=>tv σ H λv H1=>td σ H1 λx H2=>ty σ H2 λy H3=>∃a H4,x = .ref a/\j7 H3 a y v H4/\D.nx σ H4
section
variable  {X:Cx}{o i e value:Expr}{pos pos' tpos:Pos}{td ty tv:TE}
theorem fq (hu:X.A.units+1<cLine)(ho:PE X o td)(hi:PE X i ty)(hs:uE i):PE X (.Subscript o i pos) (uF td ty):=by
 intro pins s σ H Q I h
 refine qY PySem.F.slot_dict_getitem.lookup hs (thn (ho pins s σ H _ I h) λu s1 ⟨x,H1,I1,rx,q1⟩=>thn (hi pins s1 σ H1 _ I1 q1) λiv s2 ⟨y,H2,I2,ry,a,v,ex,g,q2⟩ =>?_)
 subst ex
 obtain rfl:u=vq a:=rx
 exact ⟨j8 I2 g,nG hu I2 g ry λw' s3 I3 rw'=>⟨v,H2,I3,rw',q2⟩⟩
theorem gr (hu:X.A.units+1<cLine)(ho:PE X o td)(hi:PE X i ty)(hv:PE X value tv)(hs:swapsWith value (some (.Subscript o i pos')) pos.line X.env=pure false) :
  PS X (.Assign [.Subscript o i pos'] value pos) (uG td ty tv):=by
 intro pins s σ H D I h
 refine wpAny_Assign_Subscript (thn (hv pins s σ H _ I h) λr s1 ⟨v,H1,I1,rv,q1⟩=>thn (ho pins s1 σ H1 _ I1 q1) λu s2 ⟨x,H2,I2,rx,q2⟩=>thn (hi pins s2 σ H2 _ I2 q2) λiv s3 ⟨y,H3,I3,ry,a,H4,ex,g,q3⟩ =>?_) hs
 subst ex
 obtain rfl:u=vq a:=rx
 exact nH hu I3 g ry rv λs4 I4=>⟨σ,H4,I4,q3⟩
end
theorem pI {P:vI}{w:wc}{H:Hp}(h:Heap)(hb:sysModules<h.objs.size):aT P w H (h.push { cls :=.type "dict",data :=.dict #[] }) h.objs.size (.dT []) :=
 ⟨vY _,beq_eq_false_iff_ne.mpr (xi (vH hb)),[],.nil,_, #[],0,ve _ rfl,⟨rfl,rfl,rfl⟩,rfl,rfl,zv⟩
def tj:TE:=λ_ H Q=>∀p,H p=none->Q (.ref p) (upd H p (.dT []))
section
variable  {X:Cx}{pos:Pos}
theorem gQ:PE X (.Dict [] [] pos) tj:=λpins s σ H Q I h =>
 wpAny_Dict_empty ⟨.ref s.heap.objs.size,_,I.laid (a:=s.heap.objs.size) (o :=.dT []) (t':=s.toks) (λ_ _ q=>uV _ q) (va _) (pI s.heap I.big),rfl,h _ (I.hok.fresh (va _))⟩
end
section
variable  {X:Cx}{pins:List (Addr×Obj)}{σ:St}{H:Hp}{s:uZ}{a:Addr}{y d:V}{u r:uW}{o:Option V}{A:v7}{E:uW->uZ->Prop}
end
section
variable  {X:Cx}{o e f:Expr}{apos cpos:Pos}{td ty tx:TE}
end
section
variable  {X:Cx}{pins:List (Addr×Obj)}{σ:St}{H:Hp}{s:uZ}{a:Addr}{kvs:List (Key×V)}{A:v7}{E:uW->uZ->Prop}
end
section
variable  {X:Cx}{pins:List (Addr×Obj)}{σ:St}{H:Hp}{s:uZ}{a:Addr}{y:V}{u:uW}{A:v7}{E:uW->uZ->Prop}
end
open PySem PySem.Spec PyProof.Rows
section
variable  {X:Cx}
end
section
variable  {κ:Type}[DecidableEq κ]
end
open PySem PyProof.Rows
section
variable  {X:Cx}
def tm (ns ms:List Int)(j:Nat):Bool:=ns.getD j 0 == ms.getD j 0
theorem pJ {ns ms:List Int}(h:ns.length=ms.length):((wF ns.length).all λj=>tm ns ms j)=decide (ns=ms):=by
 rw[w9,decide_eq_true_iff,xX]
 constructor
 ·intro hh
  refine yR h λj h1 h2 =>?_
  have:=hh j (xM.mpr h1)
  unfold tm at this
  rw[vz,vz,vk h1,vk h2] at this
  exact of_decide_eq_true (by simpa using this)
 ·rintro rfl j _
  exact beq_self_eq_true _
theorem intAt {ns:List Int}{us:List uW}(r:Vals (ns.map V.int) us){j:Nat}(h:j<us.toArray.size):∃t,us.toArray[j] = .int (ns.getD j 0) t:=by
 have l:=r.length
 rw[uT] at l
 rw[u0] at h
 have e1:(ns.map V.int)[j]? = some (.int (ns.getD j 0)):=by
  rw[vi,vz,vk (by omega)]
  rfl
 obtain ⟨u,g1,q1⟩:=r.get e1
 have f1:us.toArray[j]=u:=by simp[vb] at g1;obtain ⟨_,g⟩:=g1;simpa using g
 rw[f1]
 exact q1
theorem qZ {k:Nat}(hr:cg k X.A):OpR X (xS .NotEq) (λx y H Q=>∃(a b:Addr) (ns ms:List Int),x = .ref a/\y = .ref b/\SqL X.K H a (ns.map V.int)/\SqL X.K H b (ms.map V.int)/\Q (.bl (!decide (ns=ms))) H):=by
 intro pins s σ H x y v u Q I rx ry h
 obtain ⟨a,b,ns,ms,rfl,rfl,h1,h2,q⟩:=h
 cases (show v=vq a from rx)
 cases (show u=vq b from ry)
 obtain ⟨its,r1,⟨⟨c1,d1,da1,sl1⟩,n1,e1,k1,_,k3⟩,_⟩:=I.list h1
 obtain ⟨its2,r2,⟨⟨c2,d2,da2,sl2⟩,n2,e2,g1,_,g3⟩,_⟩:=I.list h2
 simp only at k1 k3 g1 g3
 subst k1 k3 g1 g3
 have l1:=r1.length
 have l2:=r2.length
 rw[uT] at l1 l2
 have hu:=hr.un
 have hu1:X.A.units<cLine:=by omega
 by_cases hl:ns.length=ms.length
 ·refine xV (op :=.NotEq) ⟨_,e1,rfl⟩ ⟨_,e2,rfl⟩ Af zQ (zC _ _) (B7 a b its.toArray its2.toArray n1 n2 d1 d2 sl1 sl2 (by rw[u0,u0];omega) (tm ns ms)) ⟨e1,e2,?_,?_⟩ hu1
  ·intro j h1 h2
   obtain ⟨t1,g1⟩:=intAt r1 h1
   obtain ⟨t2,g2⟩:=intAt r2 h2
   rw[g1,g2]
   exact xE _ t1 _ t2
  ·have ez:its.toArray.size=ns.length:=by rw[u0];omega
   rw[ez,pJ hl]
   exact ⟨(λz=>nomatch z),⟨.bl _,H,I,rfl,q⟩⟩
 ·have ne:ns≠ms:=λz=>hl (by rw[z])
  rw[decide_eq_false ne] at q
  refine xV (op :=.NotEq) ⟨_,e1,rfl⟩ ⟨_,e2,rfl⟩ Af zQ (zC _ _) (As a b its.toArray its2.toArray n1 n2 d1 d2 sl1 sl2 (by simp;omega)) ⟨e1,e2,?_⟩ hu1
  exact ⟨(λz=>nomatch z),⟨.bl true,H,I,rfl,q⟩⟩
end
end L2
namespace HT
open PySem PySem.Spec PyProof.Rows
section
variable  {prog:vI}{w:wc}{A:v7}{R:Result->uZ->Prop}{I:Addr}{fp wr:List Addr}{n:Nat}{P:Nat->uW->Prop}{St:Nat->Heap->Prop}{kw:List (Str×uW)}
end
section
variable  {prog:vI}{w:wc}{A:v7}{E:uW->uZ->Prop}{s:uZ}{l:Addr}{xs:Array (Int×Tok)}
end
end HT
namespace L2
open PySem PyProof.Rows
section
variable  {X:Cx}{x:Str}{id:String}{e:Expr}{es:List Expr}{kws:List Keyword}{p pos:Pos}{t tk:TA}{ks:List Str}{r:List V->List V->Hp->VK->Prop}
end
open PySem PyProof.Rows
section
variable  {X:Cx}
theorem tw {ns:List Int}{j:Nat}(h:j<ns.length):ns.getD j 0∈ns:=by
 rw[vz,vk h]
 exact zD h
theorem tE {ns:List Int}{a:Int}(h:a∈ns):∃j,j<ns.length/\ns.getD j 0=a:=by
 obtain ⟨j,hj,e⟩:=Bc h
 exact ⟨j,hj,by rw[vz,vk hj];exact e⟩
end
open PySem PyProof.Rows
section
variable  {X:Cx}
def mj (ns ms:List Int)(j:Nat):Bool:=ns.getD j 0 == ms.getD j 0
theorem nJ {ns ms:List Int}(h:ns.length=ms.length):((wF ns.length).all λj=>mj ns ms j)=decide (ns=ms):=by
 rw[w9,decide_eq_true_iff,xX]
 constructor
 ·intro hh
  refine yR h λj h1 h2 =>?_
  have:=hh j (xM.mpr h1)
  unfold mj at this
  rw[vz,vz,vk h1,vk h2] at this
  exact of_decide_eq_true (by simpa using this)
 ·rintro rfl j _
  exact beq_self_eq_true _
theorem nK {ns ms:List Int}:((wF (min ns.length ms.length)).all (mj ns ms) && ns.length == ms.length)=decide (ns=ms):=by
 by_cases h:ns.length=ms.length
 ·rw[<- h,AY,show (ns.length == ns.length)=true from beq_self_eq_true _,Bool.and_true]
  exact nJ h
 ·have ne:ns≠ms:=λz=>h (by rw[z])
  rw[decide_eq_false ne,show (ns.length == ms.length)=false from by simpa using h,Bool.and_false]
theorem pK {ns:List Int}{us:List uW}(r:Vals (ns.map V.int) us){j:Nat}(h:j<us.toArray.size):∃t,us.toArray[j] = .int (ns.getD j 0) t:=by
 have l:=r.length
 rw[uT] at l
 rw[u0] at h
 have e1:(ns.map V.int)[j]? = some (.int (ns.getD j 0)):=by
  rw[vi,vz,vk (by omega)]
  rfl
 obtain ⟨u,g1,q1⟩:=r.get e1
 have f1:us.toArray[j]=u:=by simp[vb] at g1;obtain ⟨_,g⟩:=g1;simpa using g
 rw[f1]
 exact q1
theorem ml {k:Nat}(hr:cg k X.A):OpR X (xS .Eq) (λx y H Q=>∃(a b:Addr) (ns ms:List Int),x = .ref a/\y = .ref b/\SqT X.K H a (ns.map V.int)/\SqT X.K H b (ms.map V.int)/\Q (.bl (decide (ns=ms))) H):=by
 intro pins s σ H x y v u Q I rx ry h
 obtain ⟨a,b,ns,ms,rfl,rfl,h1,h2,q⟩:=h
 cases (show v=vq a from rx)
 cases (show u=vq b from ry)
 obtain ⟨its,r1,p1,_⟩:=I.tuple h1
 obtain ⟨its2,r2,p2,_⟩:=I.tuple h2
 have l1:=r1.length
 have l2:=r2.length
 rw[uT] at l1 l2
 have hu:=hr.un
 have hu1:X.A.units<cLine:=by omega
 have R:=An (A:=X.A) (e:=mj ns ms) (show s.heap.IsTuple a its.toArray from p1) (show s.heap.IsTuple b its2.toArray from p2) hu1 (by
  intro j h1 h2
  obtain ⟨t1,g1⟩:=pK r1 h1
  obtain ⟨t2,g2⟩:=pK r2 h2
  rw[g1,g2]
  exact xE _ t1 _ t2)
 rw[u0,u0, <- l1, <- l2,nK] at R
 exact R _ _ _ _ ⟨.bl _,H,I,rfl,q⟩
def Wd (i:Int):Prop:=i.natAbs<2 ^ 4000
theorem Wd.bits {i:Int}(h:Wd i):Builtin.Int.intBits i<=2 ^ 20:=by
 unfold Builtin.Int.intBits
 split
 ·exact vY _
 ·have:i.natAbs.log2<4000:=by
   rcases Nat.eq_zero_or_pos i.natAbs with h0 | hp
   ·rw[h0];decide
   ·exact (Nat.log2_lt (by omega)).mpr h
  omega
def uH (i j:Int):Prop:=Wd i/\Wd j
theorem jv:OpR X (binaryOp .Mult) (rI uH λi j =>.int (i*j)):=opI λ_ _ _ _ _ _ _ hc q=>mul_int q (IntMulOk.of_bits hc.1.bits hc.2.bits)
def uI (_ j:Int):Prop:=0<j/\Wd j
theorem pL:OpR X (binaryOp .FloorDiv) (rI uI λi j =>.int (i/j)):=opI λi j _ _ _ _ _ hc q=>by
 have h1:(0:Int)<j:=hc.1
 have h2:j.natAbs.log2<9000:=by
  have:j.natAbs.log2<4000:=(Nat.log2_lt (by omega)).mpr hc.2
  omega
 refine floordiv_int (by omega) ?_ (.inl (PyProof.noPylong_of_log2 h2))
 rw[z0 i (by omega)]
 exact q
end
section
variable  {P:vI}{w:wc}{K:u6}{mg:Str->Option uW}{base:Heap}
end
end L2
namespace L2.Rev
open PySem
open Sem (wp)
section
variable  {prog:vI}{w:wc}{A:v7}{E:uW->uZ->Prop}{s:uZ}
end
end L2.Rev
namespace L2
open PySem PySem.Spec PyProof.Rows
section
variable  {X:Cx}
theorem j9:we "reversed" = some (.type "reversed"):=by decide +kernel
theorem kf:∀{xs:List V} {us:List uW},Vals xs us->Vals xs.reverse us.reverse
 | [],[],_ =>.nil
 | x :: xs,u :: us,.cons h t=>by
  rw[BE,BE]
  exact (kf t).append (.cons h .nil)
end
end L2
namespace L2.Rem
open PySem PySem.SeqAt PySem.MeetsSeq
open AutoSeq1 (wpAny_loadPart')
end L2.Rem
namespace L2
open PySem PySem.Spec PyProof.Rows
section
variable  {X:Cx}
theorem any_range {bs:List Bool}:((wF bs.length).any λi=>bs.getD i false)=bs.any id:=by
 rw[w9,AI,AI]
 constructor
 ·rintro ⟨i,hi,h⟩
  have lt:=xM.mp hi
  rw[vz,vk lt] at h
  exact ⟨bs[i],zD lt,h⟩
 ·rintro ⟨b,hb,h⟩
  obtain ⟨i,lt,e⟩:=Bc hb
  refine ⟨i,xM.mpr lt,?_⟩
  rw[vz,vk lt,e]
  exact h
theorem pM (hc:X.calm=true):bY X (.builtin "any") (λxs H Q=>∃(p:Addr) (bs:List Bool),xs=[.ref p]/\SqL X.K H p (bs.map V.bl)/\Q (.bl (bs.any id)) H):=by
 intro pins s σ H xs us Q I r h
 obtain ⟨p,bs,rfl,hs,q⟩:=h
 obtain ⟨u,rfl,ru⟩:=vals1 r
 cases (show u=vq p from ru)
 obtain ⟨its,rv,pl,hz⟩:=I.list hs
 have l:=rv.length
 rw[uT] at l
 have hpl:p<s.heap.objs.size:=by obtain ⟨o,_,e,_⟩:=pl;exact vh e
 refine call_any_walk (zu pl.isList ?_)
 have hd:X.A.in1.handled=none:=I.ok.hd hc
 refine ⟨s.heap.objs.size,_,_,_,_,_,_,rfl,Walks.list hd s.heap.objs.size p (vH hpl) its.toArray,⟨⟨_,ve _ rfl,rfl,rfl⟩,?_⟩,jY rv,λh' tk k =>?_⟩
 ·exact pl.isList.at λo e=>uV _ e
 ·have e:((wF its.toArray.size).any λi=>bs.getD i false)=bs.any id:=by rw[u0, <- l,any_range]
  rw[e]
  refine ⟨.bl (bs.any id),H,I.kept (t':=tk) (λb o eb=>k b o ?_ (uV _ eb)),rfl,q⟩
  intro hb
  have:b=s.heap.objs.size:=by simpa using hb
  exact absurd (vh eb) (by rw[this];exact wX _)
end
open PySem PySem.Spec PyProof.Rows
theorem Inv.nL {X:Cx}{pins:List (Addr×Obj)}{σ:St}{H:Hp}{s:uZ}{h':Heap}{t':Nat}{ch:List Addr}(I:Inv X pins σ H s)(f:∀b∈ch,fJ X pins H b)
  (k:∀b ob,b∉ch->s.heap.get? b=some ob->h'.get? b=some ob):Inv X pins σ H { s with heap:=h',toks:=t' }:=by
 have nit:∀b u,H b=some u->b∉ch:=λb u e z=>by have:=(f b z).1;rw[this] at e;cases e
 refine I.step (g':=s.gens) (d':=s.drawn) (ch:=ch) (λb hb =>?_) (λb o _ _ hc e _=>k b o hc e) (λb o _ _ hc e _=>⟨o.slots,k b o hc e⟩) (λ_ _ _ _ n=>n)
  (λb o hc e=>⟨o,k b o hc e⟩) (λ_ _ e=>e) (λ_ _ _ e=>e) (λb ps e=>⟨#[],by rw[e];simp⟩) (λm hm =>?_) (λb u e =>?_) I.bare
 ·obtain ⟨g0,g1,g2,g3,g4,g5⟩:=f b hb
  exact ⟨g3,g1,g4,g5⟩
 ·obtain ⟨o,es,ep,ho,r⟩:=hm
  exact ⟨o,es,ep,k _ o (λz=>(f _ z).2.1 rfl) ho,r⟩
 ·refine (I.hok b u e).stay (λc v hc q=>k c v ?_ q) (λ_ q=>q) λ_ _ q=>q
  rcases hc with z | z
  ·rw[z];exact nit b u e
  ·exact nit c _ z
theorem tF (n a b:Nat)(h1:a<n)(h2:b<n):ZipApart (n+4) (n+2) (n+3) n (n+1) a b :=
  ⟨λz=>absurd (show n+2=n+4 from z) (by omega),λz=>absurd (show n+3=n+4 from z) (by omega),λz=>absurd (show n=n+4 from z) (by omega),λz=>absurd (show n+1=n+4 from z) (by omega),λz=>absurd (show n+2=n+3 from z) (by omega),λz=>absurd (show n+2=n from z) (by omega),λz=>absurd (show n+2=n+1 from z) (by omega),λz=>absurd (show n+3=n from z) (by omega),λz=>absurd (show n+3=n+1 from z) (by omega),λz=>absurd (show n=n+1 from z) (by omega),
   λz=>absurd (show a=n+4 from z) (by omega),λz=>absurd (show a=n+3 from z) (by omega),λz=>absurd (show a=n from z) (by omega),λz=>absurd (show a=n+1 from z) (by omega),λz=>absurd (show b=n+4 from z) (by omega),λz=>absurd (show b=n+3 from z) (by omega),λz=>absurd (show b=n from z) (by omega),λz=>absurd (show b=n+1 from z) (by omega)⟩
theorem boot_zip:we "zip" = some (.type "zip"):=by decide +kernel
section
variable  {X:Cx}
end
open PySem PySem.Spec PyProof.Rows
theorem dq {α:Type}{g:α -> Addr}{ts:List α}{i:Nat}{x:V}(e:(ts.map λt=>V.ref (g t))[i]? = some x):∃u,ts[i]? = some u/\x = .ref (g u):=by
 rw[vi] at e
 cases z:ts[i]? with
 | none=>rw[z] at e;cases e
 | some tt=>rw[z] at e;exact ⟨tt,rfl,(vR e).symm⟩
theorem eD {ns:List Int}{i:Nat}{x:V}(e:(ns.map V.int)[i]? = some x):∃u,ns[i]? = some u/\x = .int u:=by
 rw[vi] at e
 cases z:ns[i]? with
 | none=>rw[z] at e;cases e
 | some tt=>rw[z] at e;exact ⟨tt,rfl,(vR e).symm⟩
theorem rM {α β:Type}{f:α -> β}{l:List α}{i:Nat}{x:α}(e:l[i]? = some x):(l.take (i+1)).map f=(l.take i).map f++[f x]:=by
 rw[vQ,e,vj];rfl
theorem fc {α:Type}(l:List α):l.take l.length=l:=vD (va _)
theorem pN {xs:List Int}{d:Int}(h0:0<=d)(h1:d<xs.length):∃v,v∈xs/\atI (xs.map V.int) d=some (.int v):=by
 obtain ⟨n,rfl⟩:∃n:Nat,d=n:=⟨d.toNat,by omega⟩
 have hn:n<xs.length:=by omega
 refine ⟨xs[n],zD hn,cB ?_⟩
 rw[vi,vk hn]
 rfl
theorem tG (k:Int):∀ps:List Int,inV (.int k) (ps.map V.int)=decide (k∈ps)
 | []=>by simp[inV]
 | p :: ps=>by
  have ih:=tG k ps
  unfold inV at ih ⊢
  rw[vw,y9,ih]
  have e:eqV (.int p) (.int k)=(p == k):=rfl
  rw[e]
  by_cases h:p=k
  ·subst h;simp
  ·rw[beq_eq_false_iff_ne.mpr h,CC]
   apply decide_eq_decide.mpr
   rw[vM]
   exact ⟨.inr,λx=>x.elim (λy=>absurd y.symm h) id⟩
theorem mn {α:Type}{F:V->V->Prop}{f:α -> V}(h:∀x,F (f x) (f x)):∀l:List α,Paired F (l.map f) (l.map f)
 | [] =>.nil
 | x :: l =>.cons (h x) (mn h l)
theorem q4 {K:u6}{H:Hp}{n:Nat}(a:Addr):eJ K H (n+1) (.ref a) (.ref a) :=.inr (.inl ⟨a,rfl,rfl⟩)
def Pt (n:Nat)(H:Hp)(p:Addr):Prop:=∃xs:List Int,xs.length=n/\H p=some (.lst (xs.map V.int))
structure Bu (n:Nat)(p:Addr)(H H':Hp):Prop where
 pot:Pt n H' p
 st:∀q o,q≠p->H q=some o->H' q=some o
theorem Pt.same {n:Nat}{p:Addr}{H H1:Hp}(a:Pt n H p)(s:aD H H1):Pt n H1 p:=by obtain ⟨xs,l,e⟩:=a;exact ⟨xs,l,s _ _ e⟩
theorem Pt.ne {n:Nat}{p b:Addr}{H:Hp}(a:Pt n H p)(h:H b=none):b≠p:=by
 obtain ⟨xs,_,e⟩:=a
 exact xi (ak e h)
theorem Pt.neT {n:Nat}{p b:Addr}{H:Hp}{ys:List V}(a:Pt n H p)(h:H b=some (.tup ys)):b≠p:=by
 obtain ⟨xs,_,e⟩:=a
 exact lO h e (by intro z;cases z)
theorem Bu.refl {n:Nat}{p:Addr}{H:Hp}(h:Pt n H p):Bu n p H H:=⟨h,λ_ _ _ z=>z⟩
theorem Bu.trans {n:Nat}{p:Addr}{H H1 H2:Hp}(a:Bu n p H H1)(b:Bu n p H1 H2):Bu n p H H2:=⟨b.pot,λq o m z=>b.st q o m (a.st q o m z)⟩
theorem Bu.same {n:Nat}{p:Addr}{H H1 H2:Hp}(a:Bu n p H H1)(b:aD H1 H2):Bu n p H H2:=⟨a.pot.same b,λq o m z=>b _ _ (a.st q o m z)⟩
theorem Bu.put {n:Nat}{p:Addr}{H H1:Hp}(a:Bu n p H H1){ys:List Int}(l:ys.length=n):Bu n p H (upd H1 p (.lst (ys.map V.int))):=⟨⟨ys,l,af⟩,λq o m z=>by rw[ax m];exact a.st q o m z⟩
theorem Bu.lC {n:Nat}{p l:Addr}{H H1:Hp}(a:Bu n p H H1)(hl:H l=none)(np:l≠p)(o:HO):Bu n p H (upd H1 l o):=⟨by obtain ⟨xs,z,e⟩:=a.pot;exact ⟨xs,z,by rw[ax np.symm];exact e⟩,λq u m z=>by rw[ax (ak z hl)];exact a.st q u m z⟩
theorem Bu.tup {n:Nat}{p q:Addr}{H H1:Hp}(a:Bu n p H H1)(h:Pt n H p){xs:List V}(t:H q=some (.tup xs)):H1 q=some (.tup xs):=a.st q _ (h.neT t) t
def Tus (H:Hp)(ts:List (Addr×List Int)):Prop:=∀u∈ts,H u.1=some (.tup (u.2.map V.int))
theorem Tus.same {H H':Hp}{ts:List (Addr×List Int)}(h:Tus H ts)(s:aD H H'):Tus H' ts:=λu hu=>s _ _ (h u hu)
theorem Tus.bu {n:Nat}{p:Addr}{H H':Hp}{ts:List (Addr×List Int)}(h:Tus H ts)(b:Bu n p H H')(hp:Pt n H p):Tus H' ts:=λu hu=>b.tup hp (h u hu)
theorem Tus.snoc {H:Hp}{ts:List (Addr×List Int)}(h:Tus H ts){u:Addr×List Int}(e:H u.1=some (.tup (u.2.map V.int))):Tus H (ts++[u]):=λv hv=>by
 rcases vx.mp hv with z | z
 ·exact h v z
 ·rw[vA] at z;subst z;exact e
structure Mkg (n:Nat)(p la:Addr)(H H':Hp)(us:List (Addr×List Int)):Prop where
 bu:Bu n p H H'
 at':H' la=some (.lst (us.map λu =>.ref u.1))
 tu:Tus H' us
 two:∀u∈us,∃x y,u.2=[x,y]
theorem Mkg.bu' {n:Nat}{p la:Addr}{H H1 H2:Hp}{us:List (Addr×List Int)}(m:Mkg n p la H H1 us)(np:la≠p)(b:Bu n p H1 H2):Mkg n p la H H2 us:=⟨m.bu.trans b,b.st _ _ np m.at',m.tu.bu b m.bu.pot,m.two⟩
theorem Mkg.add {n:Nat}{p la t:Addr}{H H1:Hp}{us:List (Addr×List Int)}(m:Mkg n p la H H1 us)(hla:H la=none)(np:la≠p)(ht:H1 t=none)(x y:Int):Mkg n p la H (upd (upd H1 t (.tup [.int x,.int y])) la (.lst ((us.map λu=>V.ref u.1)++[.ref t]))) (us++[(t,[x,y])]):=by
 have ntl:t≠la:=xi (ak m.at' ht)
 refine ⟨(m.bu.same (ae ht _)).lC hla np _,?_,?_,?_⟩
 ·rw[af,vj]
  rfl
 ·refine Tus.snoc (λu hu =>?_) ?_
  ·rw[ax (lO (m.tu u hu) m.at' (by intro z;cases z)),ax (ak (m.tu u hu) ht)]
   exact m.tu u hu
  ·show upd (upd H1 t _) la _ t=_
   rw[ax ntl]
   exact af
 ·intro u hu
  rcases vx.mp hu with z | z
  ·exact m.two u z
  ·rw[vA] at z;subst z;exact ⟨x,y,rfl⟩
variable  {X:Cx}
open PySem PySem.Spec PyProof.Rows
section
variable  {X:Cx}
theorem pO {k:Int}:∀{ns:List Int} {m:Nat} (h:m<ns.length),m<ns.idxOf k->ns[m]≠k
 | [],m,h,_=>absurd h (Nat.not_lt_zero _)
 | n :: ns,0,_,l=>by
  intro z
  have e:(n :: ns)[0]=n:=rfl
  rw[e] at z
  subst z
  simp at l
 | n :: ns,m+1,h,l=>by
  have h':m<ns.length:=Nat.lt_of_succ_lt_succ h
  show ns[m]≠k
  refine pO h' ?_
  by_cases e:n=k
  ·subst e;simp at l
  ·rw[List.idxOf_cons,show (n == k)=false by simpa using e] at l
   simp at l
   exact l
theorem iZ:MtR X "list.index" (λx vs H Q=>∃(p:Addr) (ns:List Int) (k:Int),x = .ref p/\vs=[.int k]/\H p=some (.lst (ns.map V.int))/\k∈ns/\ns.length<=100000/\Q (.int (ns.idxOf k:Nat)) H):=by
 intro pins s σ H x vs v us Q I rx rv h
 obtain ⟨p,ns,k,rfl,rfl,hp,hk,hz,q⟩:=h
 cases rx
 obtain ⟨u,rfl,⟨t,rfl⟩⟩:=vals1 rv
 obtain ⟨z,its,n,r,e1⟩:=(show aT X.prog X.w H s.heap p (.lst _) from I.hok p _ hp)
 have hi:xT its ns:=intsAre_of r
 have hlen:=hi.length
 have hj:ns.idxOf k<ns.length:=List.idxOf_lt_length_iff.mpr hk
 refine Aq ze ⟨_,e1,rfl⟩ PySem.F.entry_list_index (PySem.F.args_list_index_2 _ _) (SeqAt.list_indexAt p its.toArray n none #[] (.int k t) (isInt k) (ns.idxOf k) (by simpa [hlen] using hj) (by omega) ?_ ?_) ⟨e1,λy hy=>nE hi y hy,⟨.int _,H,I.tok _,⟨_,rfl⟩,q⟩⟩
 ·show isInt k its[ns.idxOf k]=true
  rw[isInt_at k hi _ (by omega) hj];simpa using List.getElem_idxOf hj
 ·intro j hjs hlt
  show isInt k its[j]=false
  rw[isInt_at k hi j (by simpa using hjs) (by omega)]
  simpa using pO (by omega) hlt
def gR (K:u6):R2:=λx y H Q=>∃a b xs ys,x = .ref a/\y = .ref b/\SqT K H a xs/\SqT K H b ys/\xs.length+ys.length<=vm/\(xs=[]->Q (.ref b) H)/\(ys=[]->Q (.ref a) H)/\(xs≠[]->ys≠[]->∀p,H p=none->Q (.ref p) (upd H p (.tup (xs++ys))))
theorem kg:OpR X (binaryOp .Add) (gR X.K):=by
 intro pins s σ H x y v u Q I rx ry h
 obtain ⟨a,b,xs,ys,rfl,rfl,ha,hb,hz,q1,q2,q3⟩:=h
 by_cases hx:xs=[]
 ·cases rx
  cases ry
  obtain ⟨its,r1,p1,_⟩:=I.tuple ha
  obtain ⟨its2,r2,p2,_⟩:=I.tuple hb
  obtain ⟨⟨c1,d1,da1,s1⟩,o1,k1,n1,g1⟩:=id p1
  obtain ⟨⟨c2,d2,da2,s2⟩,o2,k2,n2,g2⟩:=id p2
  simp only at k1 g1 k2 g2
  subst k1 g1 k2 g2
  have e0:its=[]:=r1.gq.mpr hx
  exact A2 ⟨_,o1,rfl⟩ ⟨_,o2,rfl⟩ AL Bs zk y7 (yX _ _)
   (tuple_addW0 a b its.toArray its2.toArray n1 n2 d1 d2 s1 s2 (by simp[e0])) ⟨o1,o2,⟨.ref b,H,I,rfl,q1 hx⟩⟩
 ·exact qF pins s σ H _ _ v u Q I rx ry ⟨a,b,xs,ys,rfl,rfl,ha,hb,hx,hz,q2,λhy=>q3 hx hy⟩
theorem gR.one {K:u6}{H:Hp}{Q:VK}{a b:Addr}{xs ys:List V}(ha:H a=some (.tup xs))(hb:H b=some (.tup ys))(hz:xs.length+ys.length<=vm)(q:∀p H',aD H H'->H' p=some (.tup (xs++ys))->Q (.ref p) H'):gR K (.ref a) (.ref b) H Q:=by
 refine ⟨a,b,xs,ys,rfl,rfl,SqT.of ha,SqT.of hb,hz,λz =>?_,λz =>?_,λ_ _ p hp=>q p _ (ae hp _) af⟩
 ·subst z;exact q b H (aD.refl _) hb
 ·subst z;exact q a H (aD.refl _) (by rw[wM];exact ha)
end
open PySem PySem.Spec PyProof.Rows
def ItB:Bool->Heap->Addr->Addr->Nat->Prop
 | true,h,it,l,i=>h.IsListIter it l i
 | false,h,it,l,i=>h.IsTupleIter it l i
def SB':Bool->Heap->Addr->Array uW->Prop
 | true,h,l,xs=>h.IsList l xs
 | false,h,l,xs=>h.IsTuple l xs
theorem ItB.to {b:Bool}{h h':Heap}{it l:Addr}{i:Nat}(x:ItB b h it l i)(k:∀o,h.get? it=some o->h'.get? it=some o):ItB b h' it l i:=by
 cases b
 ·exact Heap.IsTupleIter.at (show h.IsTupleIter it l i from x) k
 ·exact Heap.IsListIter.at (show h.IsListIter it l i from x) k
theorem SB'.to {b:Bool}{h h':Heap}{l:Addr}{xs:Array uW}(x:SB' b h l xs)(k:∀o,h.get? l=some o->h'.get? l=some o):SB' b h' l xs:=by
 cases b
 ·obtain ⟨o,e,r⟩:=(show h.IsTuple l xs from x);exact ⟨o,k o e,r⟩
 ·obtain ⟨o,e,r⟩:=(show h.IsList l xs from x);exact ⟨o,k o e,r⟩
theorem ItB.lt {b:Bool}{h:Heap}{it l:Addr}{i:Nat}(x:ItB b h it l i):it<h.objs.size:=by
 cases b
 ·obtain ⟨o,e,_⟩:=(show h.IsTupleIter it l i from x);exact vh e
 ·obtain ⟨o,e,_⟩:=(show h.IsListIter it l i from x);exact vh e
theorem ItB.obj {b:Bool}{h:Heap}{it l:Addr}{i:Nat}(x:ItB b h it l i):∃o,h.get? it=some o/\∀v,o.data ≠ .cell v:=by
 cases b
 ·obtain ⟨o,e,_,d⟩:=(show h.IsTupleIter it l i from x);exact ⟨o,e,λv z=>by rw[d] at z;cases z⟩
 ·obtain ⟨o,e,_,d⟩:=(show h.IsListIter it l i from x);exact ⟨o,e,λv z=>by rw[d] at z;cases z⟩
section
variable  {prog:vI}{w:wc}{A:v7}{E:uW->uZ->Prop}{s:uZ}
theorem pP {b:Bool}{it l:Addr}{i:Nat}{xs:Array uW}{x:uW}{Q:uW->uZ->Prop}(hi:ItB b s.heap it l i)(hl:SB' b s.heap l xs)(hx:xs[i]? = some x)
  (q:∀h',ItB b h' it l (i+1)->Heap.SameBut it s.heap h'->Q x { s with heap:=h' }):vJ (vK prog w) A (Builtin.SmallTypes.nextOf (.ref it)) Q E s:=by
 cases b
 ·exact lb hi hl hx q
 ·exact wpAny_nextOf_list_item hi hl hx q
theorem i0 {b:Bool}{it l:Addr}{i:Nat}{xs:Array uW}{Q:uW->uZ->Prop}(hh:A.handled=none)(hi:ItB b s.heap it l i)(hl:SB' b s.heap l xs)(hx:xs[i]? = none)
  (q:∀h' e,Heap.ExtBut it s.heap h'->(∃o,h'.get? e=some o/\o.cls = .type "StopIteration")->E (.ref e) { s with heap:=h' }):vJ (vK prog w) A (Builtin.SmallTypes.nextOf (.ref it)) Q E s:=by
 cases b
 ·exact gK hh hi hl hx q
 ·exact wpAny_nextOf_list_end hh hi hl hx q
theorem nM {c d:Bool}{z TI TO i1 i2 l1 l2:Addr}{k1 k2:Nat}{xs ys:Array uW}{x y a b:uW}{Q:uW->uZ->Prop}(D:ZipApart z TI TO i1 i2 l1 l2)
  (hz:IsZip s.heap z TI TO .none) (hTI:IsPair s.heap TI (.ref i1) (.ref i2)) (hTO:IsPair s.heap TO a b)
  (j1:ItB c s.heap i1 l1 k1) (j2:ItB d s.heap i2 l2 k2) (m1:SB' c s.heap l1 xs) (m2:SB' d s.heap l2 ys) (hx:xs[k1]? = some x) (hy:ys[k2]? = some y)
  (hQ:∀h',IsZip h' z TI TO (zX s.heap.objs.size)->IsPair h' TO x y->ItB c h' i1 l1 (k1+1)->ItB d h' i2 l2 (k2+1)->IsPair h' s.heap.objs.size x y->h'.objs.size=s.heap.objs.size+1 →
   (∀c o,c≠z->c≠TO->c≠i1->c≠i2->s.heap.get? c=some o->h'.get? c=some o)->Q (.ref s.heap.objs.size) { s with heap:=h' }) :
  vJ (vK prog w) A (Builtin.«zip.__next__» ⟨[.ref z],[]⟩) (λfin s'=>∃v,fin = .done (.ret v)/\Q v s') E s:=by
 show vJ _ _ (field (.ref z) 2 >>= _) _ _ _;refine uU (wW hz rfl (x :=.bool false) rfl ?_)
 show vJ _ _ (field (.ref z) 3 >>= _) _ _ _;refine uU (wW hz rfl (x :=.ref TI) rfl ?_)
 refine uU (x6 hTI rfl ?_);show vJ _ _ (Builtin.SmallTypes.ownedTupleIsFree (.ref z) >>= _) _ _ _
 refine uU ?_;unfold Builtin.SmallTypes.ownedTupleIsFree
 refine uU (wW hz rfl (x :=.none) rfl (vg ?_));simp only[if_true]
 refine uU (xY ?_);refine uU (wW hz rfl (x :=.ref TO) rfl ?_)
 refine uU (x5 hz (by simp) λg1 hz1 s1 =>?_);replace hz1:IsZip g1 z TI TO .ellipsis:=hz1
 refine uU ?_;simp only[AH,Ca,AV,Cp]
 refine uU (uU (AB ?_));show vJ _ _ (Builtin.SmallTypes.nextOf (.ref i1) >>= _) _ _ _
 refine uU (pP (j1.to λo e=>s1.extBut _ _ D.i1z e) (m1.to λo e=>s1.extBut _ _ D.l1z e) hx λg2 j1' s2=>vg ?_)
 have t2:IsPair g2 TO a b:=s2.extBut _ _ D.TOi1 (s1.extBut _ _ D.TOz hTO)
 refine uU (x6 t2 rfl ?_);refine uU (zI t2 λg3 t3 s3 =>?_)
 replace t3:IsPair g3 TO x b:=t3;refine uU (AD (vg ?_))
 refine uU (uU (AB ?_));show vJ _ _ (Builtin.SmallTypes.nextOf (.ref i2) >>= _) _ _ _
 refine uU (pP (((j2.to λo e=>s1.extBut _ _ D.i2z e).to λo e=>s2.extBut _ _ D.i12.symm e).to λo e=>s3.extBut _ _ D.TOi2.symm e) (((m2.to λo e=>s1.extBut _ _ D.l2z e).to λo e=>s2.extBut _ _ D.l2i1 e).to λo e=>s3.extBut _ _ D.l2TO e) hy λg4 j2' s4=>vg ?_)
 have t4:IsPair g4 TO x b:=s4.extBut _ _ D.TOi2 t3
 refine uU (x6 t4 rfl ?_);refine uU (zI t4 λg5 t5 s5 =>?_)
 replace t5:IsPair g5 TO x y:=t5;refine uU (AD (vg (vg ?_)))
 refine uU (x6 t5 rfl ?_);refine uU (A9 ?_)
 have sz:g5.objs.size=s.heap.objs.size:=by rw[s5.1,s4.1,s3.1,s2.1,s1.1]
 have z5:IsZip g5 z TI TO .ellipsis:=s5.extBut _ _ D.TOz.symm (s4.extBut _ _ D.i2z.symm (s3.extBut _ _ D.TOz.symm (s2.extBut _ _ D.i1z.symm hz1)))
 have k5:∀c o,c≠z->c≠TO->c≠i1->c≠i2->s.heap.get? c=some o->g5.get? c=some o:=λc o c1 c2 c3 c4 e=>s5.extBut _ _ c2 (s4.extBut _ _ c4 (s3.extBut _ _ c2 (s2.extBut _ _ c3 (s1.extBut _ _ c1 e))))
 have n1:ItB c g5 i1 l1 (k1+1):=((j1'.to λo e=>s3.extBut _ _ D.TOi1.symm e).to λo e=>s4.extBut _ _ D.i12 e).to λo e=>s5.extBut _ _ D.TOi1.symm e
 have n2:ItB d g5 i2 l2 (k2+1):=j2'.to λo e=>s5.extBut _ _ D.TOi2.symm e
 have zl:z<g5.objs.size:=vh z5
 show vJ _ _ (Builtin.SmallTypes.ownedTupleHandOut (.ref z) (.ref g5.objs.size) >>= _) _ _ _;refine uU ?_
 unfold Builtin.SmallTypes.ownedTupleHandOut
 have z6:IsZip (g5.push { cls :=.type "tuple",data :=.seq #[x,y] }) z TI TO .ellipsis:=uV _ z5
 refine uU (x5 z6 (by simp) λg7 z7 s7 =>?_);replace z7:IsZip g7 z TI TO (zX g5.objs.size):=z7
 refine x5 z7 (by simp) λg8 z8 s8 =>?_;replace z8:IsZip g8 z TI TO (zX g5.objs.size):=z8
 have up:∀c o,c≠z->g5.get? c=some o->g8.get? c=some o:=λc o c1 e=>s8.extBut _ _ c1 (s7.extBut _ _ c1 (uV _ e))
 have p8:IsPair g8 g5.objs.size x y:=s8.extBut _ _ (xw zl) (s7.extBut _ _ (xw zl) (ve _ rfl))
 have e8:g8.objs.size=g5.objs.size+1:=by rw[s8.1,s7.1,yM]
 rw[sz] at z8 p8 e8
 refine vg ⟨_,rfl,?_⟩;show Q (.ref g5.objs.size) _;rw[sz]
 exact hQ g8 z8 (up _ _ D.TOz t5) (n1.to λo e=>up _ o D.i1z e) (n2.to λo e=>up _ o D.i2z e) p8 e8 λc o c1 c2 c3 c4 e=>up c o c1 (k5 c o c1 c2 c3 c4 e)
theorem pQ {c d:Bool}{z TI TO i1 i2 l1 l2:Addr}{k1 k2:Nat}{xs ys:Array uW}{a b:uW}{Q:Fin->uZ->Prop}(hh:A.handled=none)(D:ZipApart z TI TO i1 i2 l1 l2)
  (hz:IsZip s.heap z TI TO .none) (hTI:IsPair s.heap TI (.ref i1) (.ref i2)) (hTO:IsPair s.heap TO a b)
  (j1:ItB c s.heap i1 l1 k1) (j2:ItB d s.heap i2 l2 k2) (m1:SB' c s.heap l1 xs) (m2:SB' d s.heap l2 ys) (hend:xs[k1]? = none\/ys[k2]? = none)
  (hE:∀h' e,(∀c o,c≠z->c≠TO->c≠i1->c≠i2->s.heap.get? c=some o->h'.get? c=some o)->(∃o,h'.get? e=some o/\o.cls = .type "StopIteration")->E (.ref e) { s with heap:=h' }) :
  vJ (vK prog w) A (Builtin.«zip.__next__» ⟨[.ref z],[]⟩) Q E s:=by
 show vJ _ _ (field (.ref z) 2 >>= _) _ _ _;refine uU (wW hz rfl (x :=.bool false) rfl ?_)
 show vJ _ _ (field (.ref z) 3 >>= _) _ _ _;refine uU (wW hz rfl (x :=.ref TI) rfl ?_)
 refine uU (x6 hTI rfl ?_);show vJ _ _ (Builtin.SmallTypes.ownedTupleIsFree (.ref z) >>= _) _ _ _
 refine uU ?_;unfold Builtin.SmallTypes.ownedTupleIsFree
 refine uU (wW hz rfl (x :=.none) rfl (vg ?_));simp only[if_true]
 refine uU (xY ?_);refine uU (wW hz rfl (x :=.ref TO) rfl ?_)
 refine uU (x5 hz (by simp) λg1 hz1 s1 =>?_);replace hz1:IsZip g1 z TI TO .ellipsis:=hz1
 refine uU ?_;simp only[AH,Ca,AV,Cp]
 refine uU (uU (AB ?_));show vJ _ _ (Builtin.SmallTypes.nextOf (.ref i1) >>= _) _ _ _
 cases hx:xs[k1]? with
 | none =>
  refine uU (i0 hh (j1.to λo e=>s1.extBut _ _ D.i1z e) (m1.to λo e=>s1.extBut _ _ D.l1z e) hx λg2 e s2 he =>?_)
  obtain ⟨oe,hoe,hce⟩:=he
  have z2:IsZip g2 z TI TO .ellipsis:=s2 _ _ D.i1z.symm hz1
  have hez:e≠z:=λx=>by subst x;rw[z2] at hoe;cases hoe;simp at hce
  refine x5 z2 (by simp) λg3 _ s3=>hE g3 e (λc o c1 _ c3 _ x=>s3.extBut _ _ c1 (s2 _ _ c3 (s1.extBut _ _ c1 x))) ⟨oe,s3.extBut _ _ hez hoe,hce⟩
 | some x =>
  have hy:ys[k2]? = none:=by rcases hend with h | h;rw[hx] at h;cases h;exact h
  refine uU (pP (j1.to λo e=>s1.extBut _ _ D.i1z e) (m1.to λo e=>s1.extBut _ _ D.l1z e) hx λg2 j1' s2=>vg ?_)
  have t2:IsPair g2 TO a b:=s2.extBut _ _ D.TOi1 (s1.extBut _ _ D.TOz hTO)
  refine uU (x6 t2 rfl ?_);refine uU (zI t2 λg3 t3 s3 =>?_)
  refine uU (AD (vg ?_));refine uU (uU (AB ?_))
  show vJ _ _ (Builtin.SmallTypes.nextOf (.ref i2) >>= _) _ _ _;refine uU (i0 hh (((j2.to λo e=>s1.extBut _ _ D.i2z e).to λo e=>s2.extBut _ _ D.i12.symm e).to λo e=>s3.extBut _ _ D.TOi2.symm e) (((m2.to λo e=>s1.extBut _ _ D.l2z e).to λo e=>s2.extBut _ _ D.l2i1 e).to λo e=>s3.extBut _ _ D.l2TO e) hy λg4 e s4 he =>?_)
  obtain ⟨oe,hoe,hce⟩:=he
  have z4:IsZip g4 z TI TO .ellipsis:=s4 _ _ D.i2z.symm (s3.extBut _ _ D.TOz.symm (s2.extBut _ _ D.i1z.symm hz1))
  have hez:e≠z:=λx=>by subst x;rw[z4] at hoe;cases hoe;simp at hce
  refine x5 z4 (by simp) λg5 _ s5=>hE g5 e (λc o c1 c2 c3 c4 x=>s5.extBut _ _ c1 (s4 _ _ c4 (s3.extBut _ _ c2 (s2.extBut _ _ c3 (s1.extBut _ _ c1 x))))) ⟨oe,s5.extBut _ _ hez hoe,hce⟩
theorem kh {c d:Bool}{z TI TO i1 i2 l1 l2:Addr}{k1 k2:Nat}{xs ys:Array uW}{x y a b:uW}{Q:Option uW->uZ->Prop}(D:ZipApart z TI TO i1 i2 l1 l2)
  (hz:IsZip s.heap z TI TO .none) (hTI:IsPair s.heap TI (.ref i1) (.ref i2)) (hTO:IsPair s.heap TO a b)
  (j1:ItB c s.heap i1 l1 k1) (j2:ItB d s.heap i2 l2 k2) (m1:SB' c s.heap l1 xs) (m2:SB' d s.heap l2 ys) (hx:xs[k1]? = some x) (hy:ys[k2]? = some y)
  (hQ:∀h',IsZip h' z TI TO (zX s.heap.objs.size)->IsPair h' TO x y->ItB c h' i1 l1 (k1+1)->ItB d h' i2 l2 (k2+1)->IsPair h' s.heap.objs.size x y->h'.objs.size=s.heap.objs.size+1 →
   (∀c o,c≠z->c≠TO->c≠i1->c≠i2->s.heap.get? c=some o->h'.get? c=some o)->Q (some (.ref s.heap.objs.size)) { s with heap:=h' }):vJ (vK prog w) A (pyNext (.ref z)) Q E s:=by
 have hT:s.TypeIs (.ref z) "zip" :=⟨_,hz,rfl⟩
 unfold pyNext;exact uU (xp (wL (name:=Str.ofString "__next__") hT zU (wG zU hT B0 (nM D hz hTI hTO j1 j2 m1 m2 hx hy λh' a1 a2 a3 a4 a5 a6 a7=>vg (hQ h' a1 a2 a3 a4 a5 a6 a7)) (BF _))))
theorem gi {c d:Bool}{z TI TO i1 i2 l1 l2:Addr}{k1 k2:Nat}{xs ys:Array uW}{a b:uW}{Q:Option uW->uZ->Prop}(hh:A.handled=none)(D:ZipApart z TI TO i1 i2 l1 l2)
  (hz:IsZip s.heap z TI TO .none) (hTI:IsPair s.heap TI (.ref i1) (.ref i2)) (hTO:IsPair s.heap TO a b)
  (j1:ItB c s.heap i1 l1 k1) (j2:ItB d s.heap i2 l2 k2) (m1:SB' c s.heap l1 xs) (m2:SB' d s.heap l2 ys) (hend:xs[k1]? = none\/ys[k2]? = none)
  (hQ:∀h',(∀c o,c≠z->c≠TO->c≠i1->c≠i2->s.heap.get? c=some o->h'.get? c=some o)->Q none { s with heap:=h' }):vJ (vK prog w) A (pyNext (.ref z)) Q E s:=by
 have hT:s.TypeIs (.ref z) "zip" :=⟨_,hz,rfl⟩
 unfold pyNext;refine uU (xp (wL (name:=Str.ofString "__next__") hT zU (wG zU hT B0 (pQ hh D hz hTI hTO j1 j2 m1 m2 hend λh' e hk he =>?_) (BF _))))
 obtain ⟨o,ho,hc⟩:=he
 refine uU (yT (T := "StopIteration") (b:=true) ⟨o,ho,hc⟩ Ba ?_);exact vg (hQ _ hk)
def mq:Bool->String
 | true => "list_iterator"
 | false => "tuple_iterator"
def zB1 (c:Bool)(h:Heap)(l1:Addr):Heap:=h.push { cls :=.type (mq c),data :=.fields #[.ref l1,.int 0 0] }
def zB2 (c d:Bool)(h:Heap)(l1 l2:Addr):Heap:=(zB1 c h l1).push { cls :=.type (mq d),data :=.fields #[.ref l2,.int 0 0] }
def zB3 (c d:Bool)(h:Heap)(l1 l2:Addr):Heap:=(zB2 c d h l1 l2).push { cls :=.type "tuple",data :=.seq #[.ref h.objs.size,.ref (zB1 c h l1).objs.size] }
def zB4 (c d:Bool)(h:Heap)(l1 l2:Addr):Heap:=(zB3 c d h l1 l2).push { cls :=.type "tuple",data :=.seq #[.none,.none] }
def zB5 (c d:Bool)(h:Heap)(l1 l2:Addr):Heap:=(zB4 c d h l1 l2).push { cls :=.type "zip",data :=.fields #[.none,.bool false,.bool false,.ref (zB2 c d h l1 l2).objs.size,.ref (zB3 c d h l1 l2).objs.size] }
theorem rN {c:Bool}{l:Addr}{xs:Array uW}{Q:uW->uZ->Prop}(hl:SB' c s.heap l xs)(q:Q (.ref s.heap.objs.size) { s with heap:=zB1 c s.heap l }):vJ (vK prog w) A (pyIter (.ref l)) Q E s:=by
 cases c
 ·exact Ac hl q
 ·exact zu hl q
theorem pR (c d:Bool)(l1 l2:Addr)(xs ys:Array uW):Meets (Builtin.«zip.__new__» ⟨[.type "zip",.ref l1,.ref l2],[]⟩) (λ_ R s=>SB' c s.heap l1 xs/\SB' d s.heap l2 ys ∧
   R (.ok (.ret (.ref (zB4 c d s.heap l1 l2).objs.size))) { s with heap:=zB5 c d s.heap l1 l2 }) :=
 .of_wp λprog w A R s h=>by
  obtain ⟨hp,g,dr,tk,os⟩:=s;obtain ⟨hl1,hl2,h⟩:=h
  have hsub:=sub_zip
  have m1:SB' c (Shared.heap ⟨hp,g,dr,tk,os⟩) l1 xs:=hl1
  have m2:SB' d (Shared.heap ⟨zB1 c hp l1,g,dr,tk,os⟩) l2 ys:=hl2.to λo e=>uV _ e
  wp_walk using rN m1,rN m2
  exact ⟨_,rfl,h⟩
theorem nN {c d:Bool}{l1 l2:Addr}{xs ys:Array uW}{Q:uW->uZ->Prop}(m1:SB' c s.heap l1 xs)(m2:SB' d s.heap l2 ys)
  (h:∀h',IsZip h' (s.heap.objs.size+4) (s.heap.objs.size+2) (s.heap.objs.size+3) .none->IsPair h' (s.heap.objs.size+2) (.ref s.heap.objs.size) (.ref (s.heap.objs.size+1)) →
   IsPair h' (s.heap.objs.size+3) .none .none->ItB c h' s.heap.objs.size l1 0->ItB d h' (s.heap.objs.size+1) l2 0 →
   (∀c o,s.heap.get? c=some o->h'.get? c=some o)->Q (.ref (s.heap.objs.size+4)) { s with heap:=h' }):vJ (vK prog w) A (call (.type "zip") [.ref l1,.ref l2]) Q E s:=by
 refine A3 F.called_zip (by decide) (F.typeCall_zip_2 _ _) (F.newCall_zip_2 _ _) (λobj=>F.args_object_init_3 obj _ _) F.entry_zip_new (pR c d l1 l2 xs ys) ⟨m1,m2,?_⟩
 have z1:(zB1 c s.heap l1).objs.size=s.heap.objs.size+1:=yM ..
 have z2:(zB2 c d s.heap l1 l2).objs.size=s.heap.objs.size+2:=(yM ..).trans (by rw[z1])
 have z3:(zB3 c d s.heap l1 l2).objs.size=s.heap.objs.size+3:=(yM ..).trans (by rw[z2])
 have z4:(zB4 c d s.heap l1 l2).objs.size=s.heap.objs.size+4:=(yM ..).trans (by rw[z3])
 have g5:(zB5 c d s.heap l1 l2).get? (zB4 c d s.heap l1 l2).objs.size=some { cls :=.type "zip",data :=.fields #[.none,.bool false,.bool false,.ref (zB2 c d s.heap l1 l2).objs.size,.ref (zB3 c d s.heap l1 l2).objs.size] }:=ve _ rfl
 have g4:(zB5 c d s.heap l1 l2).get? (zB3 c d s.heap l1 l2).objs.size=some { cls :=.type "tuple",data :=.seq #[.none,.none] }:=uV _ (ve _ rfl)
 have g3:(zB5 c d s.heap l1 l2).get? (zB2 c d s.heap l1 l2).objs.size=some { cls :=.type "tuple",data :=.seq #[.ref s.heap.objs.size,.ref (zB1 c s.heap l1).objs.size] }:=uV _ (uV _ (ve _ rfl))
 have g2:(zB5 c d s.heap l1 l2).get? (zB1 c s.heap l1).objs.size=some { cls :=.type (mq d),data :=.fields #[.ref l2,.int 0 0] }:=uV _ (uV _ (uV _ (ve _ rfl)))
 have g1:(zB5 c d s.heap l1 l2).get? s.heap.objs.size=some { cls :=.type (mq c),data :=.fields #[.ref l1,.int 0 0] }:=uV _ (uV _ (uV _ (uV _ (ve _ rfl))))
 show _/\_
 rw[z2,z3,z4] at g5
 rw[z1,z2] at g3
 rw[z3] at g4
 rw[z1] at g2
 rw[z4]
 refine ⟨⟨_,g5,rfl⟩,h _ g5 g3 g4 ?_ ?_ λc' o x=>uV _ (uV _ (uV _ (uV _ (uV _ x))))⟩
 ·cases c
  ·exact ⟨_,g1,rfl,rfl⟩
  ·exact ⟨_,g1,rfl,rfl⟩
 ·cases d
  ·exact ⟨_,g2,rfl,rfl⟩
  ·exact ⟨_,g2,rfl,rfl⟩
end
def SqB (K:u6):Bool->Hp->Addr->List V->Prop
 | true,H,a,xs=>SqL K H a xs
 | false,H,a,xs=>SqT K H a xs
theorem SqB.row {X:Cx}{c:Bool}{pins:List (Addr×Obj)}{σ:St}{H:Hp}{s:uZ}(I:Inv X pins σ H s){a:Addr}{xs:List V}(h:SqB X.K c H a xs):∃its:List uW,Vals xs its/\SB' c s.heap a its.toArray:=by
 cases c
 ·obtain ⟨its,r,p,_⟩:=I.tuple (show SqT X.K H a xs from h);exact ⟨its,r,p⟩
 ·obtain ⟨its,r,p,_⟩:=I.list (show SqL X.K H a xs from h);exact ⟨its,r,p.isList⟩
theorem SB'.lt {c:Bool}{h:Heap}{l:Addr}{xs:Array uW}(x:SB' c h l xs):l<h.objs.size:=by
 cases c
 ·obtain ⟨o,e,_⟩:=(show h.IsTuple l xs from x);exact vh e
 ·obtain ⟨o,e,_⟩:=(show h.IsList l xs from x);exact vh e
theorem SqB.inj {X:Cx}{c:Bool}{pins:List (Addr×Obj)}{σ:St}{H:Hp}{s:uZ}(I:Inv X pins σ H s){a:Addr}{xs ys:List V}(h:SqB X.K c H a xs)(g:SqB X.K c H a ys):xs=ys:=by
 cases c
 ·exact I.iG h g
 ·exact I.jP h g
def ItZ (K:u6)(c d:Bool)(a b:Addr):It :=
 ⟨λi H=>∃xs ys u v,SqB K c H a xs/\SqB K d H b ys/\xs[i]? = some u/\ys[i]? = some v,λi H x H'=>∃T u v,H T=none/\x = .ref T/\H'=upd H T (.tup [u,v])/\(∀xs,SqB K c H a xs->xs[i]? = some u)/\∀ys,SqB K d H b ys->ys[i]? = some v,λi H=>∃xs ys,SqB K c H a xs/\SqB K d H b ys/\(xs.length<=i\/ys.length<=i)⟩
theorem nO {P:vI}{w:wc}{K:u6}{elts:List Expr}{k:Nat}{pos:Pos}(c d:Bool)(a b z TI TO i1 i2:Addr)(D:ZipApart z TI TO i1 i2 a b):Turn P w K (.Tuple elts k pos) (ItZ K c d a b) [z,TI,TO,i1,i2] z (λi h=>IsZip h z TI TO .none/\IsPair h TI (.ref i1) (.ref i2)/\(∃x y,IsPair h TO x y)/\ItB c h i1 a i/\ItB d h i2 b i) where
 mem:=by simp
 obj:=λi h ⟨hz,hI,⟨x,y,hO⟩,h1,h2⟩ e he=>by
  have he':e=z\/e=TI\/e=TO\/e=i1\/e=i2:=by simpa using he
  rcases he' with q | q | q | q | q
  ·subst q;exact ⟨_,hz,λv z=>nomatch z⟩
  ·subst q;exact ⟨_,hI,λv z=>nomatch z⟩
  ·subst q;exact ⟨_,hO,λv z=>nomatch z⟩
  ·subst q;exact h1.obj
  ·subst q;exact h2.obj
 keep:=λi h h' ⟨hz,hI,⟨x,y,hO⟩,h1,h2⟩ kp=>⟨kp z (by simp) _ hz,kp TI (by simp) _ hI,⟨x,y,kp TO (by simp) _ hO⟩,h1.to λo e=>kp i1 (by simp) o e,h2.to λo e=>kp i2 (by simp) o e⟩
 item:=λX eP eW eK hcalm i pins s σ H E I f ⟨hz,hI,⟨x,y,hO⟩,h1,h2⟩ go=>by
  subst eP eW eK
  obtain ⟨xs,ys,u,v,ha,hb,hu,hv⟩:=go
  obtain ⟨its,r,pl⟩:=SqB.row I ha
  obtain ⟨jts,r',pl'⟩:=SqB.row I hb
  obtain ⟨u',eu,ru⟩:=r.get hu
  obtain ⟨v',ev,rv⟩:=r'.get hv
  refine kh D hz hI hO h1 h2 pl pl' (x:=u') (y:=v') (by rw[xx];exact eu) (by rw[xx];exact ev) λh' o1 o2 o3 o4 o5 o6 kp =>?_
  refine ⟨_,rfl,?_⟩
  refine wpAny_letOwnedTupleGo_zip o1 λh2' e2 sb =>?_
  have ez:z≠s.heap.objs.size:=vH (vh hz)
  have lt:∀e∈[z,TI,TO,i1,i2],e≠s.heap.objs.size:=λe he=>by
   have he':e=z\/e=TI\/e=TO\/e=i1\/e=i2:=by simpa using he
   rcases he' with q | q | q | q | q
   ·rw[q];exact ez
   ·rw[q];exact vH (vh hI)
   ·rw[q];exact vH (vh hO)
   ·rw[q];exact vH h1.lt
   ·rw[q];exact vH h2.lt
  have kp2:∀e ob,e∉[z,TI,TO,i1,i2]->s.heap.get? e=some ob->h2'.get? e=some ob:=λe ob he eb=>by
   have n1:e≠z:=λq=>he (by simp[q])
   have n2:e≠TO:=λq=>he (by simp[q])
   have n3:e≠i1:=λq=>he (by simp[q])
   have n4:e≠i2:=λq=>he (by simp[q])
   rw[sb.2 e n1];exact kp e ob n1 n2 n3 n4 eb
  have j1:ItB c h2' i1 a (i+1):=o3.to λob eb=>by rw[sb.2 i1 D.i1z];exact eb
  have j2:ItB d h2' i2 b (i+1):=o4.to λob eb=>by rw[sb.2 i2 D.i2z];exact eb
  have jI:IsPair h2' TI (.ref i1) (.ref i2):=by
   show h2'.get? TI=_
   rw[sb.2 TI D.TIz]
   exact kp TI _ D.TIz D.TITO D.TIi1 D.TIi2 hI
  have jO:IsPair h2' TO u' v':=by
   show h2'.get? TO=_
   rw[sb.2 TO D.TOz]
   exact o2
  have tp:h2'.get? s.heap.objs.size=some { cls :=.type "tuple",data :=.seq #[u',v'] }:=by rw[sb.2 _ (xi ez)];exact o5
  refine ⟨.ref s.heap.objs.size,upd H s.heap.objs.size (.tup [u,v]),I.k8 (ch:=[z,TI,TO,i1,i2]) f kp2 (λe he =>?_) (va _) ?_,rfl,⟨s.heap.objs.size,u,v,I.hok.fresh (va _),rfl,rfl,λzs hy =>?_,λzs hy =>?_⟩,⟨e2,jI,⟨_,_,jO⟩,j1,j2⟩,λe he =>?_⟩
  ·have he':e=z\/e=TI\/e=TO\/e=i1\/e=i2:=by simpa using he
   rcases he' with q | q | q | q | q
   ·rw[q];exact ⟨_,e2⟩
   ·rw[q];exact ⟨_,jI⟩
   ·rw[q];exact ⟨_,jO⟩
   ·rw[q];obtain ⟨o,ho,_⟩:=j1.obj;exact ⟨o,ho⟩
   ·rw[q];obtain ⟨o,ho,_⟩:=j2.obj;exact ⟨o,ho⟩
  ·refine ⟨(by show 2<=vm;decide),[u',v'],.cons ru (.cons rv .nil),_,tp,⟨rfl,rfl⟩,_,rfl⟩
  ·rw[SqB.inj I hy ha];exact hu
  ·rw[SqB.inj I hy hb];exact hv
  ·rw[ax (lt e he)];exact (f e he).1
 done:=λX eP eW eK hcalm i pins s σ H E I f ⟨hz,hI,⟨x,y,hO⟩,h1,h2⟩ stop=>by
  subst eP eW eK
  obtain ⟨xs,ys,ha,hb,hl⟩:=stop
  obtain ⟨its,r,pl⟩:=SqB.row I ha
  obtain ⟨jts,r',pl'⟩:=SqB.row I hb
  have l:=r.length
  have l':=r'.length
  refine gi (I.ok.hd hcalm) D hz hI hO h1 h2 pl pl' (hl.imp (λ_=>by rw[xx];exact Aj.mpr (by omega)) (λ_=>by rw[xx];exact Aj.mpr (by omega))) λh' ex=>⟨rfl,?_⟩
  exact I.nL (ch:=[z,TI,TO,i1,i2]) (h':=h') (t':=s.toks) f λe o he eb=>ex e o (λq=>he (by simp[q])) (λq=>he (by simp[q])) (λq=>he (by simp[q])) (λq=>he (by simp[q])) eb
 self:=λA i s Q E ⟨hz,_⟩ q=>wpAny_pyIter_zip hz q
def uJ (K:u6)(c d:Bool)(ta:TA):TI:=λσ H R=>ta σ H λvs H1=>∃a b,vs=[.ref a,.ref b]/\(∃xs,SqB K c H1 a xs)/\(∃ys,SqB K d H1 b ys)/\R (ItZ K c d a b) H1
theorem jw {X:Cx}(c d:Bool){a b:Expr}{ta:TA}{p pos pos':Pos}{elts:List Expr}{k:Nat}(hg:Gl X "zip")(hm:X.mg "zip" = none)(ha:PA X [a,b] ta)(hs:wC [a,b] X.env=[(false,eval a X.env),(false,eval b X.env)]:=by rfl)(hs2:wC [b] X.env=[(false,eval b X.env)]:=by rfl) :
  PI X (.Tuple elts k pos') (.Call (.Name "zip" p) [a,b] [] pos) (uJ X.K c d ta):=by
 intro pins s σ H R I h
 refine Call_ (cY I hg hm boot_zip (xj (thn (ha pos pins s σ H _ I h) λus s1 ⟨vs,H1,I1,r1,q1⟩ =>?_) (by rw[hs,hs2]) (by rw[hs2];rfl)))
 obtain ⟨l1,l2,e,⟨xs,hx⟩,⟨ys,hy⟩,q⟩:=q1
 subst e
 cases r1 with
 | cons r rr =>
  cases rr with
  | cons r' rr =>
   cases rr
   cases r
   cases r'
   have fp:∀b∈[s1.heap.objs.size+4,s1.heap.objs.size+2,s1.heap.objs.size+3,s1.heap.objs.size,s1.heap.objs.size+1],fJ X pins H1 b:=λb hb=>by
    have ge:s1.heap.objs.size<=b:=by
     simp at hb
     omega
    exact I1.oK ge (I1.hok.fresh ge)
   obtain ⟨its,rv,pl⟩:=SqB.row I1 hx
   obtain ⟨jts,rv',pl'⟩:=SqB.row I1 hy
   have D:=tF _ _ _ pl.lt pl'.lt
   refine nN pl pl' λh' hz hI hO h1 h2 kp =>?_
   have T:=nO (P:=X.prog) (w:=X.w) (K:=X.K) (elts:=elts) (k:=k) (pos:=pos') c d l1 l2 _ _ _ _ _ D
   refine T.self _ 0 _ _ _ ⟨hz,hI,⟨_,_,hO⟩,h1,h2⟩ ?_
   exact ⟨_,_,_,_,H1,rfl,I1.kept (t':=s1.toks) kp,T,⟨hz,hI,⟨_,_,hO⟩,h1,h2⟩,fp,q⟩
theorem ki {K:u6}{c d:Bool}{a b:Addr}{xs ys:List V}{g:TG}{tb:TS}{D:Ends}{σ:St}{H:Hp}(n:Nat)(n1:n<=xs.length)(n2:n<=ys.length)(n3:n=xs.length\/n=ys.length)(Pv:Nat->St->Hp->Prop)(h0:Pv 0 σ H)(hl:∀i σ H,i<=n->Pv i σ H->SqB K c H a xs/\SqB K d H b ys)
  (hs:∀i x y σ H T,xs[i]? = some x->ys[i]? = some y->H T=none->Pv i σ H->g (.ref T) σ (upd H T (.tup [x,y])) λσ2 H2=>tb { D with nx:=Pv (i+1),ct:=Pv (i+1),bk:=D.nx } σ2 H2) (hd:∀σ H,Pv n σ H->D.nx σ H):ForW (ItZ K c d a b) g tb D σ H:=by
 refine ⟨λi m σ H=>m=n-i/\i<=n/\Pv i σ H,⟨n,by simp,vY _,h0⟩,?_⟩
 rintro i m σ H ⟨rfl,hi,p⟩
 obtain ⟨q1,q2⟩:=hl i σ H hi p
 by_cases hlt:i<n
 ·refine .inr ⟨⟨xs,ys,xs[i]'(by omega),ys[i]'(by omega),q1,q2,by simp[show i<xs.length by omega],by simp[show i<ys.length by omega]⟩,Pv (i+1),λσ' H' p'=>⟨n-(i+1),by omega,rfl,hlt,p'⟩,λx H' y =>?_⟩
  obtain ⟨T,u,v,hT,ex,eH,hu,hv⟩:=y
  subst ex eH
  exact hs i u v σ H T (hu xs q1) (hv ys q2) hT p
 ·have e:i=n:=by omega
  subst e
  exact .inl ⟨⟨xs,ys,q1,q2,n3.elim (λz =>.inl (by omega)) (λz =>.inr (by omega))⟩,hd σ H p⟩
theorem uK {K:u6}{c d:Bool}{a b:Addr}{xs ys:List V}{k l:Nat}{tc:TT}{te:TE}{τ:St}{H:Hp}{Q:VK}(n:Nat)(n1:n<=xs.length)(n2:n<=ys.length)(n3:n=xs.length\/n=ys.length)(Pv:Nat->List V->Hp->Prop)(hkl:k≠l)(h0:Pv 0 [] H)(hz:n<=vm)
  (hl:∀i zs H,i<=n->Pv i zs H->SqB K c H a xs/\SqB K d H b ys)
  (hs:∀i x y zs H T,xs[i]? = some x->ys[i]? = some y->zs.length<=i->H T=none->Pv i zs H->rH k l tc te τ Pv i x y zs (upd H T (.tup [x,y])))
  (hd:∀zs H,zs.length<=n->Pv n zs H->∀r,H r=none->Q (.ref r) (upd H r (.lst zs))):f6 (ItZ K c d a b) (o7 K k l) tc te τ Q H:=by
 refine ⟨λi m σ zs H=>m=n-i/\i<=n/\(∀a b,(σ.set k (some a)).set l (some b)=(τ.set k (some a)).set l (some b))/\zs.length<=i/\Pv i zs H,⟨n,by simp,vY _,λ_ _=>rfl,va _,h0⟩,?_⟩
 rintro i m σ zs H ⟨rfl,hi,hτ,hy,pv⟩
 obtain ⟨q1,q2⟩:=hl i zs H hi pv
 by_cases hlt:i<n
 ·refine .inr ⟨⟨xs,ys,xs[i]'(by omega),ys[i]'(by omega),q1,q2,by simp[show i<xs.length by omega],by simp[show i<ys.length by omega]⟩,λx H' y =>?_⟩
  obtain ⟨T,u,v,hT,ex,eH,hu,hv⟩:=y
  subst ex eH
  refine ⟨T,_,rfl,SqT.of af,rfl,_,_,rfl,_,_,rfl,rfl,?_⟩
  rw[hτ]
  have hσ:∀a b,((((τ.set k (some u)).set l (some v)).set k (some a)).set l (some b))=(τ.set k (some a)).set l (some b):=λa b=>by
   rw[CA _ _ (xi hkl),yY,yY]
  refine hs i u v zs _ T (hu xs q1) (hv ys q2) hy hT pv _ _ (λy4 H4 p4=>⟨by omega,n-(i+1),by omega,rfl,hlt,hσ,by rw[u9,wx];omega,p4⟩) λH3 p3=>⟨n-(i+1),by omega,rfl,hlt,hσ,by omega,p3⟩
 ·have e:i=n:=by omega
  subst e
  exact .inl ⟨⟨xs,ys,q1,q2,n3.elim (λz =>.inl (by omega)) (λz =>.inr (by omega))⟩,by omega,hd zs H hy pv⟩
open PySem PySem.Spec PyProof.Rows
section
variable  {X:Cx}
theorem i3 (hc:X.calm=true):bY X (.builtin "min") (λxs H Q=>∃(a:Addr) (ns:List Int),xs=[.ref a]/\SqL X.K H a (ns.map V.int)/\ns≠[]/\∀M:Int,M∈ns->(∀b∈ns,M<=b)->Q (.int M) H):=by
 intro pins s σ H xs us Q I r h
 obtain ⟨a,ns,rfl,hS,hne,q⟩:=h
 obtain ⟨u,rfl,ru⟩:=vals1 r
 cases (show u=vq a from ru)
 obtain ⟨its,r1,p1,_⟩:=I.list hS
 obtain ⟨ps,e2,e3⟩:=dB (intsAre_of r1)
 have ei:its.toArray=B4 ps.toArray:=by rw[e2];simp[B4]
 have hl:s.heap.IsList a (B4 ps.toArray):=by rw[<- ei];exact p1.isList
 have hz:ps.toArray.size=ns.length:=by rw[u0, <- e3,uT]
 have hp:0<ns.length:=zV.mpr hne
 have ht:ps.toArray.toList.map (·.1)=ns:=e3
 refine min_intList (I.ok.hd hc) hl (by omega) λv h' tk hv k =>?_
 rw[hz] at hv
 obtain ⟨t,rfl⟩:=intItems_at hv
 obtain ⟨h1,h2⟩:=argBest_lt (numAt ps.toArray) (ns.length-1)
 refine ⟨.int _,H,I.kept k,⟨_,rfl⟩,q _ ?_ λb hb =>?_⟩
 ·rw[CG,ht];exact tw (by omega)
 ·obtain ⟨j,hj,rfl⟩:=tE hb
  have:=h2 j (by omega)
  rw[CG,CG,ht] at this
  rw[CG,ht]
  exact this
end
end L2
namespace L2.RvT
open PySem PyProof.Rows
open Sem (wp)
theorem fN:Manifest.owners.lookup (String.ofList ['d', 'e', 's', 'r', 'e', 'v', 'e', 'r'].reverse)=some Manifest.sig_reversed:=by kernel_rfl
theorem slot_next:Slot "reversed" "__next__" "reversed.__next__" :=
 .of (owner := "reversed") (n := "__next__") (by rw[yE,xB];kernel_rfl) (by decide +kernel) (by decide +kernel) (by decide +kernel)
  (by first | exact .inl (by decide +kernel) | exact .inr (by decide +kernel)) (by rw[yQ];kernel_rfl)
theorem entry_next:entryFor table "reversed.__next__" = some Builtin.«reversed.__next__» := entryFor_of_tree (by kernel_rfl)
theorem args_next (a:uW):argsOk "reversed.__next__" ⟨[a],[]⟩:=by
 unfold argsOk;rw[Bw (id := "reversed.__next__") (n:=['_', '_', 't', 'x', 'e', 'n', '_', '_']) (o:=['d', 'e', 's', 'r', 'e', 'v', 'e', 'r']) (by kernel_rfl) fN];kernel_rfl
theorem i4:Slot "reversed" "__iter__" "reversed.__iter__" :=
 .of (owner := "reversed") (n := "__iter__") (by rw[yE,xB];kernel_rfl) (by decide +kernel) (by decide +kernel) (by decide +kernel)
  (by first | exact .inl (by decide +kernel) | exact .inr (by decide +kernel)) (by rw[yQ];kernel_rfl)
theorem nP (a:uW):argsOk "reversed.__iter__" ⟨[a],[]⟩:=by
 unfold argsOk;rw[Bw (id := "reversed.__iter__") (n:=['_', '_', 'r', 'e', 't', 'i', '_', '_']) (o:=['d', 'e', 's', 'r', 'e', 'v', 'e', 'r']) (by kernel_rfl) fN];kernel_rfl
theorem lD:entryFor table "reversed.__iter__" = some Builtin.«dict_keyiterator.__iter__» :=
 entryFor_alias (id' := "dict_keyiterator.__iter__") (by kernel_rfl) (by first | rfl | decide +kernel | (unfold String.splitOn;simp +decide [String.splitOnAux])) (by decide +kernel) (by kernel_rfl)
theorem tH:typeLookup (.type "tuple") "__reversed__" = pure none:=by rw[yE,xB];kernel_rfl
theorem tJ:typeLookup (.type "reversed") "__len__" = pure none:=by rw[yE,xB];kernel_rfl
theorem kj:typeLookup (.type "reversed") "__length_hint__" = pure (some (.builtin "reversed.__length_hint__")):=by rw[yE,xB];kernel_rfl
theorem sub_self:isSubtype (.type "reversed") (.type "reversed")=pure true:=by rw[yQ];kernel_rfl
theorem pS:isSubtype (.type "tuple") (.type "dict")=pure false:=by rw[yQ];kernel_rfl
theorem nQ:Slot "reversed" "__init__" "object.__init__" :=
 .of (owner := "object") (n := "__init__") (by rw[yE,xB];kernel_rfl) (by decide +kernel) (by decide +kernel) (by decide +kernel)
  (by first | exact .inl (by decide +kernel) | exact .inr (by decide +kernel)) (by rw[yQ];kernel_rfl)
theorem called:TypeCalled "reversed" "reversed.__new__" "object.__init__" :=
 ⟨by decide +kernel,by decide +kernel,⟨_,_,A7⟩,madeBy_type A7 PySem.F.lookup_reversed_new (by decide +kernel),by decide +kernel,by rw[yQ];kernel_rfl,nQ⟩
def rvO (t:Addr)(i:Int):Obj:={ cls :=.type "reversed",data :=.fields #[.ref t,zX i] }
def eg (h:Heap)(a t:Addr)(i:Int):Prop:=∃o,h.get? a=some o/\o.cls = .type "reversed" /\ o.data = .fields #[.ref t,zX i]
section
variable  {prog:vI}{w:wc}{A:v7}{E:uW->uZ->Prop}{s:uZ}
theorem eg.typeIs {a t:Addr}{i:Int}(x:eg s.heap a t i):s.TypeIs (.ref a) "reversed" := let ⟨o,ho,hc,_⟩:=x;⟨o,ho,hc⟩
theorem eg.at {h h':Heap}{a t:Addr}{i:Int}(x:eg h a t i)(e:∀o,h.get? a=some o->h'.get? a=some o):eg h' a t i:=let ⟨o,ho,r⟩:=x;⟨o,e _ ho,r⟩
theorem kn {h h':Heap}{a:Addr}{its:Array uW}(x:IsTup h a its)(e:∀o,h.get? a=some o->h'.get? a=some o):IsTup h' a its:=let ⟨o,ho,r⟩:=x;⟨o,e _ ho,r⟩
theorem nR (t:Addr)(its:Array uW)(hz:(its.size:Int)<2 ^ 63) :
  Meets (Builtin.«reversed.__new__» ⟨[.type "reversed",.ref t],[]⟩) (λ_ R s=>IsTup s.heap t its/\R (.ok (.ret (.ref s.heap.objs.size))) { s with heap:=s.heap.push (rvO t ((its.size:Int)-1)),toks:=s.toks+1+1 }) :=
 .of_wp λprog w A R s h=>by
  obtain ⟨ht,h⟩:=h
  unfold Builtin.«reversed.__new__»
  refine uU (x8 (newClass_reversed _) ?_)
  try dsimp only
  refine uU (x8 (a:=()) (by first | rfl | kernel_rfl) ?_)
  refine uU (x8 (a:=()) (by first | rfl | kernel_rfl) ?_)
  try dsimp only
  refine uU (yD ht.typeIs tH ?_)
  try dsimp only
  refine uU ?_
  show vJ _ _ (isInstance (.ref t) (.type "dict") >>= _) _ _ s
  refine uU (yT (T := "tuple") (b:=false) ht.typeIs pS ?_)
  refine wB (λhab=>absurd hab (by decide)) (λ_ =>?_)
  refine uU (yD ht.typeIs zq.lookup ?_)
  refine wB (λ_=>vg ?_) (λhab=>absurd (by decide +kernel) hab)
  refine wB (λhab=>absurd hab (by decide)) (λ_ =>?_)
  refine uU (Cd ht hz ?_)
  refine uU (x8 (a:=some (its.size:Int)) rfl ?_)
  refine uU ?_
  show vJ _ _ (newObj (.type "reversed") (.fields #[.ref t,zX ((its.size:Int)-1)])) _ _ _
  exact wU (vg ⟨_,rfl,h⟩)
theorem pT {t:Addr}{its:Array uW}{Q:uW->uZ->Prop}(ht:IsTup s.heap t its)(hz:(its.size:Int)<2 ^ 63)
  (h:Q (.ref s.heap.objs.size) { s with heap:=s.heap.push (rvO t ((its.size:Int)-1)),toks:=s.toks+1+1 }):vJ (vK prog w) A (call (.type "reversed") [.ref t]) Q E s:=by
 refine A3 called (by decide) (PySem.F.typeCall_reversed_1 _) (PySem.F.newCall_reversed_1 _) (λobj=>yI obj _) PySem.F.entry_reversed_new (nR t its hz) ⟨ht,?_⟩
 exact ⟨⟨_,ve _ rfl,rfl⟩,h⟩
theorem next_item {I t:Addr}{i:Nat}{its:Array uW}{x:uW}{Q:Option uW->uZ->Prop}(hit:eg s.heap I t (i:Int))(ht:IsTup s.heap t its)(hx:its[i]? = some x)(hi:(i:Int)<2 ^ 63)
  (hQ:∀h' tk,eg h' I t ((i:Int)-1)->Heap.SameBut I s.heap h'->Q (some x) { s with heap:=h',toks:=tk }):vJ (vK prog w) A (pyNext (.ref I)) Q E s:=by
 obtain ⟨o,ho,hc,hd⟩:=id hit
 unfold pyNext
 refine uU (xp (wL (name:=Str.ofString "__next__") hit.typeIs slot_next (wG slot_next hit.typeIs entry_next ?_ (args_next _))))
 unfold Builtin.«reversed.__next__»
 refine uU (x8 (a:=(vq I,[])) rfl ?_)
 try dsimp only
 refine uU (wW ho hd (x :=.ref t) rfl ?_)
 refine uU (wW ho hd (x:=zX (i:Int)) rfl ?_)
 show vJ _ _ (if (i:Int)<0 then _ else _) _ _ s
 rw[if_neg (by omega)]
 show vJ _ _ (specialOf (.ref t) "__getitem__" >>= _) _ _ s
 refine uU (yD ht.typeIs zq.lookup ?_)
 refine wB (λhab=>absurd hab (by decide)) (λ_ =>?_)
 refine uU (wpAny_mkInt ?_)
 refine uU (xp ?_)
 refine PyProof.Rows.getItem_tuple (j:=i) ht (by omega) hi (Bf (by omega) (by have:=(wZ.mp hx).1;omega)) hx ?_
 refine uU (wW ho hd (x:=zX (i:Int)) rfl ?_)
 show vJ _ _ (setField (.ref I) 1 (zX ((i:Int)-1)) >>= λ_=>ret x) _ _ _
 refine uU (zw ho hd (by simp) ?_)
 refine vg ⟨x,rfl,vg (hQ _ _ ?_ (zS ..))⟩
 exact ⟨_,vW _ ho (zy (xZ hd _)),(BB ..).trans hc,by rw[xZ hd];simp⟩
theorem next_end {I t:Addr}{Q:Option uW->uZ->Prop}(hh:A.handled=none)(hit:eg s.heap I t (-1))
  (hQ:∀h',Heap.ExtBut I s.heap h'->Q none { s with heap:=h' }):vJ (vK prog w) A (pyNext (.ref I)) Q E s:=by
 obtain ⟨o,ho,hc,hd⟩:=id hit
 unfold pyNext
 refine uU (xp (wL (name:=Str.ofString "__next__") hit.typeIs slot_next (wG slot_next hit.typeIs entry_next ?_ (args_next _))))
 unfold Builtin.«reversed.__next__»
 refine uU (x8 (a:=(vq I,[])) rfl ?_)
 try dsimp only
 refine uU (wW ho hd (x :=.ref t) rfl ?_)
 refine uU (wW ho hd (x:=zX (-1)) rfl ?_)
 show vJ _ _ (if (-1:Int)<0 then _ else _) _ _ s
 rw[if_pos (by decide)]
 refine uU (xY ?_)
 refine uU ?_
 show vJ _ _ (setField (.ref I) 1 (zX (-1)) >>= λ_=>setField (.ref I) 0 .none) _ _ s
 refine uU (zw ho hd (by simp) ?_)
 have h1:=vW (Obj.mapFields λfs=>fs.setIfInBounds 1 (zX (-1))) ho (zy (xZ hd _))
 refine zw h1 (xZ hd _) (by simp) ?_
 refine uU ?_
 show vJ _ _ (newExc (.type "StopIteration") [] >>= _) _ _ _
 refine uU ?_
 simp only[newExc,newTuple]
 refine uU (wU ?_ (by size_fits))
 refine uU (m:=firstArgMember _ _) (x8 (a:=xq) (by first | rfl | (simp only[firstArgMember];rfl)) ?_)
 refine wU ?_ (by size_fits)
 simp only[raiseNew]
 refine uU (wpAny_handled ?_)
 first | rw[show A.in1.handled=none from hh] | rw[hh]
 refine uU (vg (wpAny_throw ?_))
 refine uU (yT (T := "StopIteration") (b:=true) ⟨_,ve _ rfl,rfl⟩ Ba ?_)
 refine vg (hQ _ ?_)
 refine B1 (B1 (λb o hb eo =>?_) _) _
 exact (vX _ _ (xi hb)).trans ((vX _ _ (xi hb)).trans eo)
theorem mw {I t:Addr}{i:Int}{Q:uW->uZ->Prop}(hit:eg s.heap I t i)(h:Q (.ref I) s):vJ (vK prog w) A (pyIter (.ref I)) Q E s:=by
 refine BK hit.typeIs i4 (wG i4 hit.typeIs lD ?_ (nP _))
 show vJ _ _ (ret (.ref I)) _ _ s
 exact vg ⟨_,rfl, "reversed",_,hit.typeIs,slot_next.lookup,h⟩
theorem i5:Slot "reversed" "__length_hint__" "reversed.__length_hint__" :=
 .of (owner := "reversed") (n := "__length_hint__") kj (by decide +kernel) (by decide +kernel) (by decide +kernel)
  (by first | exact .inl (by decide +kernel) | exact .inr (by decide +kernel)) sub_self
theorem lE:entryFor table "reversed.__length_hint__" = some Builtin.«reversed.__length_hint__» := entryFor_of_tree (by kernel_rfl)
theorem nU (a:uW):argsOk "reversed.__length_hint__" ⟨[a],[]⟩:=by
 unfold argsOk;rw[Bw (id := "reversed.__length_hint__") (n:=['_', '_', 't', 'n', 'i', 'h', '_', 'h', 't', 'g', 'n', 'e', 'l', '_', '_']) (o:=['d', 'e', 's', 'r', 'e', 'v', 'e', 'r']) (by kernel_rfl) fN];kernel_rfl
theorem nV {I t:Addr}{its:Array uW}{Q:uW->uZ->Prop}(hit:eg s.heap I t ((its.size:Int)-1))(ht:IsTup s.heap t its)(hz:(its.size:Int)<2 ^ 63)
  (h:∀u tk,Q (.int its.size u) { s with toks:=tk }):vJ (vK prog w) A (call (.builtin "reversed.__length_hint__") [.ref I]) Q E s:=by
 obtain ⟨o,ho,hc,hd⟩:=id hit
 refine wG i5 hit.typeIs lE ?_ (nU _)
 unfold Builtin.«reversed.__length_hint__»
 refine uU (x8 (a:=vq I) rfl ?_)
 refine uU (wW ho hd (x :=.ref t) rfl ?_)
 refine wB (λhab=>absurd hab (show ¬ (false=true) from vp)) (λ_ =>?_)
 refine uU (Cd ht hz ?_)
 refine uU (x8 (a:=some (its.size:Int)) rfl ?_)
 refine uU (wW ho hd (x:=zX ((its.size:Int)-1)) rfl ?_)
 show vJ _ _ (if (its.size:Int)<((its.size:Int)-1)+1 then _ else retInt (((its.size:Int)-1)+1)) _ _ _
 rw[if_neg (by omega),show ((its.size:Int)-1)+1=its.size by omega]
 exact uU (wpAny_mkInt (vg ⟨_,rfl,h _ _⟩))
theorem q8 {I t:Addr}{its:Array uW}{Q:Bool->uZ->Prop}(hit:eg s.heap I t ((its.size:Int)-1))(ht:IsTup s.heap t its)(hz:its.size<=2 ^ 24)(h:∀b tk,Q b { s with toks:=tk }):vJ (vK prog w) A (zY (.ref I)) Q E s:=by
 unfold zY
 refine uU (yD hit.typeIs tJ ?_)
 wp_delta
 refine uU (yD hit.typeIs kj ?_)
 generalize hid:("reversed.__length_hint__" : String)=id0
 wp_delta
 rw[show splitId id0=some ("reversed", "__length_hint__") from by subst hid;decide +kernel]
 subst hid
 refine uU (yT (T := "reversed") (b:=true) hit.typeIs sub_self ?_)
 refine wB (λhab=>absurd hab (by decide)) (λ_ =>?_)
 refine wB (λhab=>absurd hab (by decide +kernel)) (λ_ =>?_)
 refine uU (xY ?_)
 refine uU (x8 (i5.bind _) ?_)
 refine uU (xp (nV hit ht (by omega) λu tk =>?_))
 show vJ _ A (asInt? (.int (its.size:Int) u) >>= _) Q E _
 have ea:asInt? (xC (its.size:Int) u)=pure (some (its.size:Int)):=rfl
 rw[ea,pure_bind]
 generalize hn:(its.size:Int)=n
 dsimp only
 refine wB (λhab=>absurd hab ?_) (λ_ =>?_)
 ·unfold Builtin.List.listFitsIndex;simp;omega
 refine wB (λhab=>absurd hab (by omega)) (λ_ =>?_)
 refine wB (λhab=>absurd hab ?_) (λ_ =>?_)
 ·rw[L2.jU (by rw[Be];omega)];exact vp
 exact vg (h _ _)
end
theorem walk {prog:vI}{w:wc}{A:v7}(hh:A.handled=none)(I t:Addr)(hne:t≠I)(its:Array uW)(hz:(its.size:Int)<2 ^ 63) :
  Walks prog w A I [I,t] [I] its.size (λi v=>its[its.size-1-i]? = some v) (λi h=>i<=its.size/\eg h I t ((its.size:Int)-1-(i:Int))/\IsTup h t its) where
 sub:=λb hb=>by simp at hb;simp[hb]
 frame:=λ_ _ _ x hk=>⟨x.1,x.2.1.at λo e=>hk I (by simp) o e,kn x.2.2 λo e=>hk t (by simp) o e⟩
 item:=λi s Q E hi x hQ=>by
  have e:(its.size:Int)-1-(i:Int)=((its.size-1-i:Nat):Int):=by omega
  have hit:=x.2.1
  rw[e] at hit
  have hx:its[its.size-1-i]? = some (its[its.size-1-i]'(by omega)):=yO (by omega)
  refine next_item hit x.2.2 hx (by omega) λh' tk hit' hs' =>?_
  have e2:((its.size-1-i:Nat):Int)-1=(its.size:Int)-1-((i+1:Nat):Int):=by omega
  rw[e2] at hit'
  exact hQ _ h' tk hx ⟨hi,hit',kn x.2.2 λo eo=>(hs'.2 t hne).trans eo⟩ λb o hb eo=>hs'.extBut b o (λh=>hb (by simp[h])) eo
 done:=λs Q E x hQ=>by
  have e:(its.size:Int)-1-(its.size:Int) = -1:=by omega
  have hit:=x.2.1
  rw[e] at hit
  exact next_end hh hit λh' he'=>hQ h' s.toks λb o hb eo=>he' b o (λh=>hb (by simp[h])) eo
 self:=λ_ _ _ _ x hQ=>mw x.2.1 hQ
section
variable  {prog:vI}{w:wc}{A:v7}{E:uW->uZ->Prop}{s:uZ}
theorem nW {R:Result->uZ->Prop}{I t:Addr}{items:Array uW}(hh:A.handled=none)(hit:eg s.heap I t ((items.size:Int)-1))(hl:IsTup s.heap t items)(hne:t≠I)(hlen:items.size<=2 ^ 24)
  (S:Addr) (hSI:S≠I) (hSl:S≠t) (res:uW) (c₀:Nat) (hS:s.heap.get? S=some { cls :=.type "list",data :=.seq #[] c₀ })
  (hR:∀h' tk acc' c',(∀b o,b≠S->b≠I->s.heap.get? b=some o->h'.get? b=some o)->h'.get? S=some { cls :=.type "list",dict:=none,data :=.seq acc' c',slots := #[] } →
   ItemsOf (λi v=>items[items.size-1-i]? = some v) acc' items.size->R (.ok (.ret res)) { s with heap:=h',toks:=tk }) :
  vJ (vK prog w) A.in1 (wm (.ref S) (.ref I) res)
   (λfin s'=>match fin with | .done f=>R (.ok f) s' | .again c'=>c'.quiet=true/\AE (vK prog w) A c' R s') (λe s'=>R (.error e) s') s:=by
 have hSf:S∉[I,t]:=λhm=>by
  rcases vM.mp hm with e | hm
  ·exact hSI e
  ·exact hSl (vA.mp hm)
 have W:=(walk (prog:=prog) (w:=w) (A:=A.in1) hh I t hne items (by omega)).toS
 unfold wm
 refine uU (zB (T := "reversed") hit.typeIs ?_)
 have h1:yl (.ref S) (.ref I)=false:=by simp[yl,hSI]
 have h2:(yr "reversed" == yr "list")=false:=by decide +kernel
 have h3:(yr "reversed" == yr "tuple")=false:=by decide +kernel
 simp only[h1,h2,h3,Bool.or_false,w6,if_false]
 refine uU (mw hit ?_)
 refine uU (xK (q8 hit hl hlen λb tk =>?_))
 refine wB (λ_ =>?_) (λ_=>vg ⟨yG xg _,?_⟩)
 ·refine uU (xY ?_)
  refine uU ?_
  show vJ _ A.in1 (updateSeq S (·.push .none) >>= λ_=>updateSeq S (·.pop)) _ _ _
  refine uU (wpAny_updateSeq hS rfl ?_)
  have hS₂:=vW (vV (·.push xq)) hS rfl
  refine wpAny_updateSeq (hz:=by seq_fits) hS₂ rfl ?_
  have hS₃:=vW (vV (·.pop)) hS₂ rfl
  have oth:∀b o,b≠S->s.heap.get? b=some o->((s.heap.update S (vV (·.push xq))).update S (vV (·.pop))).get? b=some o :=
   λb o hb e=>(vX _ _ (xi hb)).trans ((vX _ _ (xi hb)).trans e)
  refine vg ⟨yG xg _,A8 W (by rw[Be];omega) S hSf res items.size 0 _ _ _ rfl (vY _) ⟨vY _,by simpa using hit.at λo e=>oth I o (xi hSI) e,kn hl λo e=>oth t o (xi hSl) e⟩ hS₃ (CL _) λs' acc' c' hm hS' hacc =>?_⟩
  rw[CD hm]
  refine hR s'.heap s'.toks acc' c' (λb o hb hbI e=>hm.heap b o (λhmem =>?_) (oth b o hb e)) hS' hacc
  rcases vM.mp hmem with e' | hmem
  ·exact hb e'
  ·exact hbI (vA.mp hmem)
 refine A8 W (by rw[Be];omega) S hSf res items.size 0 _ #[] c₀ rfl (vY _) ⟨vY _,by simpa using hit,hl⟩ hS (CL _) λs' acc' c' hm hS' hacc =>?_
 rw[CD hm]
 refine hR s'.heap s'.toks acc' c' (λb o hb hbI e=>hm.heap b o (λhmem =>?_) e) hS' hacc
 rcases vM.mp hmem with e' | hmem
 ·exact hb e'
 ·exact hbI (vA.mp hmem)
theorem lF {R:List uW->uZ->Prop}{I t:Addr}{items:Array uW}(hh:A.handled=none)(hit:eg s.heap I t ((items.size:Int)-1))(hl:IsTup s.heap t items)(hne:t≠I)(hlen:items.size<=2 ^ 24)
    (h:∀(h1:Heap) (tk:Nat) (vs:List uW),vs=items.toList.reverse->(∀b o,b≠I->s.heap.get? b=some o->h1.get? b=some o)->R vs { s with heap:=h1,toks:=tk }) :
    vJ (vK prog w) A (collect (.ref I)) R E s:=by
  obtain ⟨oi,hoi,_⟩:=id hit
  obtain ⟨ol,hol,_⟩:=id hl
  unfold collect
  refine uU (Am (xo yz ?_))
  rw[w5 yA _]
  show vJ _ A.in1 (newList [] >>= λl=>again (.builtin "list.__iadd__" ⟨[l,.ref I],[]⟩)) _ _ s
  refine uU (wU ?_)
  refine vg ⟨yG xn _,xo zd ?_⟩
  rw[w5 xn _]
  show vJ _ A.in1 (wm (.ref s.heap.objs.size) (.ref I) (.ref s.heap.objs.size)) _ _ { s with heap:=s.heap.push { cls :=.type "list",data :=.seq ([]:List uW).toArray } }
  have hS0:(s.heap.push { cls :=.type "list",data :=.seq ([]:List uW).toArray }).get? s.heap.objs.size=some { cls :=.type "list",data :=.seq #[] 0 }:=ve _ rfl
  refine nW (A:=A) (R:=λres s'=>match res with
      | .ok (.ret v)=>vJ (vK prog w) A (match v with | .ref a=>(do match (← load a).data with | .seq xs _=>pure xs.toList | _=>unsupported "internal:collect") | _=>unsupported "internal:collect") R E s'
      | .ok _=>False
      | .error e=>E e s') (s:={ s with heap:=s.heap.push { cls :=.type "list",data :=.seq ([]:List uW).toArray } }) hh (hit.at λo e=>uV _ e) (kn hl λo e=>uV _ e) hne hlen s.heap.objs.size (xi (vH (vh hoi))) (xi (vH (vh hol))) (.ref s.heap.objs.size) 0 hS0 λh' tk acc' c' kk hS' it =>?_
  show vJ _ A (load s.heap.objs.size >>= _) _ _ { s with heap:=h',toks:=tk }
  refine uU (A4 hS' ?_)
  refine vg (h h' tk acc'.toList ?_ λb o hb e=>kk b o (vH (vh e)) hb (uV _ e))
  refine zp λj =>?_
  rw[vv]
  have h1:acc'.size=items.toList.length:=it.1
  by_cases hj:j<items.toList.length
  · obtain ⟨v,hv⟩:∃v,acc'[j]? = some v:=⟨acc'[j]'(by omega),yO _⟩
    have:=it.2 j v hv
    dsimp only at this
    rw[<- vv] at this
    rw[hv,List.getElem?_reverse hj, <- this]
    rfl
  · rw[AR (by omega),x3 (by rw[yW];omega)]
theorem gj (I t:Addr)(items:Array uW)(hne:t≠I)(hn:items.size<=1000) :
  Meets (Builtin.«tuple.__new__» ⟨[.type "tuple",.ref I],[]⟩)
   (λA R s=>A.handled=none/\eg s.heap I t ((items.size:Int)-1)/\IsTup s.heap t items/\∀(h':Heap) (tk:Nat),(∀b o',b≠I->s.heap.get? b=some o'->h'.get? b=some o')->R (.ok (.ret (.ref h'.objs.size))) { s with heap:=h'.push { cls :=.type "tuple",data :=.seq items.toList.reverse.toArray },toks:=tk }) :=
 .of_wp λprog w A R s h=>by
  obtain ⟨hp,g,d,tk,os⟩:=s;obtain ⟨hh,hr,ht,h⟩:=h
  have hsub:=sub_tuple_self
  have hinit:=BJ
  have hmh:=madeHere_tuple
  have hT:Shared.TypeIs ⟨hp,g,d,tk,os⟩ (.ref I) "reversed" := eg.typeIs (s:=⟨hp,g,d,tk,os⟩) hr
  wp_walk using zB hT,lF (by simpa using hh) hr ht hne (by omega)
  rintro h' tk' vs rfl hk
  show vJ _ _ (Builtin.Tuple.tupleExact items.toList.reverse.toArray >>= λv=>ret v) _ _ _
  unfold Builtin.Tuple.tupleExact
  refine uU (wU ?_ (by show items.toList.reverse.toArray.size<=vm;rw[u0,yW,vo];exact small hn))
  exact vg ⟨_,rfl,h h' tk' hk⟩
end
end L2.RvT
namespace L2
open PySem PySem.Spec PyProof.Rows
section
variable  {X:Cx}
theorem nX:we "tuple" = some (.type "tuple"):=by decide +kernel
def q9 (K:u6)(te:TE):TE:=λσ H Q=>te σ H λx H1=>∃l xs,x = .ref l/\SqT K H1 l xs/\xs.length<=1000/\∀p,H1 p=none->Q (.ref p) (upd H1 p (.tup xs.reverse))
theorem nY {e:Expr}{te:TE}{p1 p2 pos1 pos2:Pos}(hh:X.A.handled=none)(hg1:Gl X "tuple")(hm1:X.mg "tuple" = none)(hg2:Gl X "reversed")(hm2:X.mg "reversed" = none)(he:PE X e te)
  (hs1:wC [Expr.Call (.Name "reversed" p2) [e] [] pos2] X.env=(false,eval (.Call (.Name "reversed" p2) [e] [] pos2) X.env) :: wC [] X.env:=by rfl) (hp1:(Ae pos1 (wC [] X.env)).any (·.1)=false:=by rfl)
  (hs2:wC [e] X.env=(false,eval e X.env) :: wC [] X.env:=by rfl) (hp2:(Ae pos2 (wC [] X.env)).any (·.1)=false:=by rfl) :
  PE X (.Call (.Name "tuple" p1) [.Call (.Name "reversed" p2) [e] [] pos2] [] pos1) (q9 X.K te):=by
 intro pins s σ H Q I h
 refine x4 (cY I hg1 hm1 nX ?_ (by decide) (by decide))
 refine xj ?_ hs1 hp1
 rw[hs1]
 show vJ _ _ (spliced ((false,eval (.Call (.Name "reversed" p2) [e] [] pos2) X.env) :: Ae pos1 (wC [] X.env))) _ _ s
 refine Bl ?_
 refine x4 (cY I hg2 hm2 j9 ?_ (by decide) (by decide))
 refine xj (thn ((aa he ah hs2) pos2 pins s σ H (λvs H1=>match vs with | [x]=>∃l xs,x = .ref l/\SqT X.K H1 l xs/\xs.length<=1000/\∀p,H1 p=none->Q (.ref p) (upd H1 p (.tup xs.reverse)) | _=>False) I ?_) λus s1 ⟨vs,H1,I1,r1,q1⟩ =>?_) hs2 hp2
 ·exact h
 ·match vs,q1 with
  | [x],q1 =>
  obtain ⟨t,xs,rfl,hx,h1000,q⟩:=q1
  obtain ⟨u,rfl,ru⟩:=vals1 r1
  cases (show u=vq t from ru)
  obtain ⟨its,r,ht,hz⟩:=I1.tuple hx
  have ll:=r.length
  have lz:its.toArray.size=xs.length:=by rw[u0];exact ll.symm
  refine RvT.pT ht (by rw[lz];omega) ?_
  refine BA ?_
  obtain ⟨ot,hot,_⟩:=id ht
  refine A3 A6 (by decide) (Ap _) (Av _) (λobj=>yI obj _) Aw
   (RvT.gj s1.heap.objs.size t its.toArray (vH (vh hot)) (by rw[lz];exact h1000)) ⟨by simpa using hh,⟨_,ve _ rfl,rfl,rfl⟩,RvT.kn ht (λo e=>uV _ e),λh' tk k=>⟨⟨_,ve _ rfl,rfl⟩,?_⟩⟩
  have I2:Inv X pins σ H1 { s1 with heap:=h',toks:=tk }:=I1.kept λb o e=>k b o (vH (vh e)) (uV _ e)
  exact ⟨.ref h'.objs.size,_,I2.laid (o :=.tup xs.reverse) (λb ob q=>uV _ q) (va _) ⟨by rw[yW];exact small h1000,its.reverse,kf r,cJ.new _ _⟩,rfl,q _ (I2.hok.fresh (va _))⟩
theorem pU:OpR X (binaryOp .Add) (λx y H Q=>∃a b xs ys,x = .ref a/\y = .ref b/\H a=some (.tup xs)/\H b=some (.tup ys)/\xs.length+ys.length<=vm/\∀p H',aD H H'->H' p=some (.tup (xs++ys))->Q (.ref p) H'):=by
 intro pins s σ H x y v u Q I rx ry h
 obtain ⟨a,b,xs,ys,rfl,rfl,ha,hb,hz,q⟩:=h
 exact kg pins s σ H _ _ v u Q I rx ry (gR.one ha hb hz q)
end
end L2
namespace Srt
open PySem PyProof.Rows
def tK (kz:List Int)(vs out:List uW):Prop:=∃ps:List (Int×uW),ps.Perm (kz.zip vs)/\out=ps.map Prod.snd/\ps.Pairwise (λp q=>p.1<=q.1)
section
variable  {prog:vI}{w:wc}{A:v7}{E:uW->uZ->Prop}{s:uZ}
theorem pV {h6:uZ}:Cmp prog w A h6 ju (λp:vy=>intOf p.1) (λp=>∃i t,p.1 = .int i t) oneType':=by
 refine ⟨λE st x y Q hk hx hy q =>?_⟩
 obtain ⟨i,t,e1⟩:=hx
 obtain ⟨j,u,e2⟩:=hy
 rw[lt'_eq]
 refine vt (zW ?_)
 rw[hk,keyLt'_oneType,e1,e2]
 refine vt (Ad (xp (oneLt_int ⟨rfl,?_⟩)))
 refine vB ?_
 have q':Q (some (decide (intOf x.1<intOf y.1))) st:=q
 rw[e1,e2] at q'
 exact q'
theorem rb {keys vs:List uW}{kz:List Int}(hk:xT keys kz){xs:List vy}(hp:xs.Perm (keys.zip vs))(hs:xs.Pairwise λp q=>ju.kle (intOf p.1) (intOf q.1)):tK kz vs (xs.map (·.2)):=by
 refine ⟨xs.map λp=>(intOf p.1,p.2),?_,?_,?_⟩
 ·have e:(keys.zip vs).map (λp:vy=>(intOf p.1,p.2))=kz.zip vs:=by
   rw[<- ints_map hk,List.zip_map_left]
   exact yo λ⟨x,y⟩ _=>rfl
  rw[<- e]
  exact hp.map _
 ·rw[v9]
  rfl
 ·rw[wj]
  refine hs.imp λ{p q} le =>?_
  have le':decide (intOf q.1<intOf p.1)=false:=le
  have:=of_decide_eq_false le'
  show intOf p.1<=intOf q.1
  omega
theorem pW {a:Addr}{f:uW}{vs:List uW}{kz:List Int}{n:Nat}{P:PySem.Fin->uZ->Prop}(ho:s.heap.get? a=some (seqObj "list" vs.toArray n))(hz:vs.length<=vm)(hlen:kz.length=vs.length)
  (turn:∀(i:Nat) (v:uW) (k:Int),vs[i]? = some v->kz[i]? = some k->∀(h:Heap) (tk:Nat),(∀b o,b≠a->s.heap.get? b=some o->h.get? b=some o)->∀(Q:uW->uZ->Prop) (E:uW->uZ->Prop),(∀t tk',Q (.int k t) { s with heap:=h,toks:=tk' })->vJ (vK prog w) A (call f [v]) Q E { s with heap:=h,toks:=tk })
  (h:∀(h':Heap) (tk:Nat) (out:List uW) (c:Nat),(∀b o,b≠a->s.heap.get? b=some o->h'.get? b=some o)->h'.get? a=some (seqObj "list" out.toArray c)->tK kz vs out->P (.done (.ret .none)) { s with heap:=h',toks:=tk }) :
  vJ (vK prog w) A (ksk_tree a f false) P E s:=by
 have ha:a<s.heap.objs.size:=vh ho
 unfold ksk_tree
 refine uU (zA ho rfl (uU (yp ho rfl ?_ (by rw[u0];exact hz) (vY _))))
 obtain ⟨e1,ho1⟩:∃e1,(s.heap.update a (vV λ_=>(#[]:Array uW))).get? a=some (seqObj "list" #[] e1):=⟨_,zi ho λ_ => #[]⟩
 refine uU (Bh ho1 rfl (uU (A9 ?_ (by exact hz))))
 refine uU (zj ?_ (vY _))
 refine xK ?_
 obtain ⟨kS,ekS⟩:∃kS,kS=((s.heap.update a (vV λ_=>(#[]:Array uW))).push (seqObj "tuple" vs.toArray 0)).objs.size:=⟨_,rfl⟩
 have hkS:kS=s.heap.objs.size+1:=by rw[ekS,BI,BZ]
 have hka:kS≠a:=by rw[hkS];exact xw (yh ha)
 show vJ _ _ (ksk_rest a f false vs.toArray e1 (.ref ((s.heap.update a (vV λ_=>(#[]:Array uW))).push (seqObj "tuple" vs.toArray 0)).objs.size)) _ _ { s with heap:=((s.heap.update a (vV λ_=>(#[]:Array uW))).push (seqObj "tuple" vs.toArray 0)).push (seqObj "list" #[] 0) }
 rw[<- ekS]
 have g0:(((s.heap.update a (vV λ_=>(#[]:Array uW))).push (seqObj "tuple" vs.toArray 0)).push (seqObj "list" #[] 0)).get? kS=some (seqObj "list" #[] 0):=by rw[ekS];exact ve _ rfl
 have a0:(((s.heap.update a (vV λ_=>(#[]:Array uW))).push (seqObj "tuple" vs.toArray 0)).push (seqObj "list" #[] 0)).get? a=some (seqObj "list" #[] e1):=uV _ (uV _ ho1)
 have k0:∀b o,b≠a->s.heap.get? b=some o->(((s.heap.update a (vV λ_=>(#[]:Array uW))).push (seqObj "tuple" vs.toArray 0)).push (seqObj "list" #[] 0)).get? b=some o:=λb o nb e=>by
  refine uV _ (uV _ ?_)
  rw[xh _ _ _ _ nb]
  exact e
 have old:∀b o,s.heap.get? b=some o->b≠kS:=λb o e=>by rw[hkS];exact vH (yh (vh e))
 generalize ((s.heap.update a (vV λ_=>(#[]:Array uW))).push (seqObj "tuple" vs.toArray 0)).push (seqObj "list" #[] 0)=h6 at g0 a0 k0
 unfold ksk_rest
 refine uU (xY ?_)
 rw[<- Array.forIn_toList];simp only[List.toList_toArray]
 refine uU (ksk_fold (λi s'=>∃(h':Heap) (tk:Nat) (kA:Array uW) (e:Nat),s'={ s with heap:=h',toks:=tk }/\(∀b o,b≠a->s.heap.get? b=some o->h'.get? b=some o)/\h'.get? kS=some (seqObj "list" kA e)/\h'.get? a=some (seqObj "list" #[] e1)/\xT kA.toList (kz.take i)) vs 0 _
  ⟨h6,s.toks, #[],0,rfl,k0,g0,a0,by simpa using IntsAre.nil⟩ ?step ?done)
 case step =>
  rintro j x s' hx ⟨h',tk,kA,e,rfl,kp,gk,ga,hk⟩
  simp only[yZ] at hk ⊢
  have hj:j<vs.length:=(vb.mp hx).1
  obtain ⟨k,hkj⟩:∃k,kz[j]? = some k:=⟨_,vk (by omega)⟩
  have hzk:kA.size=j:=by
   have h1:=hk.length
   rw[vo,v3] at h1
   omega
  refine uU (xp (turn j x k hx hkj h' tk kp _ _ λt tk' =>?_))
  try dsimp only
  obtain ⟨c2,hc2⟩:∃c2,(h'.update kS (vV (·.push (.int k t)))).get? kS=some (seqObj "list" (kA.push (.int k t)) c2):=⟨_,zi gk (·.push (.int k t))⟩
  have ek:kz.take (j+1)=kz.take j++[k]:=by rw[vQ,hkj];simp
  have ea:(kA.push (xC k t)).toList=kA.toList++[xC k t]:=by simp
  refine uU (yp gk rfl ?_ (by omega) (vP (Nat.le_of_eq (xQ ..)) (by omega)))
  refine vg ⟨rfl,_,_,kA.push (.int k t),c2,rfl,λb o nb eb =>?_,hc2,?_,by rw[ea,ek];exact ksk_snoc hk⟩
  ·rw[xh _ _ _ _ (old b o eb)]
   exact kp b o nb eb
  ·rw[xh _ _ _ _ (xi hka)]
   exact ga
 case done =>
  rintro s' ⟨h',tk,kA,e,rfl,kp,gk,ga,hk⟩
  have hk':xT kA.toList kz:=by
   have e3:kz.take (0+vs.length)=kz:=vD (by omega)
   rw[e3] at hk
   exact hk
  have hsz:kA.size=vs.length:=by
   have h1:=hk'.length
   rw[vo] at h1
   omega
  try dsimp only
  refine uU (zA gk rfl ?_)
  have zl:(kA.zip vs.toArray).toList=kA.toList.zip vs:=ksk_zip _ _
  have up:∀p∈(kA.toList.zip vs:List vy),∃i t,p.1 = .int i t:=λp hp=>j4 hk' _ (y3 hp).1
  have lz:(kA.toList.zip vs:List vy).length=vs.length:=by rw[yy,vo,hsz,AY]
  have tl:∀st':vO,(vE st').toList.Perm (kA.toList.zip vs)->(vE st').toList.Pairwise (λp q=>ju.kle (intOf p.1) (intOf q.1))->failedOf st'=none->vJ (vK prog w) A (ksk_tail a false e1 (.ref kS) st') P E { s with heap:=h',toks:=tk }:=by
   intro st' pm ps hf
   have em:(vE st').map (·.2)=((vE st').toList.map (·.2)).toArray:=by
    apply AG.mp
    rw[BX]
   have sa:(vE st').size=vs.length:=by rw[<- vo,pm.length_eq,lz]
   have ga1:(h'.update kS (vV λ_=>(#[]:Array uW))).get? a=some (seqObj "list" #[] e1):=by rw[xh _ _ _ _ (xi hka)];exact ga
   unfold ksk_tail
   try dsimp only
   refine uU (yp gk rfl ?_ (by rw[hsz];exact hz) (vY _));refine uU (AD ?_)
   refine uU (Bh ga1 rfl ?_);refine uU (yp ga1 rfl ?_ (vY _) (by simp only[w6,if_false,Co];rw[sa];omega))
   rw[hf];simp only[bne_self_eq_false,w6,if_false]
   obtain ⟨c2,hc2⟩:∃c2,((h'.update kS (vV λ_=>(#[]:Array uW))).update a (vV λ_=>(vE st').map (·.2))).get? a=some (seqObj "list" ((vE st').map (·.2)) c2):=⟨_,zi ga1 λ_=>(vE st').map (·.2)⟩
   rw[em] at hc2 ⊢
   refine vg (h _ _ _ c2 (λb o nb eb =>?_) hc2 (rb hk' pm ps))
   rw[xh _ _ _ _ nb,xh _ _ _ _ (old b o eb)]
   exact kp b o nb eb
  unfold ksk_end
  try dsimp only
  rw[if_neg vp]
  by_cases h2:vs.toArray.size<2
  ·rw[if_pos h2,if_pos h2]
   refine uU (vg ?_)
   rw[B9]
   refine uU (vg ?_)
   try dsimp only
   refine tl (SortSt.mk' general' (if false=true then (kA.zip vs.toArray).reverse else kA.zip vs.toArray) #[] 7 none) ?_ ?_ rfl
   ·show (kA.zip vs.toArray).toList.Perm _
    rw[zl]
   ·show (kA.zip vs.toArray).toList.Pairwise _
    rw[zl]
    rw[u0] at h2
    have l2:(kA.toList.zip vs:List vy).length<2:=by omega
    generalize (kA.toList.zip vs:List vy)=l at l2
    match l,l2 with
    | [],_=>exact List.Pairwise.nil
    | [v],_=>exact wz _ _
    | _ :: _ :: _,hu=>simp only[vT] at hu;omega
  ·rw[if_neg h2,if_neg h2]
   rw[u0] at h2
   rw[ksk_kind hk' (by rw[hsz];omega)]
   refine uU (vg ?_)
   refine uU (xG (j0 (pV (h6:={ s with heap:=h',toks:=tk })) (E:=E) (a0:=kA.toList.zip vs) (st:=SortSt.mk' oneType' (if false=true then (kA.zip vs.toArray).reverse else kA.zip vs.toArray) #[] 7 none)
    (Q:=λ_ st'=>(vE st').toList.Perm (kA.toList.zip vs)/\(vE st').toList.Pairwise (Le (O:=ju) λ(p:vy)=>intOf p.1)/\failedOf st'=none)
    up zl rfl rfl rfl (by rw[lz];omega) λst' a1 a2 a3=>⟨a1,a2,a3⟩) ?_ λ_ _ e=>e)
   rintro ⟨⟨⟩,st'⟩ s' ⟨rfl,hp,hs,hf⟩
   exact tl st' hp hs hf
theorem iB {v f:uW}{vs:List uW}{kz:List Int}{kw:List (Str×uW)}{Q:uW->uZ->Prop}(hv:gM prog w s v vs)(hz:vs.length<=vm)(hlen:kz.length=vs.length)
  (ha1:argsOk "sorted" ⟨[v],kw⟩) (ha2:∀x,argsOk "list.sort" ⟨[.ref x],kw⟩) (ht:∀x,Builtin.«list.sort» ⟨[.ref x],kw⟩=ksk_tree x f false)
  (turn:∀(i:Nat) (u:uW) (k:Int),vs[i]? = some u->kz[i]? = some k->∀(A:v7) (h:Heap) (tk:Nat),(∀b o,s.heap.get? b=some o->h.get? b=some o)->∀(Q:uW->uZ->Prop) (E:uW->uZ->Prop),(∀t tk',Q (.int k t) { s with heap:=h,toks:=tk' })->vJ (vK prog w) A (call f [u]) Q E { s with heap:=h,toks:=tk })
  (h:∀(h':Heap) (tk:Nat) (p:Addr) (out:List uW) (n:Nat),(∀b o,s.heap.get? b=some o->h'.get? b=some o)->s.heap.objs.size<=p->h'.get? p=some (seqObj "list" out.toArray n)->tK kz vs out->Q (.ref p) { s with heap:=h',toks:=tk }) :
  vJ (vK prog w) A (call (.builtin "sorted") [v] kw) Q E s:=by
 refine call_function_entry_kw Ce BO BP ha1 ?_
 unfold Builtin.«sorted»
 refine uU (m:=checkCount "sorted" 1 1 _) (vg ?_)
 refine uU (hv _ _ _ λh1 k1 z1=>uU (zj ?_ hz))
 have hoL:(h1.push (seqObj "list" vs.toArray 0)).get? h1.objs.size=some (seqObj "list" vs.toArray 0):=ve _ rfl
 have kL:∀b o,s.heap.get? b=some o->(h1.push (seqObj "list" vs.toArray 0)).get? b=some o:=λb o e=>uV _ (k1 b o e)
 have ne:∀b o,s.heap.get? b=some o->b≠h1.objs.size:=λb o e=>vH (vF (vh e) z1)
 refine uU (xK (wpAny_call_entry_kw slot_list_sort ⟨_,hoL,rfl⟩ entry_list_sort ?body (ha2 _)))
 case body =>
  show vJ (vK prog w) _ (Builtin.«list.sort» ⟨[.ref h1.objs.size],kw⟩) _ _ _
  rw[ht]
  refine pW (s:={ s with heap:=h1.push (seqObj "list" vs.toArray 0) }) hoL hz hlen (λi u k hu hk hp tk kp Q E q =>?_) λh' tk out c kp ga ko=>⟨_,rfl,?_⟩
  ·exact turn i u k hu hk _ hp tk (λb o e=>kp b o (ne b o e) (kL b o e)) Q E q
  ·exact vg ⟨_,rfl,h h' tk _ out c (λb o e=>kp b o (ne b o e) (kL b o e)) z1 ga ko⟩
end
end Srt
namespace L2
open PySem PySem.Spec PyProof.Rows
section
variable  {X:Cx}
def pX (K:u6)(te:TE):TE:=λσ H Q=>te σ H λx H1=>∃(p:Addr) (ts:List (Addr×List Int)),[x]=[.ref p]/\(SqL K H1 p (ts.map λt =>.ref t.1)\/SqT K H1 p (ts.map λt =>.ref t.1))/\(∀t∈ts,SqT K H1 t.1 (t.2.map V.int)) ∧
  ∀(l:Addr) (out:List (Addr×List Int)),H1 l=none->out.Perm ts->out.Pairwise (λa b=>a.2.length<=b.2.length)->Q (.ref l) (upd H1 l (.lst (out.map λt =>.ref t.1)))
theorem kq {α β γ:Type}(f:α -> β)(g:α -> γ):∀l:List α,(l.map f).zip (l.map g)=l.map λx=>(f x,g x)
 | []=>rfl
 | x :: l=>by rw[vw,vw,y6,kq f g l];rfl
theorem ft {e:Expr}{te:TE}{p p2 pos kpos:Pos}(hg:Gl X "sorted")(hm:X.mg "sorted" = none)(hg2:Gl X "len")(hm2:X.mg "len" = none)(hv:we "sorted" = some (.builtin "sorted"))(he:PE X e te)
    (hs:wC (e :: []) X.env=(false,eval e X.env) :: wC [] X.env:=by rfl)
    (ha:Ae pos (wC (e :: []) X.env)=(false,eval e X.env) :: Ae pos (wC [] X.env):=by rfl)
    (hplain:(Ae pos (wC (e :: []) X.env)).any (·.1)=false:=by rfl) :
    PE X (.Call (.Name "sorted" p) [e] [⟨some "key",.Name "len" p2,kpos⟩] pos) (pX X.K te):=by
  intro pins s σ H Q I h
  refine x4 (cY I hg hm hv ?_)
  refine PyProof.Rows.callWith_kw (thn ((aa he ah hs) pos pins s σ H (λvs H1=>∃(p:Addr) (ts:List (Addr×List Int)),vs=[.ref p]/\(SqL X.K H1 p (ts.map λt:Addr×List Int=>V.ref t.1)\/SqT X.K H1 p (ts.map λt:Addr×List Int=>V.ref t.1))/\(∀t∈ts,SqT X.K H1 t.1 (t.2.map V.int)) ∧
    ∀(l:Addr) (out:List (Addr×List Int)),H1 l=none->out.Perm ts->out.Pairwise (λa b:Addr×List Int=>a.2.length<=b.2.length)->Q (.ref l) (upd H1 l (.lst (out.map λt:Addr×List Int=>V.ref t.1)))) I h) λus s1 ⟨vs,H1,I1,r1,q1⟩ =>?_) ha hplain rfl rfl
  show vJ _ _ (evalAll ((do let v ← eval (.Name "len" p2) X.env;standAt pos;pure v) :: [])) _ _ s1
  refine wpAny_evalAll_cons (uU (cY I1 hg2 hm2 PySem.boot_len (uU (AA (vg (wpAny_evalAll_nil ?_))))))
  show vJ _ _ (call (.builtin "sorted") us [("key",.builtin "len")]) _ _ s1
  obtain ⟨a,ts,rfl,hq,ht,q⟩:=q1
  obtain ⟨u,rfl,ru⟩:=vals1 r1
  cases (show u=vq a from ru)
  obtain ⟨its,o,n,rv,e1,c1,d1,z1⟩:=I1.j5 hq
  have ei:=dS rv
  have lz:its.length<=vm:=by rw[<- rv.length];exact z1
  have li:its.length=ts.length:=by rw[ei,uT]
  refine Srt.iB (f :=.builtin "len") (kz:=ts.map λt=>(t.2.length:Int)) (Srt.fh e1 c1 d1 lz) lz (by rw[uT,li]) (ksk_s1 _ _) (λx=>ksk_l1 _ _) (λx=>ksk_t4 _ _) ?turn λh' tk l out m k hl el ko =>?fin
  case turn =>
    intro i u k hu hk A h tk kp Q E q
    rw[ei,vi] at hu
    rw[vi] at hk
    cases et:ts[i]? with
    | none=>rw[et] at hu;cases hu
    | some t =>
      rw[et] at hu hk
      cases hu
      cases hk
      obtain ⟨jts,jr,⟨jo,je,jc,jn,jd⟩,jz⟩:=I1.tuple (ht t (vf et))
      have hl:=jr.length
      rw[uT] at hl jz
      have hz:=fK
      refine Cd (s:={ s1 with heap:=h,toks:=tk }) ⟨jo,kp _ _ je,jc,jn,jd⟩ (by simp only[u0];omega) ?_
      have e:((jts.toArray.size:Nat):Int)=(t.2.length:Int):=by rw[u0,hl]
      rw[e]
      exact q _ _
  case fin =>
    obtain ⟨ps,pm,eo,pw⟩:=ko
    rw[ei,kq] at pm
    obtain ⟨out',pm',rfl⟩:=eM pm
    have eo':out=out'.map λt=>vq t.1:=by rw[eo,v9];rfl
    subst eo'
    refine ⟨.ref l,_,I1.laid (t':=tk) (o :=.lst (out'.map λt:Addr×List Int=>V.ref t.1)) k hl ⟨(by rw[uT,pm'.length_eq, <- uT (f:=λt:Addr×List Int=>V.ref t.1)];exact z1),_,m,dU,el⟩,rfl,q l _ (I1.hok.fresh hl) pm' ?_⟩
    refine (wj.mp pw).imp λ{x y} le =>?_
    have:(x.2.length:Int)<=(y.2.length:Int):=le
    omega
end
open PySem PySem.Spec PyProof.Rows
section
variable  {X:Cx}
theorem i6 {K:u6}(h:X.K=K:=by rfl):OpR X (binaryOp .Add) (gR K):=by subst h;exact kg
end
end L2
namespace Srt
open PySem PyProof.Rows
section
variable  {prog:vI}{w:wc}{A:v7}{E:uW->uZ->Prop}{s:uZ}{O:zJ}{key:uW->O.α}
theorem kr {v:uW}{vs:List uW}{Q:uW->uZ->Prop}(hv:gM prog w s v vs)(hz:vs.length<=vm)
  (C:2<=vs.length->∀(B:v7) (h6:Heap),B.units<=A.units+6->(∀b o,s.heap.get? b=some o->h6.get? b=some o)->∃κ,(∀(Q:SortKind->uZ->Prop) (E:uW->uZ->Prop),Q κ { s with heap:=h6 }->vJ (vK prog w) B (keyKind' vs.toArray) Q E { s with heap:=h6 }) ∧
  Cmp prog w B { s with heap:=h6 } O (λp=>key p.1) (λp=>p.1=p.2/\p.1∈vs) κ)
  (h:∀(h':Heap) (p:Addr) (out:List uW) (n:Nat),(∀b o,s.heap.get? b=some o->h'.get? b=some o)->s.heap.objs.size<=p->h'.get? p=some (seqObj "list" out.toArray n)->out.Perm vs->out.Pairwise (λx y=>O.kle (key x) (key y))->Q (.ref p) { s with heap:=h' }) :
  vJ (vK prog w) A (call (.builtin "sorted") [v]) Q E s:=by
 refine Ak Ce BO BP (args_sorted1 _) ?_
 unfold Builtin.«sorted»
 refine uU (m:=checkCount "sorted" 1 1 _) (vg ?_)
 refine uU (hv _ _ _ λh1 k1 z1=>uU (zj ?_ hz))
 have hoL:(h1.push (seqObj "list" vs.toArray 0)).get? h1.objs.size=some (seqObj "list" vs.toArray 0):=ve _ rfl
 have kL:∀b o,s.heap.get? b=some o->(h1.push (seqObj "list" vs.toArray 0)).get? b=some o:=λb o e=>uV _ (k1 b o e)
 refine uU (xK (wG slot_list_sort ⟨_,hoL,rfl⟩ entry_list_sort (eC (key:=key) (O:=O) hoL hz (λh2 h6 k6 =>?_) λout pm ps=>⟨_,rfl,?_⟩) (args_list_sort _)))
 ·refine C h2 _ h6 ?_ λb o e=>k6 b o (vH (vF (vh e) z1)) (kL b o e)
  simp only[yS]
  omega
 ·obtain ⟨n,en⟩:=sortedHeap_at (out:=out.toArray) hoL
  refine vg ⟨_,rfl,h _ _ out n (λb o e =>?_) z1 en pm ps⟩
  have lt:=vF (vh e) z1
  rw[sortedHeap_old (vH lt) (by rw[BI];exact yh lt)]
  exact kL b o e
end
def IsPair (h:Heap)(v:uW)(k:List Int×List Int):Prop:=∃p o xs n a b,v = .ref p/\h.get? p=some o/\o.cls = .type "tuple" /\ o.data = .seq xs n/\xs.toList=[.ref a,.ref b]/\aW h (.ref a) k.1/\aW h (.ref b) k.2
theorem aW.isTup {h:Heap}{a:Addr}{ns:List Int}(x:aW h (.ref a) ns):∃its:Array uW,IsTup h a its/\xT its.toList ns:=by
 obtain ⟨p,o,xs,n,e,g,c,d,r⟩:=x
 cases e
 exact ⟨xs,⟨o,g,c,n,d⟩,r⟩
theorem nZ {A:v7}{s:uZ}{a b:Addr}{ns ms:List Int}(hu:A.units<cLine)(x:aW s.heap (.ref a) ns)(y:aW s.heap (.ref b) ms):yt A s (.ref a) (.ref b) (decide (ns=ms)):=by
 obtain ⟨p,o,xs,n,e,g,c,d,r⟩:=x
 cases e
 obtain ⟨p',o',xs',n',e',g',c',d',r'⟩:=y
 cases e'
 exact λprog w E Q q=>Bt (knd:=intKind prog w) hu ⟨o,_,n,g,c,d,L2.dW r⟩ ⟨o',_,n',g',c',d',L2.dW r'⟩ q
section
variable  {prog:vI}{w:wc}{s:uZ}
end
end Srt
namespace L2
open PySem PySem.Spec PyProof.Rows
section
variable  {X:Cx}
def pY (us ws:List (Addr×List Int))(j:Nat):Bool:=decide ((us.map (·.2)).getD j []=(ws.map (·.2)).getD j [])
theorem oa {us ws:List (Addr×List Int)}(h:us.length=ws.length):((wF us.length).all λj=>pY us ws j)=decide (us.map (·.2)=ws.map (·.2)):=by
 rw[w9,decide_eq_true_iff,xX]
 constructor
 ·intro hh
  refine yR (by rw[uT,uT];exact h) λj h1 h2 =>?_
  have:=of_decide_eq_true (hh j (xM.mpr (by rw[uT] at h1;exact h1)))
  rw[vz,vz,vk h1,vk h2] at this
  exact this
 ·intro e j _
  exact decide_eq_true (by rw[e])
theorem rO {us:List (Addr×List Int)}{its:List uW}(r:Vals (us.map λu=>V.ref u.1) its){j:Nat}(h:j<its.toArray.size):∃u,us[j]? = some u/\its.toArray[j] = .ref u.1:=by
 have e:=gN r
 subst e
 rw[u0,uT] at h
 exact ⟨us[j],vk h,by simp⟩
theorem rd {k:Nat}(hr:cg k X.A):OpR X (xS .NotEq) (λx y H Q=>∃(a b:Addr) (us ws:List (Addr×List Int)),x = .ref a/\y = .ref b/\H a=some (.lst (us.map λu =>.ref u.1))/\H b=some (.lst (ws.map λu =>.ref u.1))/\(∀u∈us,H u.1=some (.tup (u.2.map V.int)))/\(∀u∈ws,H u.1=some (.tup (u.2.map V.int)))/\Q (.bl (!decide (us.map (·.2)=ws.map (·.2)))) H):=by
 intro pins s σ H x y v u Q I rx ry h
 obtain ⟨a,b,us,ws,rfl,rfl,h1,h2,t1,t2,q⟩:=h
 cases (show v=vq a from rx)
 cases (show u=vq b from ry)
 obtain ⟨its,r1,p1,_⟩:=I.list (SqL.of (K:=X.K) h1)
 obtain ⟨its2,r2,p2,_⟩:=I.list (SqL.of (K:=X.K) h2)
 have l1:=r1.length
 have l2:=r2.length
 rw[uT] at l1 l2
 have hu:=hr.un
 have hu1:X.A.units<cLine:=by omega
 by_cases hl:us.length=ws.length
 ·have R:=SeqAt.RcNeAt.lists (A:=X.A) (e:=pY us ws) p1.isList p2.isList (by rw[u0,u0];omega) hu1 (by
   intro j h1 h2
   obtain ⟨u,eu,g1⟩:=rO r1 h1
   obtain ⟨w,ew,g2⟩:=rO r2 h2
   rw[g1,g2]
   have:=I.eqT (A:=X.A.in1) (by rw[yS];omega) (SqT.of (t1 u (vf eu))) (SqT.of (t2 w (vf ew)))
   unfold pY
   rw[vz,vz,vi,vi,eu,ew]
   exact this)
  rw[u0, <- l1,oa hl] at R
  exact R _ _ _ _ ⟨.bl _,H,I,rfl,q⟩
 ·have ne:us.map (·.2)≠ws.map (·.2):=λz=>hl (by have:=congrArg List.length z;simpa using this)
  rw[decide_eq_false ne] at q
  exact SeqAt.RcNeAt.lists_lengths (A:=X.A) p1.isList p2.isList (by simp;omega) hu1 _ _ _ _ ⟨.bl true,H,I,rfl,q⟩
theorem gm {K:u6}(h:X.K=K:=by rfl):bY X (.type "tuple") (λxs H Q=>∃p ys,xs=[.ref p]/\((SqL K H p ys/\∀l,H l=none->Q (.ref l) (upd H l (.tup ys)))\/(SqT K H p ys/\Q (.ref p) H))):=by
 subst h;exact bD
end
end L2
namespace Itm
open PySem PyProof.Rows
section
variable  {prog:vI}{w:wc}{A:v7}{E:uW->uZ->Prop}{s:uZ}
def DE (h:Heap)(d:Addr)(es:Array DictEntry)(ep:Nat):Prop:=∃o,h.get? d=some o/\o.data = .dict es ep
def bQ (a b f g:uW)(d:Addr)(i n ep:Nat):Obj:={ cls :=.type "dict_itemiterator",data :=.fields #[a,b,.ref d,.int i 0,.int n 0,.int ep 0,f,g] }
theorem made {v d:Addr}{es:Array DictEntry}{ep:Nat}{Q:uW->uZ->Prop}(hv:s.heap.IsItemsView v d)(hd:DE s.heap d es ep)
  (hQ:Q (.ref s.heap.objs.size) { s with heap:=s.heap.push (bQ .none (.bool false) .none .none d 0 es.size ep) }):vJ (vK prog w) A (Builtin.«dict_items.__iter__» ⟨[.ref v],[]⟩) (λfin s'=>∃v,fin = .done (.ret v)/\Q v s') E s:=by
 obtain ⟨⟨vc,vd,vdt,vs⟩,hov,hcv,hdv⟩:=hv
 obtain ⟨⟨oc,odd,odt,os'⟩,hod,hdd⟩:=hd
 dsimp only at hcv hdv hdd
 subst hcv hdv hdd
 unfold Builtin.«dict_items.__iter__»
 wp_walk
 exact ⟨_,rfl,hQ⟩
def fu (h:Heap)(it d:Addr)(i n ep:Nat):Prop:=∃a b f g,h.get? it=some (bQ a b f g d i n ep)
def Kp (h h':Heap)(it:Addr):Prop:=(∀c o,c≠it->h.get? c=some o->h'.get? c=some o)/\h'.objs.size=h.objs.size
theorem Kp.refl (h:Heap)(it:Addr):Kp h h it:=⟨λ_ _ _ e=>e,rfl⟩
theorem Kp.trans {h h1 h2:Heap}{it:Addr}(a:Kp h h1 it)(b:Kp h1 h2 it):Kp h h2 it:=⟨λc o n e=>b.1 c o n (a.1 c o n e),b.2.trans a.2⟩
theorem cU {h:Heap}{it:Addr}(F:Obj->Obj):Kp h (h.update it F) it:=⟨λc o n e=>(vX _ _ (xi n)).trans e,by simp⟩
theorem pZ {it d:Addr}{i n ep k:Nat}{x:uW}{Q:Unit->uZ->Prop}(hi:fu s.heap it d i n ep)(h:∀h1,fu h1 it d i n ep->Kp s.heap h1 it->Q () { s with heap:=h1 })(hk:k=0\/k=1\/k=6\/k=7):vJ (vK prog w) A (setField (.ref it) k x) Q E s:=by
 obtain ⟨a,b,f,g,hi⟩:=hi
 unfold bQ at hi
 rcases hk with rfl | rfl | rfl | rfl
 ·wp_walk
  exact h _ ⟨x,b,f,g,vW _ hi rfl⟩ (cU _)
 ·wp_walk
  exact h _ ⟨a,x,f,g,vW _ hi rfl⟩ (cU _)
 ·wp_walk
  exact h _ ⟨a,b,x,g,vW _ hi rfl⟩ (cU _)
 ·wp_walk
  exact h _ ⟨a,b,f,x,vW _ hi rfl⟩ (cU _)
theorem setI {it d:Addr}{i n ep k:Nat}{x:uW}{Q:Unit->uZ->Prop}(hi:fu s.heap it d i n ep)(h:∀h1,fu h1 it d (i+1) n ep->Kp s.heap h1 it->Q () { s with heap:=h1 })(hk:k=3)(hx:x = .int ((i:Int)+1) 0):vJ (vK prog w) A (setField (.ref it) k x) Q E s:=by
 obtain ⟨a,b,f,g,hi⟩:=hi
 unfold bQ at hi
 subst hk hx
 wp_walk
 exact h _ ⟨a,b,f,g,vW _ hi rfl⟩ (cU _)
theorem alive {a:Addr}{Q:Option Obj->uZ->Prop}(h:Q (s.heap.get? a) s):vJ (vK prog w) A (loadIfAlive a) Q E s:=by
 unfold loadIfAlive
 intro Γ p hΓ
 rw[Sem.wp_loadIfAlive]
 exact vg (M:=vK prog w) (A:=A) (E:=E) h Γ p hΓ
theorem next {it d:Addr}{es:Array DictEntry}{ep i:Nat}{a b f g:uW}{e:DictEntry}{Q:uW->uZ->Prop}(hi:s.heap.get? it=some (bQ a b f g d i es.size ep))(hd:DE s.heap d es ep)(he:es[i]? = some e)
  (hQ:∀(h':Heap) (a' b' f' g':uW) (tk:Nat),h'.get? it=some (bQ a' b' f' g' d (i+1) es.size ep)->(∀c o,c≠it->s.heap.get? c=some o->h'.get? c=some o)->h'.get? s.heap.objs.size=some { cls :=.type "tuple",data :=.seq #[e.key,e.val] }->h'.objs.size=s.heap.objs.size+1->Q (.ref s.heap.objs.size) { s with heap:=h',toks:=tk }):vJ (vK prog w) A (Builtin.«dict_itemiterator.__next__» ⟨[.ref it],[]⟩) (λfin s'=>∃v,fin = .done (.ret v)/\Q v s') E s:=by
 obtain ⟨⟨oc,odd,odt,os'⟩,hod,hdd⟩:=hd
 dsimp only at hdd
 subst hdd
 unfold bQ at hi
 unfold Builtin.«dict_itemiterator.__next__»
 wp_walk
 have hI:fu s.heap it d i es.size ep:=⟨_,_,_,_,hi⟩
 rw[show (if (i:Int)<0 then none else es[(i:Int).toNat]?)=some e by rw[if_neg (by omega),wu];exact he]
 wp_walk using setI hI
 ·intro h1 H1 k1
  obtain ⟨a1,b1,f1,g1,H1⟩:=H1
  have hi2:fu (h1.push { cls :=.type "tuple",data :=.seq #[e.key,e.val] }) it d (i+1) es.size ep:=⟨_,_,_,_,uV _ H1⟩
  have fin:∀h2,fu h2 it d (i+1) es.size ep->Kp (h1.push { cls :=.type "tuple",data :=.seq #[e.key,e.val] }) h2 it->Q (.ref h1.objs.size) { s with heap:=h2 }:=λh2 I2 K2=>by
   obtain ⟨a2,b2,f2,g2,e2⟩:=I2
   have ne:h1.objs.size≠it:=xw (vh H1)
   rw[k1.2] at ne ⊢
   refine hQ h2 a2 b2 f2 g2 s.toks e2 (λc o n ec=>K2.1 c o n (uV _ (k1.1 c o n ec))) (K2.1 _ _ ne (by rw[<- k1.2];exact ve _ rfl)) ?_
   rw[K2.2, <- k1.2]
   simp
  unfold bQ at H1
  wp_walk
  refine L2.thn (Q:=λc s'=>∃h2,s'={ s with heap:=h2 }/\fu h2 it d (i+1) es.size ep/\Kp (h1.push { cls :=.type "tuple",data :=.seq #[e.key,e.val] }) h2 it) ?_ λc s' q =>?_
  ·show vJ _ _ (match a1 with | .none=>_ | .int a tok=>_ | x=>_) _ _ _
   cases a1
   case none=>exact vg ⟨_,rfl,hi2,Kp.refl _ _⟩
   case int z tok =>
    dsimp only
    refine uU (alive ?_)
    refine wB (λ_=>vg ⟨_,rfl,hi2,Kp.refl _ _⟩) λ_ =>?_
    wp_walk
    refine wB (λ_=>uU (pZ (s:={ s with heap:=h1.push { cls :=.type "tuple",data :=.seq #[e.key,e.val] } }) hi2 (λh3 I3 K3=>vg ⟨h3,rfl,I3,K3⟩) (.inr (.inl rfl)))) λ_=>vg ⟨_,rfl,hi2,Kp.refl _ _⟩
   all_goals exact vg ⟨_,rfl,hi2,Kp.refl _ _⟩
  ·obtain ⟨h2,rfl,I2,K2⟩:=q
   cases c
   ·rw[if_neg vp]
    exact vg (vg ⟨_,rfl,fin h2 I2 K2⟩)
   ·obtain ⟨a2,b2,f2,g2,e2⟩:=id I2
    unfold bQ at e2
    rw[if_pos rfl]
    dsimp only
    wp_walk using pZ (s:={ s with heap:=h2 }) I2
    ·intro h3 I3 K3
     refine uU (pZ (s:={ s with heap:=h3 }) I3 (λh4 I4 K4 =>?_) (.inr (.inr (.inr rfl))))
     refine uU (pZ (s:={ s with heap:=h4 }) I4 (λh5 I5 K5 =>?_) (.inl rfl))
     refine uU (pZ (s:={ s with heap:=h5 }) I5 (λh6 I6 K6 =>?_) (.inr (.inl rfl)))
     refine uU (AD (vg (vg ⟨_,rfl,fin h6 I6 (K2.trans (K3.trans (K4.trans (K5.trans K6))))⟩)))
    ·exact .inr (.inr (.inl rfl))
 ·kernel_rfl
 ·kernel_rfl
theorem ended {it d:Addr}{es:Array DictEntry}{ep:Nat}{a b f g:uW}{Q:Fin->uZ->Prop}(hh:A.handled=none)(hi:s.heap.get? it=some (bQ a b f g d es.size es.size ep))(hd:DE s.heap d es ep)
  (hE:∀(h':Heap) (x:Addr),(∀c o,c≠it->s.heap.get? c=some o->h'.get? c=some o)->(∃o,h'.get? x=some o/\o.cls = .type "StopIteration")->E (.ref x) { s with heap:=h' }):vJ (vK prog w) A (Builtin.«dict_itemiterator.__next__» ⟨[.ref it],[]⟩) Q E s:=by
 obtain ⟨⟨oc,odd,odt,os'⟩,hod,hdd⟩:=hd
 dsimp only at hdd
 subst hdd
 unfold bQ at hi
 unfold Builtin.«dict_itemiterator.__next__»
 wp_walk
 rw[show (if (es.size:Int)<0 then none else es[(es.size:Int).toNat]?)=none by rw[if_neg (by omega),wu];exact AR (va _)]
 wp_walk
 refine wpAny_raiseNew_none hh (hE _ _ (λc o n e =>?_) ⟨_,ve _ rfl,rfl⟩)
 exact uV _ (uV _ ((vX _ _ (xi n)).trans e))
theorem fu.ty {h:Heap}{it d:Addr}{i n ep:Nat}(x:fu h it d i n ep){g d' t os}:(⟨h,g,d',t,os⟩:uZ).TypeIs (.ref it) "dict_itemiterator" := let ⟨_,_,_,_,e⟩:=x;⟨_,e,rfl⟩
theorem tL {it d:Addr}{es:Array DictEntry}{ep i:Nat}{e:DictEntry}{Q:Option uW->uZ->Prop}(hi:fu s.heap it d i es.size ep)(hd:DE s.heap d es ep)(he:es[i]? = some e)
  (hQ:∀(h':Heap) (tk:Nat),fu h' it d (i+1) es.size ep->(∀c o,c≠it->s.heap.get? c=some o->h'.get? c=some o)->h'.get? s.heap.objs.size=some { cls :=.type "tuple",data :=.seq #[e.key,e.val] }->h'.objs.size=s.heap.objs.size+1->Q (some (.ref s.heap.objs.size)) { s with heap:=h',toks:=tk }):vJ (vK prog w) A (pyNext (.ref it)) Q E s:=by
 have ht:=hi.ty (g:=s.gens) (d':=s.drawn) (t:=s.toks) (os:=s.os)
 obtain ⟨a,b,f,g,hi⟩:=hi
 unfold pyNext
 refine uU (xp (wL (name:=Str.ofString "__next__") ht wK (wG wK ht yP (next hi hd he λh' a' b' f' g' tk e1 e2 e3 e4 =>?_) (yK _))))
 exact vg (hQ h' tk ⟨_,_,_,_,e1⟩ e2 e3 e4)
theorem uL {it d:Addr}{es:Array DictEntry}{ep:Nat}{Q:Option uW->uZ->Prop}(hh:A.handled=none)(hi:fu s.heap it d es.size es.size ep)(hd:DE s.heap d es ep)
  (hQ:∀h':Heap,(∀c o,c≠it->s.heap.get? c=some o->h'.get? c=some o)->Q none { s with heap:=h' }):vJ (vK prog w) A (pyNext (.ref it)) Q E s:=by
 have ht:=hi.ty (g:=s.gens) (d':=s.drawn) (t:=s.toks) (os:=s.os)
 obtain ⟨a,b,f,g,hi⟩:=hi
 unfold pyNext
 refine uU (xp (wL (name:=Str.ofString "__next__") ht wK (wG wK ht yP (ended (by first | exact hh | (rw[<- hh];rfl)) hi hd λh' x k ⟨o,ex,ec⟩ =>?_) (yK _))))
 refine uU (yT (T := "StopIteration") (b:=true) ⟨o,ex,ec⟩ Ba ?_)
 exact vg (hQ h' k)
theorem tM {v d:Addr}{es:Array DictEntry}{ep:Nat}{Q:uW->uZ->Prop}(hv:s.heap.IsItemsView v d)(hd:DE s.heap d es ep)
  (hQ:Q (.ref s.heap.objs.size) { s with heap:=s.heap.push (bQ .none (.bool false) .none .none d 0 es.size ep) }):vJ (vK prog w) A (pyIter (.ref v)) Q E s:=by
 refine BK hv.typeIs zL (wG zL hv.typeIs PySem.F.entry_dict_items_iter (made hv hd ?_) (PySem.F.args_dict_items_iter_1 _))
 exact ⟨"dict_itemiterator",_,⟨_,ve _ rfl,rfl⟩,wK.lookup,hQ⟩
end
open PySem PyProof.Rows
section
variable  {prog:vI}{w:wc}{A:v7}{E:uW->uZ->Prop}{s:uZ}
structure Tps (es:Array DictEntry)(lo:Addr)(h:Heap)(as:List Addr):Prop where
 rise:as.Pairwise (· < ·)
 above:∀a∈as,lo<a
 low:∀a∈as,a<h.objs.size
 pairs:∀(j:Nat) (a:Addr),as[j]? = some a->∃e,es[j]? = some e/\h.get? a=some { cls :=.type "tuple",data :=.seq #[e.key,e.val] }
def fO (acc:Array uW)(c:Nat):Obj:={ cls :=.type "list",data :=.seq acc c }
theorem loop {S I d:Addr}{es:Array DictEntry}{ep:Nat}{lo:Addr}{R:Result->uZ->Prop}(hh:A.handled=none)(hSI:S≠I)(hdS:d≠S)(hdI:d≠I)(hlS:S<=lo)(hlI:I<=lo)(hn:es.size<=vm)(res:uW) :
  ∀(k i:Nat) (s:uZ) (as:List Addr) (c:Nat),es.size-i=k->i<=es.size->fu s.heap I d i es.size ep->DE s.heap d es ep->s.heap.get? S=some (fO (as.map vq).toArray c)->as.length=i->Tps es lo s.heap as->lo<s.heap.objs.size →
  (∀(h':Heap) (tk:Nat) (as':List Addr) (c':Nat),(∀b o,b≠S->b≠I->s.heap.get? b=some o->h'.get? b=some o)->h'.get? S=some (fO (as'.map vq).toArray c')->as'.length=es.size->Tps es lo h' as'->R (.ok (.ret res)) { s with heap:=h',toks:=tk }) →
  AE (vK prog w) A (.builtin "list.extend.loop" ⟨[.ref S,.ref I,res],[]⟩) R s:=by
 intro k
 induction k with
 | zero =>
  intro i s as c hk hi hI hD hS hl hT hlo hR
  have e:i=es.size:=by omega
  subst e
  refine xo Al ?_
  rw[w5 xg _]
  unfold Builtin.«list.extend.loop»
  dsimp only
  refine uU (uL (by first | exact hh | (rw[<- hh];rfl)) hI hD λh' k' =>?_)
  refine vg (hR h' s.toks as c (λb o _ n e=>k' b o n e) (k' _ _ hSI hS) hl ⟨hT.rise,hT.above,λa ha =>?_,λj a e =>?_⟩)
  ·obtain ⟨j,hj⟩:=yf ha
   obtain ⟨e,_,e2⟩:=hT.pairs j a hj
   exact vh (k' a _ (xw (wI hlI (hT.above a ha))) e2)
  ·obtain ⟨x,e1,e2⟩:=hT.pairs j a e
   exact ⟨x,e1,k' a _ (xw (wI hlI (hT.above a (vf e)))) e2⟩
 | succ k ih =>
  intro i s as c hk hi hI hD hS hl hT hlo hR
  obtain ⟨e,he⟩:∃e,es[i]? = some e:=⟨es[i]'(by omega),yO (by omega)⟩
  refine xo Al ?_
  rw[w5 xg _]
  unfold Builtin.«list.extend.loop»
  dsimp only
  refine uU (tL hI hD he λh' tk I' k' e' z' =>?_)
  have hS':=k' _ _ hSI hS
  refine uU (yp (xs:=(as.map vq).toArray) (n:=c) hS' rfl ?_ ?_ ?_)
  ·have hS2:=vW (vV (·.push (vq s.heap.objs.size))) hS' rfl
   have oth:∀b o,b≠S->h'.get? b=some o->(h'.update S (vV (·.push (vq s.heap.objs.size)))).get? b=some o:=λb o n e=>(vX _ _ (xi n)).trans e
   have sz:(h'.update S (vV (·.push (vq s.heap.objs.size)))).objs.size=h'.objs.size:=by simp
   have nS:s.heap.objs.size≠S:=xw (wI hlS hlo)
   obtain ⟨c',ec⟩:∃c',(h'.update S (vV (·.push (vq s.heap.objs.size)))).get? S=some (fO ((as++[s.heap.objs.size]).map vq).toArray c'):=by
    rw[show ((as++[s.heap.objs.size]).map vq).toArray=(as.map vq).toArray.push (vq s.heap.objs.size) by simp]
    exact ⟨_,hS2⟩
   refine vg ⟨yG xg _,ih (i+1) _ (as++[s.heap.objs.size]) c' (by omega) (by omega) ?_ ?_ ec (by rw[u9,hl];rfl) ⟨?_,?_,?_,?_⟩ (by rw[sz,z'];exact yh hlo) λh2 tk2 as2 c2 k2 e2 l2 T2=>hR h2 tk2 as2 c2 (λb o n1 n2 eb=>k2 b o n1 n2 (oth b o n1 (k' b o n2 eb))) e2 l2 T2⟩
   ·obtain ⟨a,b,f,g,ei⟩:=I'
    exact ⟨a,b,f,g,oth _ _ (xi hSI) ei⟩
   ·obtain ⟨o,h1,h2⟩:=hD
    exact ⟨o,oth _ _ hdS (k' _ _ hdI h1),h2⟩
   ·refine wd.mpr ⟨hT.rise,wz _ _,λx hx y hy =>?_⟩
    rw[vA.mp hy]
    exact hT.low x hx
   ·intro a ha
    rcases vx.mp ha with y | y
    ·exact hT.above a y
    ·rw[vA.mp y];exact hlo
   ·intro a ha
    rw[sz,z']
    rcases vx.mp ha with y | y
    ·exact yh (hT.low a y)
    ·rw[vA.mp y];exact BS _
   ·intro j a ha
    by_cases hj:j<as.length
    ·rw[yL hj] at ha
     obtain ⟨x,e1,e2⟩:=hT.pairs j a ha
     have ab:=hT.above a (vf ha)
     exact ⟨x,e1,oth _ _ (xw (wI hlS ab)) (k' _ _ (xw (wI hlI ab)) e2)⟩
    ·have hj2:j=i:=by
      have:=(vb.mp ha).1
      rw[u9,wx] at this
      omega
     rw[yH (by omega),hj2,hl,Nat.sub_self] at ha
     cases ha
     exact ⟨e,hj2 ▸ he,oth _ _ nS e'⟩
  ·rw[u0,uT];omega
  ·show ((as.map vq).toArray.push _).size<=_
   rw[xQ,u0,uT];omega
theorem extend {S v d:Addr}{es:Array DictEntry}{ep:Nat}{R:Result->uZ->Prop}(hh:A.handled=none)(hv:s.heap.IsItemsView v d)(hd:DE s.heap d es ep)(hn:es.size<=vm)(res:uW)(c:Nat)(hS:s.heap.get? S=some (fO #[] c))(hSv:S≠v)(hdS:d≠S)
  (hR:∀(h':Heap) (tk:Nat) (as':List Addr) (c':Nat),(∀b o,b≠S->s.heap.get? b=some o->h'.get? b=some o)->h'.get? S=some (fO (as'.map vq).toArray c')->as'.length=es.size->Tps es s.heap.objs.size h' as'->R (.ok (.ret res)) { s with heap:=h',toks:=tk }) :
  vJ (vK prog w) A.in1 (wm (.ref S) (.ref v) res)
   (λfin s'=>match fin with | .done f=>R (.ok f) s' | .again c'=>c'.quiet=true/\AE (vK prog w) A c' R s') (λe s'=>R (.error e) s') s:=by
 have sameF:yl (.ref S) (.ref v)=false:=by simp[yl,hSv]
 unfold wm
 refine uU (zB (T := "dict_items") hv.typeIs ?_)
 rw[sameF]
 refine wB (λq=>absurd q (by decide +kernel)) λ_ =>?_
 refine uU (tM hv hd ?_)
 have kp:∀b o,s.heap.get? b=some o->(s.heap.push (bQ .none (.bool false) .none .none d 0 es.size ep)).get? b=some o:=λb o e=>uV _ e
 have hT:(⟨s.heap.push (bQ .none (.bool false) .none .none d 0 es.size ep),s.gens,s.drawn,s.toks,s.os⟩:uZ).TypeIs (.ref v) "dict_items" := let ⟨o,e,c,_⟩:=hv;⟨o,kp _ _ e,c⟩
 refine uU (xK (PySem.W.kdx_hint hT ?_))
 refine wB (λ_ =>?_) λq=>absurd (by decide +kernel) q
 obtain ⟨od,hod,hdd⟩:=hd
 have hSp:=kp _ _ hS
 unfold fO at hSp
 have t1:=vW (vV (·.push xq)) hSp rfl
 have t2:=vW (vV (·.pop)) t1 rfl
 have up:∀b o,b≠S->s.heap.get? b=some o->(((s.heap.push (bQ .none (.bool false) .none .none d 0 es.size ep)).update S (vV (·.push xq))).update S (vV (·.pop))).get? b=some o:=λb o n e=>by
  rw[vX _ _ (xi n),vX _ _ (xi n)];exact kp b o e
 have nI:S≠s.heap.objs.size:=vH (vh hS)
 wp_walk
 obtain ⟨c2,ec2⟩:∃c2,(((s.heap.push (bQ .none (.bool false) .none .none d 0 es.size ep)).update S (vV (·.push xq))).update S (vV (·.pop))).get? S=some (fO #[] c2):=⟨_,t2⟩
 have hI2:(((s.heap.push (bQ .none (.bool false) .none .none d 0 es.size ep)).update S (vV (·.push xq))).update S (vV (·.pop))).get? s.heap.objs.size=some (bQ .none (.bool false) .none .none d 0 es.size ep):=by
  rw[vX _ _ nI,vX _ _ nI];exact ve _ rfl
 exact ⟨yG xg _,loop (ep:=ep) (lo:=s.heap.objs.size) hh nI hdS (vH (vh hod)) (ym (vh hS)) (va _) hn res es.size 0 _ [] c2 rfl (vY _) ⟨_,_,_,_,hI2⟩ ⟨od,up _ _ hdS hod,hdd⟩ ec2 rfl ⟨List.Pairwise.nil,λa ha=>(by cases ha),λa ha=>(by cases ha),λj a e=>(by cases e)⟩ (by simp) λh' tk as' c' k' e' l' T'=>hR h' tk as' c' (λb o n e=>k' b o n (vH (vh e)) (up _ _ n e)) e' l' T'⟩
theorem uM {v d:Addr}{es:Array DictEntry}{ep:Nat}{R:Result->uZ->Prop}(hh:A.handled=none)(hv:s.heap.IsItemsView v d)(hd:DE s.heap d es ep)(hn:es.size<=vm)
  (h:∀(h':Heap) (tk:Nat) (as:List Addr) (c':Nat),(∀b o,s.heap.get? b=some o->h'.get? b=some o)->h'.get? s.heap.objs.size=some (fO (as.map vq).toArray c')->as.length=es.size->Tps es s.heap.objs.size h' as->R (.ok (.ret (.ref s.heap.objs.size))) { s with heap:=h',toks:=tk }):AE (vK prog w) A (.builtin "proto.collect" ⟨[.ref v],[]⟩) R s:=by
 have kp:∀b o,s.heap.get? b=some o->(s.heap.push (fO #[] 0)).get? b=some o:=λb o e=>uV _ e
 have lv:v<s.heap.objs.size:=let ⟨_,e,_⟩:=hv;vh e
 have ld:d<s.heap.objs.size:=let ⟨_,e,_⟩:=hd;vh e
 refine xo yz ?_
 rw[w5 yA _]
 unfold Builtin.«proto.collect»
 wp_walk
 have hv':(s.heap.push (fO #[] 0)).IsItemsView v d:=let ⟨o,e,r⟩:=hv;⟨o,kp _ _ e,r⟩
 have hd':DE (s.heap.push (fO #[] 0)) d es ep:=let ⟨o,e,r⟩:=hd;⟨o,kp _ _ e,r⟩
 refine ⟨yG xn _,xo zd ?_⟩
 rw[w5 xn _]
 have up:s.heap.objs.size<=(s.heap.push (fO #[] 0)).objs.size:=by simp
 exact extend (R:=R) (s:={ s with heap:=s.heap.push (fO #[] 0) }) hh hv' hd' hn (.ref s.heap.objs.size) 0 (ve _ rfl) (xw lv) (vH ld) λh' tk as c' k' e' l' T'=>h h' tk as c' (λb o e=>k' b o (vH (vh e)) (kp b o e)) e' l' ⟨T'.rise,λa ha=>wI up (T'.above a ha),T'.low,T'.pairs⟩
theorem collect {v d:Addr}{es:Array DictEntry}{ep:Nat}{R:List uW->uZ->Prop}(hh:A.handled=none)(hv:s.heap.IsItemsView v d)(hd:DE s.heap d es ep)(hn:es.size<=vm)
  (h:∀(h':Heap) (tk:Nat) (as:List Addr),(∀b o,s.heap.get? b=some o->h'.get? b=some o)->as.length=es.size->Tps es s.heap.objs.size h' as->s.heap.objs.size<h'.objs.size->R (as.map vq) { s with heap:=h',toks:=tk }):vJ (vK prog w) A (PySem.collect (.ref v)) R E s:=by
 unfold PySem.collect
 refine uU (Am (uM hh hv hd hn λh' tk as c' k' e' l' T' =>?_))
 refine uU (A4 e' ?_)
 exact vg (h h' tk as k' l' T' (vh e'))
end
end Itm
namespace Srt
open PySem PyProof.Rows
def qLt (a b:List Int×Int):Bool:=if a.1=b.1 then decide (a.2<b.2) else HT.lexLt a.1 b.1
theorem lG (a:List Int×Int):qLt a a=false:=by unfold qLt;rw[if_pos rfl];exact decide_eq_false (by omega)
theorem i7 (a b c:List Int×Int)(h1:qLt a b=true)(h2:qLt b c=true):qLt a c=true:=by
 unfold qLt at *
 by_cases e1:a.1=b.1
 ·rw[if_pos e1] at h1
  by_cases e2:b.1=c.1
  ·rw[if_pos e2] at h2
   rw[if_pos (e1.trans e2)]
   have:=of_decide_eq_true h1
   have:=of_decide_eq_true h2
   exact decide_eq_true (by omega)
  ·rw[if_neg e2] at h2
   rw[if_neg (λz=>e2 (e1.symm.trans z)),e1];exact h2
 ·rw[if_neg e1] at h1
  by_cases e2:b.1=c.1
  ·rw[if_neg (λz=>e1 (z.trans e2.symm)), <- e2];exact h1
  ·rw[if_neg e2] at h2
   have h3:=lex_trans _ _ _ h1 h2
   rw[if_neg (λz =>?_)]
   ·exact h3
   ·rw[z,lex_irrefl] at h3;cases h3
theorem fP (a b:List Int×Int)(h1:qLt a b=false)(h2:qLt b a=false):a=b:=by
 unfold qLt at *
 by_cases e:a.1=b.1
 ·rw[if_pos e] at h1
  rw[if_pos e.symm] at h2
  have:=of_decide_eq_false h1
  have:=of_decide_eq_false h2
  exact CN e (by omega)
 ·rw[if_neg e] at h1
  rw[if_neg (λz=>e z.symm)] at h2
  exact absurd (cT _ _ h1 h2) e
theorem rf (a b c:List Int×Int)(h:qLt a c=true):qLt a b=true\/qLt b c=true:=by
 by_cases h1:qLt a b=true
 ·exact .inl h1
 ·right
  have h1:qLt a b=false:=zr.mpr h1
  by_cases h2:qLt b a=true
  ·exact i7 _ _ _ h2 h
  ·rw[<- fP a b h1 (zr.mpr h2)];exact h
def p6:zJ where
 α:=List Int×Int
 blt:=qLt
 irrefl:=lG
 trans:=i7
 negTrans:=rf
 total:=fP
def de (h:Heap)(v:uW):List Int×Int:=match v with
 | .ref p=>match h.get? p with
  | some o=>match o.data with
   | .seq xs _=>(cD h (xs.toList.getD 0 .none),intOf (xs.toList.getD 1 .none))
   | _=>([],0)
  | none=>([],0)
 | _=>([],0)
def fv (h:Heap)(v:uW)(k:List Int×Int):Prop:=∃p o xs n a t,v = .ref p/\h.get? p=some o/\o.cls = .type "tuple" /\ o.data = .seq xs n/\xs.toList=[.ref a,.int k.2 t]/\aW h (.ref a) k.1
theorem fv.key {h:Heap}{v:uW}{k:List Int×Int}(x:fv h v k):de h v=k:=by
 obtain ⟨p,o,xs,n,a,t,rfl,e,_,d,r,i1⟩:=x
 unfold de
 dsimp only
 rw[e]
 dsimp only
 rw[d]
 dsimp only
 rw[r]
 exact CN i1.ints rfl
theorem fv.keeps {h h':Heap}{v:uW}{k:List Int×Int}(x:fv h v k)(kp:∀b o,h.get? b=some o->h'.get? b=some o):fv h' v k:=by
 obtain ⟨p,o,xs,n,a,t,rfl,e,c,d,r,i1⟩:=x
 exact ⟨p,o,xs,n,a,t,rfl,kp _ _ e,c,d,r,i1.keeps kp⟩
theorem gf {h:Heap}:∀{vs:List uW},(∀v∈vs,∃k,fv h v k)->∃fs,PySem.W.KatTups h vs fs/\fs.length=vs.length/\∀f∈fs,∃a ns,f = .ref a/\aW h f ns
 | [],_=>⟨[],trivial,rfl,λf hf=>by cases hf⟩
 | v :: vs,hv=>by
  obtain ⟨fs,t,l,hf⟩:=gf λu hu=>hv u (vG _ hu)
  obtain ⟨k,p,o,xs,n,a,_,rfl,e,c,d,r,i1⟩:=hv v vC
  have hx:xs[0]? = some (.ref a):=by rw[<- vv,r];rfl
  exact ⟨.ref a :: fs,CI e c d hx t,by rw[vT,vT,l],λf hf'=>by
   rcases vM.mp hf' with q | q
   ·exact ⟨a,_,q,q ▸ i1⟩
   ·exact hf f q⟩
section
variable  {prog:vI}{w:wc}{s:uZ}
theorem jx {vs:List uW}(hv:∀v∈vs,∃k,fv s.heap v k)(h2:2<=vs.length)(A:v7)(h6:Heap)(hu:A.units<cLine)(k6:∀b o,s.heap.get? b=some o->h6.get? b=some o):∃κ,(∀(Q:SortKind->uZ->Prop) (E:uW->uZ->Prop),Q κ { s with heap:=h6 }->vJ (vK prog w) A (keyKind' vs.toArray) Q E { s with heap:=h6 }) ∧
  Cmp prog w A { s with heap:=h6 } p6 (λp=>de s.heap p.1) (λp=>p.1=p.2/\p.1∈vs) κ:=by
 refine ⟨tuples' false,λQ E q =>?_,⟨λE st x y Q hk hx hy q =>?_⟩⟩
 ·obtain ⟨fs,t,l,hf⟩:=gf (h:=h6) (vs:=vs) λv hv'=>by
   obtain ⟨k,i⟩:=hv v hv'
   exact ⟨k,i.keeps k6⟩
  refine PySem.W.kat_kind (T :=.type "tuple") t (by omega) (λf hf' =>?_) rfl q
  obtain ⟨a,ns,rfl,p,o,xs,n,e,g,c,d,r⟩:=hf f hf'
  cases e
  have L:PySem.W.Looks (vK prog w) h6 (typeOf (.ref a)) o.cls:=(AJ g).andThen .now
  rw[c] at L
  exact L
 ·obtain ⟨k1,i1⟩:=hv _ hx.2
  obtain ⟨k2,i2⟩:=hv _ hy.2
  have q':Q (some (qLt (de s.heap x.1) (de s.heap y.1))) st:=q
  rw[i1.key,i2.key] at q'
  obtain ⟨p1,o1,xs1,n1,a1,t1,e1,g1,c1,d1,r1,u1⟩:=i1.keeps k6
  obtain ⟨p2,o2,xs2,n2,a2,t2,e2,g2,c2,d2,r2,u2⟩:=i2.keeps k6
  rw[lt'_eq]
  refine vt (zW ?_)
  rw[hk,e1,e2]
  refine vt (Ad (xp (PySem.W.kat_lt g1 d1 g2 d2 ?_)))
  rw[r1,r2]
  obtain ⟨j1,w1,z1⟩:=u1.isTup
  obtain ⟨j2,w2,z2⟩:=u2.isTup
  have sz:decide (xs1.size<xs2.size)=false:=decide_eq_false (by rw[<- vo, <- vo,r1,r2];exact wX _)
  rw[sz]
  refine B2 (nZ hu u1 u2 _ _ _ _ ?_)
  unfold qLt at q'
  by_cases e:k1.1=k2.1
  ·rw[if_pos e] at q'
   rw[decide_eq_true e]
   refine Cb (B2 (wpAny_eqBool_int ?_))
   by_cases e':k1.2=k2.2
   ·rw[beq_iff_eq.mpr e']
    refine Cb (PySem.W.kat_nil ⟨rfl,vB ?_⟩)
    rw[e',decide_eq_false (by omega)] at q';exact q'
   ·rw[beq_eq_false_iff_ne.mpr e']
    exact Cq (Cc _ _ (HT.jS _ _ _ _ _ _ _ _ _ _ ⟨rfl,vB q'⟩))
  ·rw[if_neg e] at q'
   rw[decide_eq_false e]
   exact Cq (Cc _ _ (HT.kW w1 w2 z1 z2 hu ⟨rfl,vB q'⟩))
theorem ku {A:v7}{E:uW->uZ->Prop}{O:zJ}{key:Heap->uW->O.α}{v:uW}{Q:uW->uZ->Prop}{J:Heap->List uW->Prop}
  (hv:∀(B:v7) (E:uW->uZ->Prop) (R:List uW->uZ->Prop),B.handled=A.handled->(∀h1 tk vs,(∀b o,s.heap.get? b=some o->h1.get? b=some o)->s.heap.objs.size<=h1.objs.size->J h1 vs->R vs { s with heap:=h1,toks:=tk })->vJ (vK prog w) B (collect v) R E s)
  (hz:∀h1 vs,J h1 vs->vs.length<=vm)
  (C:∀h1 tk vs,J h1 vs->2<=vs.length->∀(B:v7) (h6:Heap),B.units<=A.units+6->(∀b o,h1.get? b=some o->h6.get? b=some o)->∃κ,(∀(Q:SortKind->uZ->Prop) (E:uW->uZ->Prop),Q κ { s with heap:=h6,toks:=tk }->vJ (vK prog w) B (keyKind' vs.toArray) Q E { s with heap:=h6,toks:=tk }) ∧
   Cmp prog w B { s with heap:=h6,toks:=tk } O (λp=>key h1 p.1) (λp=>p.1=p.2/\p.1∈vs) κ)
  (h:∀(h1 h':Heap) (tk:Nat) (p:Addr) (vs out:List uW) (n:Nat),(∀b o,s.heap.get? b=some o->h1.get? b=some o)->s.heap.objs.size<=h1.objs.size->J h1 vs->(∀b o,h1.get? b=some o->h'.get? b=some o)->h1.objs.size<=p->h'.get? p=some (seqObj "list" out.toArray n)->out.Perm vs->out.Pairwise (λx y=>O.kle (key h1 x) (key h1 y))->Q (.ref p) { s with heap:=h',toks:=tk }) :
  vJ (vK prog w) A (call (.builtin "sorted") [v]) Q E s:=by
 refine Ak Ce BO BP (args_sorted1 _) ?_
 unfold Builtin.«sorted»
 refine uU (m:=checkCount "sorted" 1 1 _) (vg ?_)
 refine uU (hv _ _ _ rfl λh1 tk vs k1 z1 j1=>uU (zj ?_ (hz h1 vs j1)))
 have hoL:(h1.push (seqObj "list" vs.toArray 0)).get? h1.objs.size=some (seqObj "list" vs.toArray 0):=ve _ rfl
 have kL:∀b o,h1.get? b=some o->(h1.push (seqObj "list" vs.toArray 0)).get? b=some o:=λb o e=>uV _ e
 refine uU (xK (wG slot_list_sort ⟨_,hoL,rfl⟩ entry_list_sort (eC (key:=key h1) (O:=O) hoL (hz h1 vs j1) (λh2 h6 k6 =>?_) λout pm ps=>⟨_,rfl,?_⟩) (args_list_sort _)))
 ·refine C h1 tk vs j1 h2 _ h6 ?_ λb o e=>k6 b o (vH (vh e)) (kL b o e)
  simp only[yS]
  omega
 ·obtain ⟨n,en⟩:=sortedHeap_at (out:=out.toArray) hoL
  refine vg ⟨_,rfl,h h1 _ tk _ vs out n k1 z1 j1 (λb o e =>?_) (va _) en pm ps⟩
  have lt:=vh e
  rw[sortedHeap_old (vH lt) (by rw[BI];exact yh lt)]
  exact kL b o e
end
end Srt
namespace L2
open PySem PySem.Spec PyProof.Rows Srt
section
variable  {X:Cx}
def fQ (p a:Addr):HO :=.ext λh=>h.IsItemsView p a
theorem og {prog:vI}{w:wc}{H:Hp}{h:Heap}{p a:Addr}(v:h.IsItemsView p a):aT prog w (upd H p (fQ p a)) h p (fQ p a):=by
 refine ⟨v,?_,λh1 h2 ⟨o,ho,x⟩ k=>⟨o,k o ho,x⟩⟩
 obtain ⟨o,ho,_⟩:=v
 exact ⟨_,ho⟩
theorem jy {prog:vI}{w:wc}(d:Addr)(hd:(d == sysModules)=false) :
  MeetsIn prog w (Builtin.«dict.items» ⟨[.ref d],[]⟩) (λ_ R s=>s.TypeIs (.ref d) "dict" ∧
   R (.ok (.ret (.ref s.heap.objs.size))) { s with heap:=s.heap.push { cls :=.type "dict_items",data :=.fields #[.ref d] } }) :=
 .of_wp λA R s ⟨hT,h⟩=>by
  unfold Builtin.«dict.items»
  refine uU ?_
  unfold Builtin.Dict.noArgs
  refine uU (wpAny_notOrdered_dict hT ?_)
  refine vg ?_
  show vJ _ _ (Builtin.Dict.showsAll d >>= _) _ _ s
  unfold Builtin.Dict.showsAll
  rw[if_neg (by rw[hd];exact vp)]
  refine uU (vg ?_)
  exact uU (wU (vg ⟨_,rfl,h⟩))
theorem i8:MtR X "dict.items" (λx vs H Q=>∃(a:Addr) (kvs:List (List Key×V)),x = .ref a/\vs=[]/\H a=some (.dT kvs)/\∀p,H p=none->Q (.ref p) (upd H p (fQ p a))):=by
 intro pins s σ H x vs v us Q I rx rv h
 obtain ⟨a,kvs,rfl,rfl,ha,q⟩:=h
 cases rx
 cases rv
 obtain ⟨z,hd,xs,rel,dd⟩:=pH I.hok ha
 refine call_meetsIn zf dd.typeIs PySem.F.entry_dict_items (PySem.F.args_dict_items_1 _) (jy a hd) ⟨dd.typeIs,?_⟩
 exact ⟨.ref s.heap.objs.size,_,I.laid (λb o e=>uV _ e) (va _) (og ⟨_,ve _ rfl,rfl,rfl⟩),rfl,q _ (I.hok.fresh (va _))⟩
def many (H:Hp)(ps:List (Addr×HO)):Hp:=λb=>match ps.lookup b with
 | some o=>some o
 | none=>H b
theorem fw {H:Hp}{ps:List (Addr×HO)}{n:Nat}(f:∀p∈ps,n<=p.1){b:Addr}(h:b<n):many H ps b=H b:=by
 unfold many
 cases e:ps.lookup b with
 | none=>rfl
 | some o =>
  have:b∈ps.map (·.1):=by
   induction ps with
   | nil=>cases e
   | cons p t ih =>
    rw[wk] at e
    by_cases c:(b == p.1)=true
    ·rw[vw];exact vM.mpr (.inl (by simpa using c))
    ·rw[zr.mpr c] at e
     exact vG _ (ih (λq hq=>f q (vG _ hq)) e)
  obtain ⟨p,hp,rfl⟩:=wq.mp this
  exact absurd (f p hp) (Nat.not_le.mpr h)
theorem gS {H:Hp}:∀{ps:List (Addr×HO)},(ps.map (·.1)).Nodup->∀p∈ps,many H ps p.1=some p.2
 | [],_,p,h=>by cases h
 | q :: t,nd,p,h=>by
  rw[vw] at nd
  obtain ⟨nq,nt⟩:=xc.mp nd
  rcases vM.mp h with z | z
  ·subst z
   unfold many
   rw[wk,show (p.1 == p.1)=true from beq_self_eq_true _]
  ·have ne:p.1≠q.1:=λe=>nq (e ▸ wq.mpr ⟨p,z,rfl⟩)
   have:=gS (H:=H) nt p z
   unfold many at this ⊢
   rw[wk,show (p.1 == q.1)=false from beq_eq_false_iff_ne.mpr ne]
   exact this
theorem rh {H:Hp}{ps:List (Addr×HO)}{b:Addr}{o:HO}(h:many H ps b=some o):(∃p∈ps,p.1=b/\p.2=o)\/H b=some o:=by
 unfold many at h
 cases e:ps.lookup b with
 | none=>rw[e] at h;exact .inr h
 | some u =>
  rw[e] at h
  left
  have:u=o:=vR h
  subst this
  clear h
  induction ps with
  | nil=>cases e
  | cons p t ih =>
   rw[wk] at e
   by_cases c:(b == p.1)=true
   ·rw[c] at e
    exact ⟨p,vC,(by simpa using c:b=p.1).symm,vR e⟩
   ·rw[zr.mpr c] at e
    obtain ⟨q,hq,r⟩:=ih e
    exact ⟨q,vG _ hq,r⟩
theorem Inv.uN {pins:List (Addr×Obj)}{σ:St}{H:Hp}{s:uZ}{h':Heap}{ps:List (Addr×HO)}{t':Nat}(I:Inv X pins σ H s)(k:∀b u,s.heap.get? b=some u->h'.get? b=some u)(hp:∀p∈ps,s.heap.objs.size<=p.1)
  (new:∀p∈ps,aT X.prog X.w (many H ps) h' p.1 p.2):Inv X pins σ (many H ps) { s with heap:=h',toks:=t' }:=by
 have lt:∀{b:Addr} {o:HO},H b=some o->b<s.heap.objs.size:=λ{b o} e=>by
  apply Classical.byContradiction
  intro n
  rw[I.hok.fresh (BR n)] at e;cases e
 have old:∀{b:Addr} {o:HO},H b=some o->many H ps b=some o:=λe=>by rw[fw hp (lt e)];exact e
 refine I.un ⟨λb u q _ _ _=>k b u q,λb u q _ _ _=>⟨u.slots,k b u q⟩,λb u q n _=>by rw[fw hp (vh q)];exact n,λb u q _=>⟨u,k b u q⟩,λb xs q=>old q,λb u xs q=>old q,λb ps' q=>⟨#[],by rw[old q];simp⟩⟩ λb u e =>?_
 rcases rh e with ⟨p,m,rfl,rfl⟩ | e
 ·exact new p m
 ·exact (I.hok b u e).stay (λc v _ q=>k c v q) (λc q=>old q) λc xs q=>old q
def cV (H:Hp)(out:List (Addr×(Addr×List Int)×Int)):Prop:=∀o∈out,H o.1=some (.tup [.ref o.2.1.1,.int o.2.2])/\H o.2.1.1=some (.tup (o.2.1.2.map V.int))
def aQ (o:Addr×(Addr×List Int)×Int):List Int×Int:=(o.2.1.2,o.2.2)
structure Col (n:Nat)(H:Hp)(es:List (List Int×Int))(h1:Heap)(T:List (Addr×(Addr×List Int)×Int)):Prop where
 is:T.map aQ=es
 nd:(T.map (·.1)).Nodup
 row:∀t∈T,n<=t.1/\H t.2.1.1=some (.tup (t.2.1.2.map V.int))/\∃tk,h1.get? t.1=some { cls :=.type "tuple",data :=.seq #[.ref t.2.1.1,.int t.2.2 tk] }
theorem p7 {H:Hp}{n:Nat}{h1:Heap}:∀{es:List (List Int×Int)} {xs:List (List Key×Addr×uW)} {as:List Addr},Paired (λ(p:List Key×V) (q:List Key×Addr×uW)=>p.1=q.1/\H q.2.1=some (.tup (p.1.map kV))/\RelV p.2 q.2.2) (es.map λe=>(e.1.map Sum.inl,V.int e.2)) xs->as.length=xs.length->as.Pairwise (· < ·)->(∀a∈as,n<a) →
  (∀(j:Nat) a,as[j]? = some a->∃x,xs[j]? = some x/\h1.get? a=some { cls :=.type "tuple",data :=.seq #[.ref x.2.1,x.2.2] })->∃T,Col n H es h1 T/\T.map (·.1)=as
 | [],_,as,.nil,l,_,_,_=>by
  have:as=[]:=List.eq_nil_of_length_eq_zero l
  subst this
  exact ⟨[],⟨rfl,zv,λt h=>by cases h⟩,rfl⟩
 | e :: es,x :: xs,[],.cons _ _,l,_,_,_=>by cases l
 | e :: es,x :: xs,a :: as,.cons h t,l,rs,ab,g=>by
  obtain ⟨ra,rs⟩:=yv.mp rs
  obtain ⟨T,c,eT⟩:=p7 t (Nat.succ.inj l) rs (λb hb=>ab b (vG _ hb)) λj b hb=>by
   obtain ⟨y,h1,h2⟩:=g (j+1) b (by simpa using hb)
   exact ⟨y,by simpa using h1,h2⟩
  obtain ⟨y,h1,h2⟩:=g 0 a rfl
  have:x=y:=by simpa using h1
  subst this
  obtain ⟨k1,k2,tk,k3⟩:=h
  rw[k3] at h2
  refine ⟨(a,(x.2.1,e.1),e.2) :: T,⟨by rw[vw,c.is];rfl,?_,λu hu =>?_⟩,by rw[vw,eT]⟩
  ·rw[vw,eT]
   exact xc.mpr ⟨λhm=>wX _ (ra a hm),by exact rs.imp λ{a b} h=>vH h⟩
  ·rcases vM.mp hu with z | z
   ·subst z
    refine ⟨ym (ab a vC),?_,tk,h2⟩
    have:=k2
    rw[v9] at this
    exact this
   ·exact c.row u z
theorem eE (hh:X.A.handled=none)(hu:X.A.units+8<cLine):bY X (.builtin "sorted") (λxs H Q=>∃(p a:Addr) (es:List (List Int×Int)),xs=[.ref p]/\H p=some (fQ p a)/\H a=some (.dT (es.map λe=>(e.1.map Sum.inl,V.int e.2))) ∧
  ∀(l:Addr) (out:List (Addr×(Addr×List Int)×Int)) (H':Hp),aD H H'->H l=none->H' l=some (.lst (out.map λo =>.ref o.1))->cV H' out->(out.map aQ).Perm es->(out.map aQ).Pairwise (λx y=>qLt y x=false)->Q (.ref l) H'):=by
 intro pins s σ H xs us Q I r h
 obtain ⟨p,a,es,rfl,hp,ha,q⟩:=h
 obtain ⟨u,rfl,ru⟩:=vals1 r
 cases (show u=vq p from ru)
 obtain ⟨kv,_,_⟩:=(show aT X.prog X.w H s.heap p (fQ p a) from I.hok p _ hp)
 obtain ⟨z,hd,xs,rel,dd⟩:=pH I.hok ha
 obtain ⟨o,ees,ep,ho,hc,hdat,hent,_⟩:=id dd
 have lx:(es.map λe=>((e.1.map Sum.inl:List Key),V.int e.2)).length=xs.length:=y2 rel
 rw[uT] at lx z
 have DA:Itm.DE s.heap a ees ep:=⟨o,ho,hdat⟩
 have lees:ees.size=xs.length:=by
  have:=congrArg List.length hent
  simpa using this
 have tI:∀{a:Addr} {ns:List Int},H a=some (.tup (ns.map V.int))->Srt.aW s.heap (vq a) ns:=λ{a ns} h=>by
  obtain ⟨jts,jr,⟨jo,je,jc,jn,jd⟩,_⟩:=I.tuple (SqT.of h)
  exact ⟨a,jo,_,jn,rfl,je,jc,jd,by simpa using fi jr⟩
 refine Srt.ku (O:=Srt.p6) (key:=λh v=>Srt.de h v) (J:=λh1 vs=>(∀b o,s.heap.get? b=some o->h1.get? b=some o)/\∃T,Col s.heap.objs.size H es h1 T/\vs=T.map λt=>vq t.1) (λB E R hB hR =>?_) (λh1 vs ⟨_,T,c,e⟩ =>?_) (λh1 tk vs ⟨k1,T,c,e⟩ h2 B h6 hB k6 =>?_) λh1 h' tk l vs out n k1 z1 ⟨_,T,c,ev⟩ k' hl el pm ps =>?_
 ·refine Itm.collect (by rw[hB];exact hh) kv DA (by omega) λh1 tk as k1 la G zz =>?_
  rw[lees] at la
  obtain ⟨T,c,eT⟩:=p7 (n:=s.heap.objs.size) (h1:=h1) rel la G.rise G.above λj b hb=>by
   obtain ⟨e,e1,e3⟩:=G.pairs j b hb
   rw[<- vv,hent,vi] at e1
   cases hx:xs[j]? with
   | none=>rw[hx] at e1;cases e1
   | some y =>
    rw[hx] at e1
    have e1:=vR e1
    subst e1
    exact ⟨y,rfl,e3⟩
  refine hR h1 tk _ k1 (ym zz) ⟨k1,T,c,?_⟩
  rw[<- eT,v9];rfl
 ·rw[e,uT]
  have:=congrArg List.length c.is
  rw[uT] at this
  omega
 ·have hv:∀v∈vs,∃k,Srt.fv h1 v k:=λv hv=>by
   rw[e] at hv
   obtain ⟨t,ht,rfl⟩:=wq.mp hv
   obtain ⟨_,h2,tk,h3⟩:=c.row t ht
   exact ⟨(t.2.1.2,t.2.2),t.1,_,_,0,t.2.1.1,tk,rfl,h3,rfl,rfl,rfl,(tI h2).keeps k1⟩
  exact Srt.jx (s:={ s with heap:=h1,toks:=tk }) hv h2 B h6 (by omega) k6
 ·rw[ev] at pm
  obtain ⟨out',pm',rfl⟩:=eM pm
  have sub:∀t∈out',t∈T:=λt ht=>pm'.mem_iff.mp ht
  have hlt:∀t∈T,t.1<h1.objs.size:=λt ht=>by
   obtain ⟨_,_,_,h3⟩:=c.row t ht
   exact vh h3
  have nd:(((l,HO.lst (out'.map λo=>V.ref o.1)) :: T.map λt=>(t.1,HO.tup [.ref t.2.1.1,.int t.2.2])).map (·.1)).Nodup:=by
   rw[vw,v9]
   refine xc.mpr ⟨λhm =>?_,c.nd⟩
   obtain ⟨t,ht,e⟩:=wq.mp hm
   have e:t.1=l:=e
   exact absurd hl (Nat.not_le.mpr (e ▸ hlt t ht))
  have fr:∀p∈(l,HO.lst (out'.map λo=>V.ref o.1)) :: T.map λt=>(t.1,HO.tup [.ref t.2.1.1,.int t.2.2]),s.heap.objs.size<=p.1:=λp hp=>by
   rcases vM.mp hp with y | y
   ·rw[y];exact vP z1 hl
   ·obtain ⟨t,ht,rfl⟩:=wq.mp y
    exact (c.row t ht).1
  have lo:out'.length<=vm:=by
   rw[pm'.length_eq]
   have:=congrArg List.length c.is
   rw[uT] at this
   omega
  have IM:=I.uN (t':=tk) (λb u e=>k' b u (k1 b u e)) fr λp hp=>by
   rcases vM.mp hp with y | y
   ·rw[y]
    exact ⟨by rw[uT];exact lo,_,n,dU,el⟩
   ·obtain ⟨t,ht,rfl⟩:=wq.mp y
    obtain ⟨_,_,tk,h3⟩:=c.row t ht
    exact ⟨by show 2<=vm;decide,[.ref t.2.1.1,.int t.2.2 tk],.cons rfl (.cons ⟨tk,rfl⟩ .nil),_,k' _ _ h3,⟨rfl,rfl⟩,0,rfl⟩
  refine ⟨.ref l,_,IM,rfl,q l out' _ (λb o e =>?_) (I.hok.fresh (vP z1 hl)) (gS nd _ vC) (λt ht =>?_) ?_ ?_⟩
  ·rw[fw fr (B3 λn=>by rw[I.hok.fresh n] at e;cases e)];exact e
  ·refine ⟨gS nd _ (vG _ (wq.mpr ⟨t,sub t ht,rfl⟩)),?_⟩
   have e:=(c.row t (sub t ht)).2.1
   rw[fw fr (B3 λn=>by rw[I.hok.fresh n] at e;cases e)];exact e
  ·rw[<- c.is];exact pm'.map _
  ·rw[wj] at ps ⊢
   refine ps.imp_of_mem λ{x y} hx hy le =>?_
   have ent:∀t∈T,Srt.de h1 (vq t.1)=aQ t:=λt ht=>by
    obtain ⟨_,h2,tk,h3⟩:=c.row t ht
    exact Srt.fv.key (k:=aQ t) ⟨t.1,_,_,0,t.2.1.1,tk,rfl,h3,rfl,rfl,rfl,(tI h2).keeps k1⟩
   have le:Srt.qLt (Srt.de h1 (vq y.1)) (Srt.de h1 (vq x.1))=false:=le
   rw[ent x (sub x hx),ent y (sub y hy)] at le
   exact le
end
end L2
namespace Srt
open PySem PyProof.Rows
section
variable  {prog:vI}{w:wc}{A:v7}{E:uW->uZ->Prop}{s:uZ}
def p9 (h:Heap)(v:uW):Option uW:=match v with
 | .ref p=>match h.get? p with
  | some o=>match o.data with
   | .seq xs _=>xs[0]?
   | _=>none
  | none=>none
 | _=>none
theorem gU {M:Model}:∀{vs:List uW} {Q:List (Option uW)->uZ->Prop},(∀v∈vs,∃ns,aW s.heap v ns)->Q (vs.map (p9 s.heap)) s->vJ M A (vs.mapM firstOfTuple') Q E s
 | [],Q,_,h=>by rw[List.mapM_nil];exact vg h
 | v :: vs,Q,hv,h=>by
  obtain ⟨ns,p,o,xs,n,rfl,e,c,d,r⟩:=hv v vC
  rw[List.mapM_cons]
  refine uU ?_
  rw[PySem.W.kas_first_eq]
  refine uU (CO (show PySem.W.Looks M s.heap (typeOf (.ref p)) o.cls from (AJ e).andThen .now) ?_)
  rw[c,if_neg (by first | decide | simp)]
  refine uU (zA e d (vg ?_))
  refine uU (gU (λu hu=>hv u (vG _ hu)) (vg ?_))
  have:p9 s.heap (.ref p)=xs[0]? := by
   unfold p9
   dsimp only
   rw[e]
   dsimp only
   rw[d]
  rw[vw,this] at h
  exact h
theorem lH {M:Model}{v1:uW}{vs:List uW}{Q:SortKind->uZ->Prop}(hv:∀v∈v1 :: vs,∃ns,aW s.heap v ns)(he:aW s.heap v1 [])(h:Q oneType' s):vJ M A (keyKind' (v1 :: vs).toArray) Q E s:=by
 rw[kat_kind_eq,BG,map_eq_pure_bind]
 refine uU (uU (gU hv (vg ?_)))
 have e1:p9 s.heap v1=none:=by
  obtain ⟨p,o,xs,n,rfl,e,c,d,r⟩:=he
  unfold p9
  dsimp only
  rw[e]
  dsimp only
  rw[d]
  have:xs.toList=[]:=by
   generalize xs.toList=l at r
   cases r;rfl
  show xs[0]? = none
  rw[<- vv,this];rfl
 rw[vw,e1]
 rw[if_neg (by simp),if_neg (by simp)]
 rw[oneTypeOnly'_eq,BG,map_eq_pure_bind]
 refine uU (uU (uU (PySem.W.kas_mapM (r:=yr "tuple") _ (λv hv' Q' hq =>?_) (vg ?_))))
 ·obtain ⟨ns,p,o,xs,n,rfl,e,c,d,r⟩:=hv v hv'
  have L:PySem.W.Looks M s.heap (typeOf (.ref p)) o.cls:=(AJ e).andThen .now
  rw[c] at L
  exact L.here hq
 ·have hall:((List.map (λ_=>yr "tuple") (v1 :: vs)).toArray.all λx=>x == yr "tuple")=true:=by
   simp only[List.all_toArray,CH,xX]
   intro _ _
   rfl
  have h0:(List.map (λ_=>yr "tuple") (v1 :: vs)).toArray[0]? = some (yr "tuple"):=by simp
  rw[h0]
  simp only[hall,if_true]
  exact vg (vg h)
theorem oh {a b:Addr}{ns ms:List Int}{Q:Bool->uZ->Prop}(hu:A.units<cLine)(x:aW s.heap (.ref a) ns)(y:aW s.heap (.ref b) ms)(h:Q (HT.lexLt ns ms) s):vJ (vK prog w) A (oneLt' true (.ref a) (.ref b)) Q E s:=by
 obtain ⟨its,⟨⟨cls,dd,data,sl⟩,ho,hc,n,hd⟩,hi⟩:=x.isTup
 obtain ⟨its2,⟨⟨cls2,dd2,data2,sl2⟩,ho2,hc2,n2,hd2⟩,hj⟩:=y.isTup
 simp only at hc hd hc2 hd2
 subst hc hd hc2 hd2
 rw[oneLt'_eq]
 simp only[if_true]
 refine uU (wpAny_cRoomFor hu ?_)
 refine uU (wpAny_callSpecialIfBound?_slot ⟨_,ho,rfl⟩ zx (Aq zx ⟨_,ho,rfl⟩ AN (Ar _ _) (HT.eB a b its its2 n n2 dd dd2 sl sl2 ns ms hi hj) ⟨ho,ho2,?_⟩))
 exact yk h
theorem iC {v1:uW}{vs:List uW}(hv:∀v∈v1 :: vs,∃ns,aW s.heap v ns)(he:aW s.heap v1 [])(A:v7)(h6:Heap)(hu:A.units<cLine)(k6:∀b o,s.heap.get? b=some o->h6.get? b=some o):∃κ,(∀(Q:SortKind->uZ->Prop) (E:uW->uZ->Prop),Q κ { s with heap:=h6 }->vJ (vK prog w) A (keyKind' (v1 :: vs).toArray) Q E { s with heap:=h6 }) ∧
  Cmp prog w A { s with heap:=h6 } lexOrd (λp=>cD s.heap p.1) (λp=>p.1=p.2/\p.1∈v1 :: vs) κ:=by
 refine ⟨oneType',λQ E q =>?_,⟨λE st x y Q hk hx hy q =>?_⟩⟩
 ·exact lH (s:={ s with heap:=h6 }) (λv hv'=>let ⟨ns,i⟩:=hv v hv';⟨ns,i.keeps k6⟩) (he.keeps k6) q
 ·obtain ⟨ns,i1⟩:=hv _ hx.2
  obtain ⟨ms,i2⟩:=hv _ hy.2
  have q':Q (some (HT.lexLt (cD s.heap x.1) (cD s.heap y.1))) st:=q
  rw[i1.ints,i2.ints] at q'
  have j1:=i1.keeps k6
  have j2:=i2.keeps k6
  obtain ⟨p1,_,_,_,e1,_⟩:=id i1
  obtain ⟨p2,_,_,_,e2,_⟩:=id i2
  rw[e1] at j1
  rw[e2] at j2
  rw[lt'_eq]
  refine vt (zW ?_)
  rw[hk,keyLt'_oneType,e1,e2]
  refine vt (Ad (xp (oh (s:={ s with heap:=h6 }) hu j1 j2 ⟨rfl,?_⟩)))
  exact vB q'
end
end Srt
namespace L2
open PySem PySem.Spec PyProof.Rows Srt
section
variable  {X:Cx}
theorem iD (hu:X.A.units+8<cLine):bY X (.builtin "sorted") (λxs H Q=>∃(p:Addr) (t0:Addr) (ts:List (Addr×List Int)),xs=[.ref p]/\H p=some (.lst (((t0,[]) :: ts).map λt =>.ref t.1))/\(∀t∈((t0,[]) :: ts:List (Addr×List Int)),H t.1=some (.tup (t.2.map V.int))) ∧
  ∀(l:Addr) (out:List (Addr×List Int)),H l=none->out.Perm ((t0,[]) :: ts)->out.Pairwise (λa b=>HT.lexLt b.2 a.2=false)->Q (.ref l) (upd H l (.lst (out.map λt =>.ref t.1)))):=by
 intro pins s σ H xs us Q I r h
 obtain ⟨p,t0,ts,rfl,hs,ht,q⟩:=h
 obtain ⟨u,rfl,ru⟩:=vals1 r
 cases (show u=vq p from ru)
 obtain ⟨its,o,n,rv,e,c,d,z⟩:=I.j5 (.inl (SqL.of hs))
 have ei:=dS rv
 have lz:its.length<=vm:=by rw[<- rv.length];exact z
 have tup:∀t∈((t0,[]) :: ts:List (Addr×List Int)),Srt.aW s.heap (vq t.1) t.2:=λt hm=>by
  obtain ⟨jts,jr,⟨jo,je,jc,jn,jd⟩,_⟩:=I.tuple (SqT.of (ht t hm))
  exact ⟨t.1,jo,_,jn,rfl,je,jc,jd,by simpa using fi jr⟩
 have hv:∀v∈vq t0 :: ts.map (λt=>vq t.1),∃ns,Srt.aW s.heap v ns:=λv hv=>by
  rw[show vq t0 :: ts.map (λt=>vq t.1)=((t0,[]) :: ts:List (Addr×List Int)).map λt=>vq t.1 from rfl] at hv
  obtain ⟨t,hm,rfl⟩:=wq.mp hv
  exact ⟨t.2,tup t hm⟩
 have ei':its=vq t0 :: ts.map (λt=>vq t.1):=ei
 subst ei'
 refine Srt.kr (Srt.fh e c d lz) lz (λh2 B h6 hB k6=>Srt.iC hv (tup _ vC) B h6 (by omega) k6) λh' l out m k hl el pm ps =>?_
 have pm:out.Perm (((t0,[]) :: ts:List (Addr×List Int)).map λt=>vq t.1):=pm
 obtain ⟨out',pm',rfl⟩:=eM pm
 refine ⟨.ref l,_,I.newList k hl el dU (by rw[uT,pm'.length_eq, <- uT (f:=λt:Addr×List Int=>V.ref t.1)];exact z),rfl,q l _ (I.hok.fresh hl) pm' ?_⟩
 refine (wj.mp ps).imp_of_mem λ{a b} ha hb le =>?_
 have le':HT.lexLt (Srt.cD s.heap (vq b.1)) (Srt.cD s.heap (vq a.1))=false:=le
 rw[(tup a (pm'.mem_iff.mp ha)).ints,(tup b (pm'.mem_iff.mp hb)).ints] at le'
 exact le'
theorem Inv.uO {pins:List (Addr×Obj)}{σ:St}{H:Hp}{s:uZ}(I:Inv X pins σ H s){A:v7}(hu:A.units+2<cLine){x y:Addr×(Addr×List Int)×Int}(hx:H x.1=some (.tup [.ref x.2.1.1,.int x.2.2])/\H x.2.1.1=some (.tup (x.2.1.2.map V.int)))(hy:H y.1=some (.tup [.ref y.2.1.1,.int y.2.2])/\H y.2.1.1=some (.tup (y.2.1.2.map V.int))) :
  yt A s (.ref x.1) (.ref y.1) (decide (aQ x=aQ y)):=by
 by_cases e:x.1=y.1
 ·have e1:=hx.1
  rw[e,hy.1] at e1
  have e1:=HO.tup.inj (vR e1)
  have f1:y.2.1.1=x.2.1.1:=V.ref.inj (zM e1).1
  have f2:y.2.2=x.2.2:=V.int.inj (zM (zM e1).2).1
  have f3:y.2.1.2=x.2.1.2:=by
   have h1:=hx.2
   have h2:=hy.2
   rw[f1,h1] at h2
   have:x.2.1.2.map V.int=y.2.1.2.map V.int:=HO.tup.inj (vR h2)
   exact ((Bo (λa b h=>V.int.inj h)).mp this).symm
  rw[e,decide_eq_true (show aQ x=aQ y by unfold aQ;rw[f2,f3])]
  exact y8 _
 ·obtain ⟨its,r1,p1,_⟩:=I.tuple (SqT.of (K:=X.K) hx.1)
  obtain ⟨its2,r2,p2,_⟩:=I.tuple (SqT.of (K:=X.K) hy.1)
  have s1:∃t,its=[.ref x.2.1.1,.int x.2.2 t]:=by
   cases r1 with
   | cons g1 t1=>cases t1 with
    | cons g2 t2 =>
     cases t2
     obtain ⟨t,g2⟩:=g2
     exact ⟨t,by rw[show _=vq x.2.1.1 from g1,g2]⟩
  have s2:∃t,its2=[.ref y.2.1.1,.int y.2.2 t]:=by
   cases r2 with
   | cons g1 t1=>cases t1 with
    | cons g2 t2 =>
     cases t2
     obtain ⟨t,g2⟩:=g2
     exact ⟨t,by rw[show _=vq y.2.1.1 from g1,g2]⟩
  obtain ⟨t,rfl⟩:=s1
  obtain ⟨t',rfl⟩:=s2
  refine Bm e ?_
  have R:=An (A:=A) (e:=λj=>if j=0 then decide (x.2.1.2=y.2.1.2) else x.2.2 == y.2.2) (show s.heap.IsTuple x.1 _ from p1) (show s.heap.IsTuple y.1 _ from p2) (by omega) (by
   intro j h1 h2
   match j,h1,h2 with
   | 0,_,_=>exact I.eqT (by rw[yS];omega) (SqT.of hx.2) (SqT.of hy.2)
   | 1,_,_=>exact xE _ _ _ _)
  have ev:((wF (min (#[vq x.2.1.1,xC x.2.2 t]:Array uW).size (#[vq y.2.1.1,xC y.2.2 t']:Array uW).size)).all (λj=>if j=0 then decide (x.2.1.2=y.2.1.2) else x.2.2 == y.2.2) && (#[vq x.2.1.1,xC x.2.2 t]:Array uW).size == (#[vq y.2.1.1,xC y.2.2 t']:Array uW).size)=decide (aQ x=aQ y):=by
   show ((decide (x.2.1.2=y.2.1.2) && ((x.2.2 == y.2.2) && true)) && true)=_
   rw[w9,decide_eq_true_iff]
   unfold aQ
   simp
  rw[<- ev]
  exact R
theorem uP {us:List (Addr×(Addr×List Int)×Int)}{its:List uW}(r:Vals (us.map λu=>V.ref u.1) its){j:Nat}(h:j<its.toArray.size):∃u,us[j]? = some u/\its.toArray[j] = .ref u.1:=by
 have e:=dS r
 subst e
 rw[u0,uT] at h
 exact ⟨us[j],vk h,by simp⟩
def qa (us ws:List (Addr×(Addr×List Int)×Int))(j:Nat):Bool:=decide ((us.map aQ).getD j ([],0)=(ws.map aQ).getD j ([],0))
theorem oj {us ws:List (Addr×(Addr×List Int)×Int)}(h:us.length=ws.length):((wF us.length).all λj=>qa us ws j)=decide (us.map aQ=ws.map aQ):=by
 rw[w9,decide_eq_true_iff,xX]
 constructor
 ·intro hh
  refine yR (by rw[uT,uT];exact h) λj h1 h2 =>?_
  have:=of_decide_eq_true (hh j (xM.mpr (by rw[uT] at h1;exact h1)))
  rw[vz,vz,vk h1,vk h2] at this
  exact this
 ·intro e j _
  exact decide_eq_true (by rw[e])
theorem rj {k:Nat}(hr:cg k X.A):OpR X (xS .Eq) (λx y H Q=>∃(a b:Addr) (us ws:List (Addr×(Addr×List Int)×Int)),x = .ref a/\y = .ref b/\H a=some (.lst (us.map λu =>.ref u.1))/\H b=some (.lst (ws.map λu =>.ref u.1))/\cV H us/\cV H ws/\Q (.bl (decide (us.map aQ=ws.map aQ))) H):=by
 intro pins s σ H x y v u Q I rx ry h
 obtain ⟨a,b,us,ws,rfl,rfl,h1,h2,t1,t2,q⟩:=h
 cases (show v=vq a from rx)
 cases (show u=vq b from ry)
 obtain ⟨its,r1,p1,_⟩:=I.list (SqL.of (K:=X.K) h1)
 obtain ⟨its2,r2,p2,_⟩:=I.list (SqL.of (K:=X.K) h2)
 have l1:=r1.length
 have l2:=r2.length
 rw[uT] at l1 l2
 have hu:=hr.un
 have hu1:X.A.units+8<cLine:=by omega
 by_cases hl:us.length=ws.length
 ·have R:=BU (A:=X.A) (e:=qa us ws) p1.isList p2.isList (by rw[u0,u0];omega) (by omega) (by
   intro j h1 h2
   obtain ⟨u,eu,g1⟩:=uP r1 h1
   obtain ⟨w,ew,g2⟩:=uP r2 h2
   rw[g1,g2]
   have:=I.uO (A:=X.A.in1) (by rw[yS];omega) (t1 u (vf eu)) (t2 w (vf ew))
   unfold qa
   rw[vz,vz,vi,vi,eu,ew]
   exact this)
  rw[u0, <- l1,oj hl] at R
  exact R _ _ _ _ ⟨.bl _,H,I,rfl,q⟩
 ·have ne:us.map aQ≠ws.map aQ:=λz=>hl (by have:=congrArg List.length z;simpa using this)
  rw[decide_eq_false ne] at q
  exact SeqAt.RcAt.lists_lengths (A:=X.A) p1.isList p2.isList (by simp;omega) (by omega) _ _ _ _ ⟨.bl false,H,I,rfl,q⟩
end
open PySem PySem.Spec PyProof.Rows
def cy (K:u6)(x:Str)(st:Stmt):Prop:=∃(f:Addr) (od an:Option Addr) (sl:Array (Option uW)) (oc kV dc pm cd ct:uW),wV K v5 x=some (some (.ref f))/\K.lookup f=some ⟨oc,od,.func (PySem.W.fnOf x x (cC st) (bX st) (ao st) .none kV dc pm an cd ct),sl⟩/\PySem.W.codeIn K cd x=true/\PySem.W.keepIn K (.ref f)=true
theorem cy.mk {K:u6}{x:Str}{st:Stmt}{f:Addr}{od an:Option Addr}{sl:Array (Option uW)}{oc kV dc pm cd ct:uW}(a:wV K v5 x=some (some (.ref f)))(l:K.lookup f=some ⟨oc,od,.func (PySem.W.fnOf x x (cC st) (bX st) (ao st) .none kV dc pm an cd ct),sl⟩)(c:PySem.W.codeIn K cd x=true)(k:PySem.W.keepIn K (.ref f)=true):cy K x st:=⟨_,_,_,_,_,_,_,_,_,_,a,l,c,k⟩
theorem cy.cal {K:u6}{x:Str}{st:Stmt}(hf:cy K x st)(P:vI)(w:wc)(base:Heap){h:Heap}{mg:Str->Option uW}(X:K.In h)(G:h.Ns v5 mg){lv:Nat}{ps:List Str}{sp:Sp}(ok:∀{f:Addr} {fd:wO},Fun K x x st f fd->bO P w K mg base CX0 lv f fd ps sp)
  (hb:∀(kV doc pm:uW) (an:Option Addr) (cdv ct:uW) (us:List uW),us.length=ps.length->bindArgs (PySem.W.fnOf x x (cC st) (bX st) (ao st) .none kV doc pm an cdv ct) ⟨us,[]⟩=pure (ps.zip us)):Cal P w K mg base lv x ps sp:=by
 obtain ⟨f,od,an,sl,oc,kV,dc,pm,cd,ct,a,l,c,k⟩:=hf
 have F:=oY l c k
 exact ⟨_,_,ok F,Bp X G a,k,F.binds hb⟩
end L2
set_option maxHeartbeats 800000
namespace K69
open PySem L2
def top (i:Nat):Stmt:=PySem.Challenge.pw_ringfell_k69_tables_judged.main.body.getD i (.Pass ⟨0,0,0,0⟩)
abbrev cM:Stmt:=top 4
abbrev gW:Stmt:=top 5
abbrev eN:Stmt:=top 8
abbrev cE:Stmt:=top 9
abbrev cF:Stmt:=top 10
abbrev gX:Stmt:=top 11
abbrev cG:Stmt:=top 12
abbrev gY:Stmt:=top 14
abbrev lI:Stmt:=top 15
abbrev gZ:Stmt:=top 16
abbrev g9:Stmt:=top 17
abbrev lJ:Stmt:=top 18
abbrev qb:Stmt:=top 19
abbrev fz:Stmt:=top 20
abbrev gs:Stmt:=top 21
abbrev gu:Stmt:=top 22
abbrev hJ:Stmt:=top 23
abbrev om:Stmt:=top 24
structure Blt (mg:Str->Option uW):Prop where
 b_any:mg "any" = none
 b_bool:mg "bool" = none
 b_int:mg "int" = none
 b_isinstance:mg "isinstance" = none
 b_len:mg "len" = none
 b_list:mg "list" = none
 b_max:mg "max" = none
 b_min:mg "min" = none
 b_range:mg "range" = none
 b_reversed:mg "reversed" = none
 b_sorted:mg "sorted" = none
 b_sum:mg "sum" = none
 b_tuple:mg "tuple" = none
 b_zip:mg "zip" = none
theorem tN:we "any" = some (.builtin "any"):=by decide +kernel
theorem rk:we "bool" = some (.type "bool"):=by decide +kernel
theorem tO:we "int" = some (.type "int"):=by decide +kernel
theorem iE:we "isinstance" = some (.builtin "isinstance"):=by decide +kernel
theorem jA:we "len" = some (.builtin "len"):=by decide +kernel
theorem my:we "list" = some (.type "list"):=by decide +kernel
theorem tP:we "max" = some (.builtin "max"):=by decide +kernel
theorem jB:we "min" = some (.builtin "min"):=by decide +kernel
theorem hU:we "range" = some (.type "range"):=by decide +kernel
theorem cW:we "sorted" = some (.builtin "sorted"):=by decide +kernel
theorem lK:we "sum" = some (.builtin "sum"):=by decide +kernel
theorem cb:we "tuple" = some (.type "tuple"):=by decide +kernel
structure Cst (mg:Str->Option uW):Prop where
 c_MOST_ORDERED:∃t,mg "MOST_ORDERED" = some (.int 7 t)
theorem hu8 {A:v7}{k:Nat}(hr:cg k A):A.units+8<cLine:=wI (yU (by decide:8<=64) _) hr.units
structure Ow (H:Hp)(b:Addr)(m:Int)(ts:List (Addr×List Int)):Prop where
 at':∃t,H b=some (.tup [.int m,.ref t])/\H t=some (.tup (ts.map λu =>.ref u.1))
 tup:Tus H ts
 rng:∀u∈ts,∃x y,u.2=[x,y]/\0<=x/\x<m/\0<=y/\y<m
theorem Ow.same {H H':Hp}{b:Addr}{m:Int}{ts:List (Addr×List Int)}(W:Ow H b m ts)(s:aD H H'):Ow H' b m ts:=by
 obtain ⟨t,e1,e2⟩:=W.at'
 exact ⟨⟨t,s _ _ e1,s _ _ e2⟩,W.tup.same s,W.rng⟩
theorem Ow.bu {n:Nat}{p:Addr}{H H':Hp}{b:Addr}{m:Int}{ts:List (Addr×List Int)}(W:Ow H b m ts)(u:Bu n p H H')(h:Pt n H p):Ow H' b m ts:=by
 obtain ⟨t,e1,e2⟩:=W.at'
 exact ⟨⟨t,u.tup h e1,u.tup h e2⟩,W.tup.bu u h,W.rng⟩
structure Od (m:Int)(os:List Int):Prop where
 nd:os.Nodup
 mem:∀v,v∈os↔0<=v/\v<m
 len:(os.length:Int)=m
def rgI (m:Nat):List Int:=(wF m).map λi:Nat=>(i:Int)
theorem gv {m:Nat}{v:Int}:v∈rgI m↔0<=v/\v<m:=by
 unfold rgI
 rw[wq]
 constructor
 ·rintro ⟨i,hi,rfl⟩
  have:=xM.mp hi
  omega
 ·intro h
  exact ⟨v.toNat,xM.mpr (by omega),by omega⟩
theorem kB:∀m:Nat,(rgI m).Pairwise (· < ·):=λm=>by
 unfold rgI
 rw[wj]
 exact (List.pairwise_lt_range (n:=m)).imp λ{a b} h=>by omega
theorem oo (m:Nat):(rgI m).Nodup:=(kB m).imp λ{a b} h=>by omega
theorem aV (m:Nat):(rgI m).length=m:=by unfold rgI;simp
open PySem L2
@[irreducible] def jC (K:u6):Sp:=λvs H Q _=>∃(a:Addr) (ns:List Int) (k:Int),vs=[.ref a,.int k]/\SqL K H a (ns.map V.int)/\0<=k/\k<100/\∀(x y:Int) (p:Addr),H p=none->Q (.ref p) (upd H p (.lst ([x,y].map V.int)))
theorem eO {K:u6}{vs:List V}{H:Hp}{Q:VK}{E:XK}:jC K vs H Q E↔∃(a:Addr) (ns:List Int) (k:Int),vs=[.ref a,.int k]/\SqL K H a (ns.map V.int)/\0<=k/\k<100/\∀(x y:Int) (p:Addr),H p=none->Q (.ref p) (upd H p (.lst ([x,y].map V.int))):=by
 delta jC
 exact yC
abbrev mz:Sp:=λvs H Q _=>∃(p:Addr) (m:Int),vs=[.ref p,.int m]/\Pt 2 H p/\0<m/\Wd m/\∀(r:Int) (H':Hp),0<=r->r<m->Bu 2 p H H'->Q (.int r) H'
@[irreducible] def eQ:Sp:=mz
theorem aE {vs:List V}{H:Hp}{Q:VK}{E:XK}:eQ vs H Q E↔mz vs H Q E:=by
 delta eQ
 exact yC
theorem aZ {i:Int}(h0 : -100000<=i)(h1:i<=100000):Wd i:=by
 unfold Wd
 have:i.natAbs<=100000:=by omega
 exact wI this (by decide +kernel)
theorem w64:Wd ((10:Int) ^ (64:Int).toNat):=by unfold Wd;decide +kernel
theorem w128:Wd ((10:Int) ^ (64:Int).toNat*(10:Int) ^ (64:Int).toNat):=by unfold Wd;decide +kernel
theorem w192:Wd ((10:Int) ^ (64:Int).toNat*(10:Int) ^ (64:Int).toNat*(10:Int) ^ (64:Int).toNat):=by unfold Wd;decide +kernel
theorem p256:(0:Int)<(10:Int) ^ (64:Int).toNat*(10:Int) ^ (64:Int).toNat*(10:Int) ^ (64:Int).toNat*(10:Int) ^ (64:Int).toNat:=by decide +kernel
theorem w60:Wd ((10:Int) ^ (60:Int).toNat):=by unfold Wd;decide +kernel
theorem p60:(0:Int)<(10:Int) ^ (60:Int).toNat:=by decide +kernel
section
variable  {P:vI}{w:wc}{K:u6}{mg:Str->Option uW}{base:Heap}{f T:Addr}{fd:wO}
theorem fA:aR ["script", "k", "cell", "digits"] ["script", "k"] (ao gY):=⟨rfl,rfl,rfl,by decide +kernel,rfl,by decide +kernel,by decide +kernel⟩
theorem rm (F:Fun K "_law_deal" "_law_deal" gY f fd)(B:Blt mg)(C:Cst mg):bO P w K mg base CX0 1 f fd ["script", "k"] (jC K):=by
 refine F.ok fA (λvs H Q E h =>?_) (λcdv A outer s H vs Q E hr h =>?_)
 ·obtain ⟨_,_,_,rfl,_⟩:=eO.mp h
  rfl
 obtain ⟨a,ns,k,rfl,hS,h0,h1,q⟩:=eO.mp h
 have TD:∃t,PSs (fM CX0 P w K mg base ["script", "k", "cell", "digits"] "_law_deal" (ao gY) f cdv A outer s H E).nox ((bX gY).drop 2) t/\∀(c:Int) (c3:Option V),t { nx:=λ_ H'=>Q .non H',rt:=Q } [some (.ref a),some (.int k),some (.int c),c3] H:=by
  refine ⟨_,(@ai _ _ _ _ _ (@az _ _ 3 _ _ _ _ fA.nd rfl (Or.inl rfl) ag rfl (by first | exact .inl rfl | exact .inr rfl | assumption))
  (@ai _ _ _ _ _ (@bo _ _ _ _ _ _ _ _ (aA uf (pv 2) (@au _ _ _ _ _ _ _ _ cw ag ag) (aB _)) (@aj _ _ _ (@az _ _ 3 _ _ _ _ fA.nd rfl (Or.inl rfl) (@au _ _ _ _ _ _ _ _ kU (pv 2) (@au _ _ _ _ _ _ _ _ cw ag ag)) rfl (by first | exact .inl rfl | exact .inr rfl | assumption))) aP)
  (@aj _ _ _ (@aO _ _ _ _ (@cj _ _ _ _ (@aa _ _ _ _ _ (pv 3) (@aa _ _ _ _ _ (@au _ _ _ _ _ _ _ _ eG (@au _ _ _ _ _ _ _ _ jq (@au _ _ _ _ _ _ _ _ bB (@au _ _ _ _ _ _ _ _ bB (@au _ _ _ _ _ _ _ _ eG (pv 2) ag) (@au _ _ _ _ _ _ _ _ jq ag (pv 1))) ag) ag) ag) ah rfl) rfl)))))),λc c3 =>?_⟩
  have last:∀dg:Int,∃v,some (some (V.int dg))=some (some v)/\True:=λdg=>⟨_,rfl,trivial⟩
  refine ⟨_,rfl,_,_,rfl,rfl,⟨by decide,by decide,by decide⟩,_,_,rfl,rfl,_,rfl,bz (λz =>?_) (λz =>?_)⟩
  ·refine ⟨_,rfl,_,_,rfl,rfl,⟨by decide,by decide,by decide⟩,_,_,rfl,rfl,?_⟩
   refine ⟨_,rfl,_,rfl,_,_,rfl,rfl,(by show (0:Int)<_;decide),_,rfl,_,_,rfl,rfl,.inl ⟨by decide,by decide⟩,_,_,rfl,rfl,_,_,rfl,rfl,_,_,rfl,rfl,.inr ⟨by decide,by decide⟩,_,_,rfl,rfl,(by show (0:Int)<_;decide),(by show 2<=vm;decide),λp hp=>q _ _ p hp⟩
  ·refine ⟨_,rfl,_,rfl,_,_,rfl,rfl,(by show (0:Int)<_;decide),_,rfl,_,_,rfl,rfl,.inl ⟨by decide,by decide⟩,_,_,rfl,rfl,_,_,rfl,rfl,_,_,rfl,rfl,.inr ⟨by decide,by decide⟩,_,_,rfl,rfl,(by show (0:Int)<_;decide),(by show 2<=vm;decide),λp hp=>q _ _ p hp⟩
 obtain ⟨tD,pD,gD⟩:=TD
 refine ⟨_,(@ai _ _ _ _ _ (@az _ _ 2 _ _ _ _ fA.nd rfl (Or.inl rfl) ag rfl (by first | exact .inl rfl | exact .inr rfl | assumption))
  (@ai _ _ _ _ _ (@bo _ _ _ _ _ _ _ _ (aA oQ (pv 1) (aS cp rfl B.b_len jA (@aa _ _ _ _ _ (pv 0) ah rfl)) (aB _)) (@aj _ _ _ (@az _ _ 2 _ _ _ _ fA.nd rfl (Or.inl rfl) (@au _ _ _ _ _ _ _ _ eG (@aI _ _ _ _ _ _ _ bG (pv 0) (pv 1) (λ_ _=>rfl)) (@au _ _ _ _ _ _ _ _ jv (@au _ _ _ _ _ _ _ _ jv (@au _ _ _ _ _ _ _ _ jv (@au _ _ _ _ _ _ _ _ cw ag ag) (@au _ _ _ _ _ _ _ _ cw ag ag)) (@au _ _ _ _ _ _ _ _ cw ag ag)) (@au _ _ _ _ _ _ _ _ cw ag ag))) rfl (by first | exact .inl rfl | exact .inr rfl | assumption))) aP)
  pD)),?_⟩
 refine ⟨_,rfl,_,rfl,a,_,rfl,.inl hS,_,_,rfl,rfl,_,rfl,bz (λc =>?_) (λc=>gD _ _)⟩
 have c':k<((ns.map V.int).length:Int):=of_decide_eq_true c
 rw[uT] at c'
 obtain ⟨v,_,hat⟩:=pN h0 c'
 exact ⟨_,rfl,_,rfl,a,_,k,_,rfl,rfl,hS,hat,_,_,rfl,rfl,⟨by decide,by decide,by decide⟩,_,_,rfl,rfl,⟨by decide,by decide,by decide⟩,_,_,rfl,rfl,⟨w64,w64⟩,_,_,rfl,rfl,⟨by decide,by decide,by decide⟩,_,_,rfl,rfl,⟨w128,w64⟩,
  _,_,rfl,rfl,⟨by decide,by decide,by decide⟩,_,_,rfl,rfl,⟨w192,w64⟩,_,_,rfl,rfl,p256,gD _ _⟩
end
section
variable  {P:vI}{w:wc}{K:u6}{mg:Str->Option uW}{base:Heap}{f T:Addr}{fd:wO}
theorem mB:aR ["pot", "many", "found"] ["pot", "many"] (ao lI):=⟨rfl,rfl,rfl,by decide +kernel,rfl,by decide +kernel,by decide +kernel⟩
theorem rn (F:Fun K "_law_pick" "_law_pick" lI f fd)(B:Blt mg)(C:Cst mg):bO P w K mg base CX0 1 f fd ["pot", "many"] eQ:=by
 refine F.ok mB (λvs H Q E h =>?_) (λcdv A outer s H vs Q E hr h =>?_)
 ·obtain ⟨_,_,rfl,_⟩:=aE.mp h
  rfl
 obtain ⟨p,m,rfl,hp,h0,h1,q⟩:=aE.mp h
 refine ⟨_,(@ai _ _ _ _ _ (@bo _ _ _ _ _ _ _ _ (aA oR (@aI _ _ _ _ _ _ _ bG (pv 0) ag (λ_ _=>rfl)) ag (aB _)) (@ai _ _ _ _ _ (@az _ _ 2 _ _ _ _ mB.nd rfl (Or.inl rfl) (@au _ _ _ _ _ _ _ _ eG (@aI _ _ _ _ _ _ _ bG (pv 0) ag (λ_ _=>rfl)) (pv 1)) rfl (by first | exact .inl rfl | exact .inr rfl | assumption))
   (@ai _ _ _ _ _ (@jm _ _ _ _ _ _ (@au _ _ _ _ _ _ _ _ pL (@aI _ _ _ _ _ _ _ bG (pv 0) ag (λ_ _=>rfl)) (pv 1)) (kR (pv 0) ag set_list) rfl rfl rfl)
   (@aj _ _ _ (@aO _ _ _ _ (pv 2))))) aP)
  (@ai _ _ _ _ _ (@jm _ _ _ _ _ _ (@au _ _ _ _ _ _ _ _ eG (@au _ _ _ _ _ _ _ _ bB (@au _ _ _ _ _ _ _ _ jq (@aI _ _ _ _ _ _ _ bG (pv 0) ag (λ_ _=>rfl)) ag) ag) ag) (kR (pv 0) ag set_list) rfl rfl rfl)
  (@aj _ _ _ (@aO _ _ _ _ (@au _ _ _ _ _ _ _ _ eG (@au _ _ _ _ _ _ _ _ qz (@au _ _ _ _ _ _ _ _ eG (@au _ _ _ _ _ _ _ _ jq (@aI _ _ _ _ _ _ _ bG (pv 0) ag (λ_ _=>rfl)) (@aI _ _ _ _ _ _ _ bG (pv 0) ag (λ_ _=>rfl))) ag) ag) (pv 1)))))),?_⟩
 have bt:=Bu.refl hp
 obtain ⟨xs,lx,ep⟩:=hp
 match xs,lx with
 | [x,y],_ =>
  refine ⟨_,rfl,p,_,0,_,rfl,rfl,SqL.of ep,rfl,_,_,rfl,rfl,_,rfl,bz (λc =>?_) (λc =>?_)⟩
  ·refine ⟨_,rfl,p,_,0,_,rfl,rfl,SqL.of ep,rfl,_,rfl,_,_,rfl,rfl,h0,?_⟩
   refine ⟨_,rfl,p,_,0,_,rfl,rfl,SqL.of ep,rfl,_,rfl,_,_,rfl,rfl,⟨h0,h1⟩,_,rfl,p,_,0,0,rfl,rfl,ep,rfl,?_⟩
   refine ⟨_,rfl,?_⟩
   exact q _ _ (AZ _ (by omega)) (Ab _ h0) (bt.put (ys:=[x/m,y]) rfl)
  ·refine ⟨_,rfl,p,_,1,_,rfl,rfl,SqL.of ep,rfl,_,_,rfl,rfl,.inr ⟨by decide,by decide⟩,_,_,rfl,rfl,_,_,rfl,rfl,(by show (0:Int)<_;decide),_,rfl,p,_,1,1,rfl,rfl,ep,rfl,?_⟩
   dsimp only
   have b1:=AZ (y*69621+12345) (b:=2147483647) (by decide)
   have b2:=Ab (y*69621+12345) (b:=2147483647) (by decide)
   generalize (y*69621+12345)%2147483647=z at b1 b2 ⊢
   have e:((([x,y]:List Int).map V.int).set 1 (V.int z))=([x,z]:List Int).map V.int:=rfl
   rw[e]
   refine ⟨_,rfl,p,_,1,_,rfl,rfl,SqL.of af,rfl,_,rfl,p,_,1,_,rfl,rfl,SqL.of af,rfl,_,_,rfl,rfl,.inl ⟨by omega,by omega⟩,_,_,rfl,rfl,(by show (0:Int)<_;decide),_,_,rfl,rfl,⟨by decide,by decide⟩,_,rfl,_,_,rfl,rfl,h0,?_⟩
   exact q _ _ (AZ _ (by omega)) (Ab _ h0) (bt.put (ys:=[x,z]) rfl)
end
theorem Od.ins {k d:Nat}{os:List Int}(O:Od (k:Int) os)(hd:d<=os.length):Od ((k+1:Nat):Int) (os.take d++(k:Int) :: os.drop d):=by
 have hp:(os.take d++(k:Int) :: os.drop d).Perm ((k:Int) :: os):=by
  refine BV.trans ?_
  rw[xA]
 have hk:(k:Int)∉os:=λz=>by have:=(O.mem k).mp z;omega
 refine ⟨hp.nodup_iff.mpr (xc.mpr ⟨hk,O.nd⟩),λv =>?_,?_⟩
 ·rw[hp.mem_iff,vM,O.mem]
  omega
 ·rw[hp.length_eq,vT]
  have:=O.len
  omega
theorem Od.nil:Od ((0:Nat):Int) []:=⟨zv,λv=>⟨λz=>(by cases z),λz=>(by omega)⟩,rfl⟩
theorem jD {n:Nat}{p la:Addr}{H H1:Hp}(hb:Bu n p H H1)(h:H1 la=none):H la=none:=by
 cases e:H la with
 | none=>rfl
 | some o =>
  by_cases z:la=p
  ·subst z
   obtain ⟨xs,_,e2⟩:=hb.pot
   rw[h] at e2
   cases e2
  ·rw[hb.st la o z e] at h
   cases h
abbrev i9:Sp:=λvs H Q _=>∃(p b:Addr) (m:Int) (ts:List (Addr×List Int)),vs=[.ref p,.ref b]/\Pt 2 H p/\Ow H b m ts/\ts.length<=300/\∀(l:Addr) (Ws:List Int) (H':Hp),Bu 2 p H H'->H l=none->l≠p->H' l=some (.lst (Ws.map V.int))->Ws.length=ts.length->Q (.ref l) H'
@[irreducible] def fB:Sp:=i9
theorem df {vs:List V}{H:Hp}{Q:VK}{E:XK}:fB vs H Q E↔i9 vs H Q E:=by
 delta fB
 exact yC
section
variable  {P:vI}{w:wc}{K:u6}{mg:Str->Option uW}{base:Heap}{f T:Addr}{fd:wO}
theorem bU:aR ["pot", "web", "way", "found", "arrow", "worth"] ["pot", "web"] (ao g9):=⟨rfl,rfl,rfl,by decide +kernel,rfl,by decide +kernel,by decide +kernel⟩
theorem oq (F:Fun K "_law_worths" "_law_worths" g9 f fd)(B:Blt mg)(cLPick:Cal P w K mg base 1 "_law_pick" ["pot", "many"] eQ)(C:Cst mg):bO P w K mg base CX0 2 f fd ["pot", "web"] fB:=by
 refine F.ok bU (λvs H Q E h =>?_) (λcdv A outer s H vs Q E hr h =>?_)
 ·obtain ⟨_,_,_,_,rfl,_⟩:=df.mp h
  rfl
 obtain ⟨p,b,m,ts,rfl,hp,W,lt,q⟩:=df.mp h
 refine ⟨_,(@ai _ _ _ _ _ (@az _ _ 2 _ _ _ _ bU.nd rfl (Or.inl rfl) (aH cLPick hr (by decide) rfl (@aa _ _ _ _ _ (pv 0) (@aa _ _ _ _ _ ag ah rfl) rfl)) rfl (by first | exact .inl rfl | exact .inr rfl | assumption))
  (@ai _ _ _ _ _ (@az _ _ 3 _ _ _ _ bU.nd rfl (Or.inl rfl) (@cj _ _ _ _ ah) rfl (by first | exact .inl rfl | exact .inr rfl | assumption))
  (@ai _ _ _ _ _ (@bL _ _ _ _ _ _ _ _ wA rfl (@dA _ _ _ _ (@aI _ _ _ _ _ _ _ aX (pv 1) ag (λ_ _=>rfl))) (av (i:=4) bU.nd rfl (Or.inl rfl))
   (@ai _ _ _ _ _ (@az _ _ 5 _ _ _ _ bU.nd rfl (Or.inl rfl) ag rfl (by first | exact .inl rfl | exact .inr rfl | assumption))
   (@ai _ _ _ _ _ (@bo _ _ _ _ _ _ _ _ (aA bZ (pv 2) ag (aB _)) (@aj _ _ _ (@az _ _ 5 _ _ _ _ bU.nd rfl (Or.inl rfl) (aH cLPick hr (by decide) rfl (@aa _ _ _ _ _ (pv 0) (@aa _ _ _ _ _ ag ah rfl) rfl)) rfl (by first | exact .inl rfl | exact .inr rfl | assumption))) aP)
   (@ai _ _ _ _ _ (@bo _ _ _ _ _ _ _ _ (aA bZ (pv 2) ag (aB _)) (@aj _ _ _ (@az _ _ 5 _ _ _ _ bU.nd rfl (Or.inl rfl) (@aI _ _ _ _ _ _ _ aX (@ba _ _ _ _ _ (@aa _ _ _ _ _ (@au _ _ _ _ _ _ _ _ cw ag ag) (@aa _ _ _ _ _ (aH cLPick hr (by decide) rfl (@aa _ _ _ _ _ (pv 0) (@aa _ _ _ _ _ (@au _ _ _ _ _ _ _ _ cw ag ag) ah rfl) rfl)) (@aa _ _ _ _ _ (@au _ _ _ _ _ _ _ _ cw ag ag) ah rfl) rfl) rfl)) (aH cLPick hr (by decide) rfl (@aa _ _ _ _ _ (pv 0) (@aa _ _ _ _ _ ag ah rfl) rfl)) (λ_ _=>rfl)) rfl (by first | exact .inl rfl | exact .inr rfl | assumption))) aP)
   (@aj _ _ _ (dJ (gH wY yi yj dN (pv 3) (@aa _ _ _ _ _ (pv 5) ah rfl))))))) (λ_=>rfl))
  (@aj _ _ _ (@aO _ _ _ _ (pv 3)))))),?_⟩
 have b0:=Bu.refl hp
 refine ⟨_,rfl,aE.mpr ⟨p,3,rfl,hp,by decide,aZ (by decide) (by decide),λwy H1 w0 w1 b1 =>?_⟩⟩
 refine ⟨(by show 0<=vm;decide),λl hl1 =>?_⟩
 have hl:=jD b1 hl1
 have np:l≠p:=hp.ne hl
 have bA:=b1.same (ae hl1 (.lst []))
 have el:upd H1 l (.lst []) l=some (.lst (([]:List Int).map V.int)):=af
 generalize upd H1 l (.lst [])=H2 at bA el
 obtain ⟨t,e1,e2⟩:=(W.bu bA hp).at'
 have e2':∀H',Bu 2 p H2 H'->H' t=some (.tup (ts.map λu =>.ref u.1)):=λH' u=>u.tup bA.pot e2
 refine ⟨_,rfl,b,_,1,_,rfl,rfl,SqT.of e1,rfl,t,rfl,⟨_,SqT.of e2⟩,gn (xs:=ts.map λu =>.ref u.1) (λi σ H'=>(∃c4 c5,σ=[some (.ref p),some (.ref b),some (.int wy),some (.ref l),c4,c5])/\Bu 2 p H H'/\H' t=some (.tup (ts.map λu =>.ref u.1))/\∃Ws:List Int,H' l=some (.lst (Ws.map V.int))/\Ws.length=i) ⟨⟨_,_,rfl⟩,bA,e2,[],el,rfl⟩ (λi σ H' _ k=>SqT.of k.2.2.1) ?_ ?_⟩
 ·rintro i x σ H3 hx ⟨⟨c4,c5,rfl⟩,b3,et3,Ws,ew,lw⟩
  have hi:i<ts.length:=by have:=(vb.mp hx).1;rwa [uT] at this
  have fin:∀(wo:Int) (H4:Hp) (c4:Option V),Bu 2 p H3 H4->(∃c4' c5,([some (.ref p),some (.ref b),some (.int wy),some (.ref l),c4,some (.int wo)]:St)=[some (.ref p),some (.ref b),some (.int wy),some (.ref l),c4',c5])/\Bu 2 p H (upd H4 l (.lst ((Ws++[wo]).map V.int)))/\upd H4 l (.lst ((Ws++[wo]).map V.int)) t=some (.tup (ts.map λu =>.ref u.1))/\∃Ws':List Int,upd H4 l (.lst ((Ws++[wo]).map V.int)) l=some (.lst (Ws'.map V.int))/\Ws'.length=i+1:=λwo H4 c4 b4=>by
   refine ⟨⟨_,_,rfl⟩,(b3.trans b4).lC hl np _,?_,_,af,by rw[u9,lw];rfl⟩
   have:H4 t=some (.tup (ts.map λu =>.ref u.1)):=b4.tup b3.pot et3
   have el4:=b4.st _ _ np ew
   rw[ax (lO this el4 (by intro z;cases z))]
   exact this
  have ap:∀wo:Int,(Ws.map V.int)++[.int wo]=(Ws++[wo]).map V.int:=λwo=>by rw[vj];rfl
  refine ⟨_,rfl,rfl,_,rfl,bz (λz =>?_) (λz =>?_)⟩
  ·refine ⟨_,rfl,aE.mpr ⟨p,5,rfl,b3.pot,by decide,aZ (by decide) (by decide),λd H4 d0 d1 b4 =>?_⟩⟩
   have wy1:wy=1:=by have:=of_decide_eq_true z;exact V.int.inj this
   refine ⟨_,rfl,rfl,_,rfl,bz (λz =>?_) (λz =>?_)⟩
   ·have:=V.int.inj (of_decide_eq_true z);omega
   have el4:=b4.st _ _ np ew
   refine ⟨_,rfl,.inl ⟨rfl,_,SqL.of el4⟩,_,rfl,l,_,_,rfl,rfl,el4,by rw[uT,lw];exact bM (by omega),?_⟩
   rw[ap]
   exact fin _ _ _ b4
  ·refine ⟨_,rfl,rfl,_,rfl,bz (λz =>?_) (λz =>?_)⟩
   ·refine ⟨_,_,rfl,rfl,⟨by decide,by decide,by decide⟩,_,rfl,_,_,rfl,rfl,⟨by decide,by decide,by decide⟩,aE.mpr ⟨p,_,rfl,b3.pot,p60,w60,λd H4 d0 d1 b4=>⟨_,_,rfl,rfl,⟨by decide,by decide,by decide⟩,(by show 3<=vm;decide),λt3 ht3 =>?_⟩⟩⟩
    have g5:=ae ht3 (.tup ([(10:Int) ^ (60:Int).toNat,d,(10:Int) ^ (30:Int).toNat].map V.int))
    have et5:upd H4 t3 (.tup ([(10:Int) ^ (60:Int).toNat,d,(10:Int) ^ (30:Int).toNat].map V.int)) t3=some (.tup ([(10:Int) ^ (60:Int).toNat,d,(10:Int) ^ (30:Int).toNat].map V.int)):=af
    have b5:=b4.same g5
    refine ⟨_,rfl,aE.mpr ⟨p,3,rfl,b5.pot,by decide,aZ (by decide) (by decide),λd2 H6 f0 f1 b6 =>?_⟩⟩
    obtain ⟨v,_,ev⟩:=pN (xs:=[(10:Int) ^ (60:Int).toNat,d,(10:Int) ^ (30:Int).toNat]) f0 f1
    refine ⟨t3,_,d2,_,rfl,rfl,SqT.of (b6.tup b5.pot et5),ev,?_⟩
    have b7:=b5.trans b6
    have el4:=b7.st _ _ np ew
    refine ⟨_,rfl,.inl ⟨rfl,_,SqL.of el4⟩,_,rfl,l,_,_,rfl,rfl,el4,by rw[uT,lw];exact bM (by omega),?_⟩
    rw[ap]
    exact fin _ _ _ b7
   ·refine ⟨_,rfl,.inl ⟨rfl,_,SqL.of ew⟩,_,rfl,l,_,_,rfl,rfl,ew,by rw[uT,lw];exact bM (by omega),?_⟩
    have:=fin 1 H3 none (Bu.refl b3.pot)
    rw[ap]
    exact fin _ _ _ (Bu.refl b3.pot)
 ·rintro σ H3 ⟨⟨c4,c5,rfl⟩,b3,et3,Ws,ew,lw⟩
  rw[uT] at lw
  exact ⟨_,rfl,q l Ws H3 b3 hl np ew lw⟩
end
open PySem L2
def Rg (m:Int)(us:List (Addr×List Int)):Prop:=∀u∈us,∃x y,u.2=[x,y]/\0<=x/\x<m/\0<=y/\y<m
theorem Rg.snoc {m:Int}{us:List (Addr×List Int)}(h:Rg m us){t:Addr}{x y:Int}(x0:0<=x)(x1:x<m)(y0:0<=y)(y1:y<m):Rg m (us++[(t,[x,y])]):=λu hu=>by
 rcases vx.mp hu with z | z
 ·exact h u z
 ·rw[vA] at z;subst z;exact ⟨x,y,rfl,x0,x1,y0,y1⟩
def Ri (ts:List (Addr×List Int)):Prop:=ts.Pairwise λu v=>HT.lexLt u.2 v.2=true
def Ln (n k j:Nat)(us:List (Addr×List Int)):Prop:=us.length<=n/\Ri us/\∀u∈us,∃x y:Int,u.2=[x,y]/\(x<k\/x=k/\y<j)
theorem lex2 {a b c d:Int}(h:a<c\/a=c/\b<d):HT.lexLt [a,b] [c,d]=true:=by
 rw[HT.bS]
 rcases h with z | ⟨z,y⟩
 ·rw[if_neg (by omega)];exact decide_eq_true z
 ·rw[if_pos z,HT.bS,if_neg (by omega)];exact decide_eq_true y
theorem Ln.nil {n k j:Nat}:Ln n k j []:=⟨vY _,List.Pairwise.nil,λu hu=>by cases hu⟩
theorem Ln.stay {n k j:Nat}{us:List (Addr×List Int)}(h:Ln n k j us):Ln (n+1) k (j+1) us:=⟨by have:=h.1;omega,h.2.1,λu hu=>by
 obtain ⟨x,y,e,c⟩:=h.2.2 u hu
 exact ⟨x,y,e,by omega⟩⟩
theorem Ln.add {n k j:Nat}{us:List (Addr×List Int)}(h:Ln n k j us){t:Addr}:Ln (n+1) k (j+1) (us++[(t,[0+(k:Int),0+(j:Int)])]):=by
 refine ⟨by rw[u9];have:=h.1;show _+1<=_;omega,wd.mpr ⟨h.2.1,wz _ _,λu hu v hv =>?_⟩,λu hu =>?_⟩
 ·rw[vA] at hv
  obtain ⟨x,y,e,c⟩:=h.2.2 u hu
  rw[hv,e]
  exact lex2 (by omega)
 ·rcases vx.mp hu with z | z
  ·obtain ⟨x,y,e,c⟩:=h.2.2 u z
   exact ⟨x,y,e,by omega⟩
  ·rw[vA] at z
   exact ⟨_,_,by rw[z],by omega⟩
theorem Ln.on {n m k:Nat}{us:List (Addr×List Int)}(h:Ln n k m us):Ln n (k+1) 0 us:=⟨h.1,h.2.1,λu hu=>by
 obtain ⟨x,y,e,c⟩:=h.2.2 u hu
 exact ⟨x,y,e,by omega⟩⟩
abbrev ja:Sp:=λvs H Q _=>∃(p:Addr) (mo:Int),vs=[.ref p,.int mo]/\Pt 2 H p/\0<=mo/\mo<=10/\∀(b:Addr) (m:Nat) (ts:List (Addr×List Int)) (H':Hp),Bu 2 p H H'->Ow H' b (m:Int) ts->(m:Int)<=mo->ts.length<=200->Ri ts->Q (.ref b) H'
@[irreducible] def fC:Sp:=ja
theorem dh {vs:List V}{H:Hp}{Q:VK}{E:XK}:fC vs H Q E↔ja vs H Q E:=by
 delta fC
 exact yC
section
variable  {P:vI}{w:wc}{K:u6}{mg:Str->Option uW}{base:Heap}{f T:Addr}{fd:wO}
theorem bj:aR ["pot", "most", "many", "share", "loops", "order", "place", "arrows", "a", "b", "rises"] ["pot", "most"] (ao gZ):=⟨rfl,rfl,rfl,by decide +kernel,rfl,by decide +kernel,by decide +kernel⟩
theorem ou (F:Fun K "_law_oneway" "_law_oneway" gZ f fd)(B:Blt mg)(cLPick:Cal P w K mg base 1 "_law_pick" ["pot", "many"] eQ)(C:Cst mg):bO P w K mg base CX0 2 f fd ["pot", "most"] fC:=by
 refine F.ok bj (λvs H Q E h =>?_) (λcdv A outer s H vs Q E hr h =>?_)
 ·obtain ⟨_,_,rfl,_⟩:=dh.mp h
  rfl
 obtain ⟨p,mo,rfl,hp,mo0,mo1,q⟩:=dh.mp h
 refine ⟨_,(@ai _ _ _ _ _ (@az _ _ 2 _ _ _ _ bj.nd rfl (Or.inl rfl) (aH cLPick hr (by decide) rfl (@aa _ _ _ _ _ (pv 0) (@aa _ _ _ _ _ (@au _ _ _ _ _ _ _ _ bB (pv 1) ag) ah rfl) rfl)) rfl (by first | exact .inl rfl | exact .inr rfl | assumption))
  (@ai _ _ _ _ _ (@az _ _ 3 _ _ _ _ bj.nd rfl (Or.inl rfl) (aH cLPick hr (by decide) rfl (@aa _ _ _ _ _ (pv 0) (@aa _ _ _ _ _ ag ah rfl) rfl)) rfl (by first | exact .inl rfl | exact .inr rfl | assumption))
  (@ai _ _ _ _ _ (@az _ _ 4 _ _ _ _ bj.nd rfl (Or.inl rfl) (aH cLPick hr (by decide) rfl (@aa _ _ _ _ _ (pv 0) (@aa _ _ _ _ _ ag ah rfl) rfl)) rfl (by first | exact .inl rfl | exact .inr rfl | assumption))
  (@ai _ _ _ _ _ (@az _ _ 5 _ _ _ _ bj.nd rfl (Or.inl rfl) (@cj _ _ _ _ ah) rfl (by first | exact .inl rfl | exact .inr rfl | assumption))
  (@ai _ _ _ _ _ (@bL _ _ _ _ _ _ _ _ wA rfl (bR rfl B.b_range (@aa _ _ _ _ _ (pv 2) ah rfl)) (av (i:=6) bj.nd rfl (Or.inl rfl))
   (@aj _ _ _ (dJ (gH wY PySem.F.slot_list_insert PySem.F.type_list_insert nj (pv 5) (@aa _ _ _ _ _ (aH cLPick hr (by decide) rfl (@aa _ _ _ _ _ (pv 0) (@aa _ _ _ _ _ (@au _ _ _ _ _ _ _ _ bB (pv 6) ag) ah rfl) rfl)) (@aa _ _ _ _ _ (pv 6) ah rfl) rfl)))) (λ_=>rfl))
  (@ai _ _ _ _ _ (@az _ _ 7 _ _ _ _ bj.nd rfl (Or.inl rfl) (@cj _ _ _ _ ah) rfl (by first | exact .inl rfl | exact .inr rfl | assumption))
  (@ai _ _ _ _ _ (@bL _ _ _ _ _ _ _ _ wA rfl (bR rfl B.b_range (@aa _ _ _ _ _ (pv 2) ah rfl)) (av (i:=8) bj.nd rfl (Or.inl rfl))
   (@aj _ _ _ (@bL _ _ _ _ _ _ _ _ wA rfl (bR rfl B.b_range (@aa _ _ _ _ _ (pv 2) ah rfl)) (av (i:=9) bj.nd rfl (Or.inl rfl))
    (@ai _ _ _ _ _ (@az _ _ 10 _ _ _ _ bj.nd rfl (Or.inl rfl) (eV oQ (gH wY ze Ax iZ (pv 5) (@aa _ _ _ _ _ (pv 8) ah rfl)) (gH wY ze Ax iZ (pv 5) (@aa _ _ _ _ _ (pv 9) ah rfl)) (aB _)) rfl (by first | exact .inl rfl | exact .inr rfl | assumption))
    (@aj _ _ _ (@bo _ _ _ _ _ _ _ _ (aA bZ (pv 8) (pv 9) (aB _)) (@aj _ _ _ (@bo _ _ _ _ _ _ _ _ (PW.pt (jl (aA bZ (pv 4) ag (aB _)) (jk (aA bZ (aH cLPick hr (by decide) rfl (@aa _ _ _ _ _ (pv 0) (@aa _ _ _ _ _ ag ah rfl) rfl)) ag (aB _))))) (@aj _ _ _ (dJ (gH wY yi yj dN (pv 7) (@aa _ _ _ _ _ (@ba _ _ _ _ _ (@aa _ _ _ _ _ (pv 8) (@aa _ _ _ _ _ (pv 9) ah rfl) rfl)) ah rfl)))) aP)) (@aj _ _ _ (@bo _ _ _ _ _ _ _ _ (PW.pt (jl (aA oQ (aH cLPick hr (by decide) rfl (@aa _ _ _ _ _ (pv 0) (@aa _ _ _ _ _ ag ah rfl) rfl)) (@au _ _ _ _ _ _ _ _ bB (pv 3) (aU mU rfl B.b_int tO (@aa _ _ _ _ _ (pv 10) ah rfl))) (aB _)) (jk (PW.pt (oI (aA oR (pv 3) ag (aB _)) (kQ (kP (pv 10)))))))) (@aj _ _ _ (dJ (gH wY yi yj dN (pv 7) (@aa _ _ _ _ _ (@ba _ _ _ _ _ (@aa _ _ _ _ _ (pv 8) (@aa _ _ _ _ _ (pv 9) ah rfl) rfl)) ah rfl)))) aP))))) (λ_=>rfl))) (λ_=>rfl))
  (@aj _ _ _ (@aO _ _ _ _ (@ba _ _ _ _ _ (@aa _ _ _ _ _ (pv 2) (@aa _ _ _ _ _ (aU bD rfl B.b_tuple cb (@aa _ _ _ _ _ (pv 7) ah rfl)) ah rfl) rfl))))))))))),?_⟩
 refine ⟨_,rfl,_,rfl,_,_,rfl,rfl,aE.mpr ⟨p,mo+1,rfl,hp,by omega,aZ (by omega) (by omega),λm' H1 m0 m1 u1 =>?_⟩⟩
 obtain ⟨m,rfl⟩:∃n:Nat,m'=n:=⟨m'.toNat,by omega⟩
 have hm:m<=10:=by omega
 have hmo:(m:Int)<=mo:=by omega
 refine ⟨_,rfl,aE.mpr ⟨p,5,rfl,u1.pot,by decide,aZ (by decide) (by decide),λsh H2 s0 s1 u2 =>?_⟩⟩
 refine ⟨_,rfl,aE.mpr ⟨p,3,rfl,u2.pot,by decide,aZ (by decide) (by decide),λlp H3 l0 l1 u3 =>?_⟩⟩
 have uA:=(u1.trans u2).trans u3
 refine ⟨(by show 0<=vm;decide),λlo hlo1 =>?_⟩
 have hlo:=jD uA hlo1
 have npo:lo≠p:=hp.ne hlo
 have uB:=uA.same (ae hlo1 (.lst []))
 have elo:upd H3 lo (.lst []) lo=some (.lst (([]:List Int).map V.int)):=af
 generalize upd H3 lo (.lst [])=H4 at uB elo
 refine ⟨_,rfl,(m:Int),rfl,by omega,by omega,cR (λk σ H'=>(∃c6 c7 c8 c9 c10,σ=[some (.ref p),some (.int mo),some (.int m),some (.int sh),some (.int lp),some (.ref lo),c6,c7,c8,c9,c10])/\Bu 2 p H H'/\∃os,H' lo=some (.lst (os.map V.int))/\Od (k:Int) os) ⟨⟨_,_,_,_,_,rfl⟩,uB,[],elo,Od.nil⟩ ?_ ?_⟩
 ·rintro k σ H5 hk ⟨⟨c6,c7,c8,c9,c10,rfl⟩,b5,os,eo,O⟩
  have hk':(k:Int)<40:=by omega
  have lo':=O.len
  refine ⟨_,rfl,.inl ⟨rfl,_,SqL.of eo⟩,_,rfl,_,rfl,_,_,rfl,rfl,aE.mpr ⟨p,0+(k:Int)+1,rfl,b5.pot,by omega,aZ (by omega) (by omega),λd H6 d0 d1 b6 =>?_⟩⟩
  obtain ⟨n,rfl⟩:∃n:Nat,d=n:=⟨d.toNat,by omega⟩
  have eo3:=b6.st _ _ npo eo
  refine ⟨_,rfl,lo,_,(n:Int),_,rfl,rfl,eo3,by omega,by rw[uT];omega,by rw[uT];exact bM (by omega),?_⟩
  refine ⟨⟨_,_,_,_,_,rfl⟩,(b5.trans b6).lC hlo npo _,os.take n++(k:Int) :: os.drop n,?_,O.ins (by omega)⟩
  have e0:(0+(k:Int))=k:=by omega
  rw[af,e0,wu,vj,vw,Bq,CF]
 rintro σ H5 ⟨⟨c6,c7,c8,c9,c10,rfl⟩,b5,os,eo,O⟩
 rw[wu] at O
 have lno:=O.len
 refine ⟨(by show 0<=vm;decide),λla hla1 =>?_⟩
 have hla:=jD b5 hla1
 have np:la≠p:=hp.ne hla
 have nlo:lo≠la:=ak eo hla1
 have m6:Mkg 2 p la H (upd H5 la (.lst [])) []:=⟨b5.same (ae hla1 _),af,(λu hu=>by cases hu),λu hu=>by cases hu⟩
 have eo6:=(ae hla1 (.lst [])) _ _ eo
 generalize upd H5 la (.lst [])=H6 at m6 eo6
 refine ⟨_,rfl,(m:Int),rfl,by omega,by omega,cR (λk σ H'=>(∃c8 c9 c10,σ=[some (.ref p),some (.int mo),some (.int m),some (.int sh),some (.int lp),some (.ref lo),c6,some (.ref la),c8,c9,c10])/\H' lo=some (.lst (os.map V.int))/\∃us,Mkg 2 p la H H' us/\Rg m us/\Ln (m*k) k 0 us) ⟨⟨_,_,_,rfl⟩,eo6,[],m6,λu hu=>(by cases hu),Ln.nil⟩ ?_ ?_⟩
 ·rintro k σ H7 hk ⟨⟨c8,c9,c10,rfl⟩,eo7,us,m7,rg,lu⟩
  have hk':(k:Int)<m:=by omega
  have km:m*k<=100:=vP (Cr hm (show k<=10 by omega)) (by decide)
  refine ⟨_,rfl,(m:Int),rfl,by omega,by omega,cR (λj σ H'=>(∃c9 c10,σ=[some (.ref p),some (.int mo),some (.int m),some (.int sh),some (.int lp),some (.ref lo),c6,some (.ref la),some (.int (0+(k:Int))),c9,c10])/\H' lo=some (.lst (os.map V.int))/\∃us,Mkg 2 p la H H' us/\Rg m us/\Ln (m*k+j) k j us) ⟨⟨_,_,rfl⟩,eo7,us,m7,rg,lu⟩ ?_ ?_⟩
  ·rintro j σ H8 hj ⟨⟨c9,c10,rfl⟩,eo8,us,m8,rg,lu⟩
   have hj':(j:Int)<m:=by omega
   have lu0:=lu.1
   refine ⟨_,rfl,.inl ⟨rfl,_,SqL.of eo8⟩,_,rfl,lo,os,0+(k:Int),rfl,rfl,eo8,(O.mem _).mpr ⟨by omega,by omega⟩,by omega,_,rfl,.inl ⟨rfl,_,SqL.of eo8⟩,_,rfl,lo,os,0+(j:Int),rfl,rfl,eo8,(O.mem _).mpr ⟨by omega,by omega⟩,by omega,_,_,rfl,rfl,?_⟩
   generalize decide (((os.idxOf (0+(k:Int)):Nat):Int)<((os.idxOf (0+(j:Int)):Nat):Int))=ri
   have stay:∀H9,Bu 2 p H8 H9->(H9 lo=some (.lst (os.map V.int))/\Mkg 2 p la H H9 us):=λH9 u=>⟨u.st _ _ npo eo8,m8.bu' np u⟩
   refine ⟨_,rfl,_,rfl,rfl,_,rfl,bz (λz =>?_) (λz =>?_)⟩
   ·refine ⟨_,rfl,rfl,_,rfl,bz (λz =>?_) (λz =>?_)⟩
    ·refine ⟨_,rfl,aE.mpr ⟨p,3,rfl,m8.bu.pot,by decide,aZ (by decide) (by decide),λd3 H9 f0 f1 b9=>⟨rfl,_,rfl,bz (λz =>?_) (λz =>?_)⟩⟩⟩
     ·obtain ⟨eoX,mX⟩:=stay H9 b9
      refine ⟨_,rfl,.inl ⟨rfl,_,SqL.of mX.at'⟩,_,rfl,_,rfl,(by show 2<=vm;decide),λt ht =>?_⟩
      have m9:=mX.add hla np ht (0+(k:Int)) (0+(j:Int))
      have eo9:upd (upd H9 t (.tup [.int (0+(k:Int)),.int (0+(j:Int))])) la (.lst ((us.map λu=>V.ref u.1)++[.ref t])) lo=some (.lst (os.map V.int)):=by rw[ax nlo];exact (ae ht _) _ _ eoX
      refine ⟨la,_,_,rfl,rfl,(ae ht _) _ _ mX.at',by rw[uT];exact bM (by omega),?_⟩
      exact ⟨⟨_,_,rfl⟩,eo9,_,m9,rg.snoc (by omega) (by omega) (by omega) (by omega),lu.add⟩
     ·obtain ⟨eoX,mX⟩:=stay H9 b9
      exact ⟨⟨_,_,rfl⟩,eoX,us,mX,rg,lu.stay⟩
    ·exact ni ⟨⟨_,_,rfl⟩,eo8,us,m8,rg,lu.stay⟩
   ·refine ⟨_,rfl,aE.mpr ⟨p,5,rfl,m8.bu.pot,by decide,aZ (by decide) (by decide),λd5 H9 f0 f1 b9 =>?_⟩⟩
    obtain ⟨eoX,mX⟩:=stay H9 b9
    refine ⟨_,rfl,_,rfl,.inr ⟨_,rfl,_,_,rfl,rfl,_,_,rfl,rfl,_,rfl,bz (λz =>?_) (λz =>?_)⟩⟩
    ·refine ⟨_,rfl,_,_,rfl,rfl,_,rfl,bz (λz =>?_) (λz =>?_)⟩
     ·skip
      refine gh ⟨_,rfl,.inl ⟨rfl,_,SqL.of mX.at'⟩,_,rfl,_,rfl,(by show 2<=vm;decide),λt ht =>?_⟩
      have m9:=mX.add hla np ht (0+(k:Int)) (0+(j:Int))
      have eo9:upd (upd H9 t (.tup [.int (0+(k:Int)),.int (0+(j:Int))])) la (.lst ((us.map λu=>V.ref u.1)++[.ref t])) lo=some (.lst (os.map V.int)):=by rw[ax nlo];exact (ae ht _) _ _ eoX
      refine ⟨la,_,_,rfl,rfl,(ae ht _) _ _ mX.at',by rw[uT];exact bM (by omega),?_⟩
      exact ⟨⟨_,_,rfl⟩,eo9,_,m9,rg.snoc (by omega) (by omega) (by omega) (by omega),lu.add⟩
     ·refine ⟨_,rfl,_,rfl,bz (λz =>?_) (λz =>?_)⟩
      ·skip
       refine ⟨_,rfl,.inl ⟨rfl,_,SqL.of mX.at'⟩,_,rfl,_,rfl,(by show 2<=vm;decide),λt ht =>?_⟩
       have m9:=mX.add hla np ht (0+(k:Int)) (0+(j:Int))
       have eo9:upd (upd H9 t (.tup [.int (0+(k:Int)),.int (0+(j:Int))])) la (.lst ((us.map λu=>V.ref u.1)++[.ref t])) lo=some (.lst (os.map V.int)):=by rw[ax nlo];exact (ae ht _) _ _ eoX
       refine ⟨la,_,_,rfl,rfl,(ae ht _) _ _ mX.at',by rw[uT];exact bM (by omega),?_⟩
       exact ⟨⟨_,_,rfl⟩,eo9,_,m9,rg.snoc (by omega) (by omega) (by omega) (by omega),lu.add⟩
      ·exact ⟨⟨_,_,rfl⟩,eoX,us,mX,rg,lu.stay⟩
    ·exact ni ⟨⟨_,_,rfl⟩,eoX,us,mX,rg,lu.stay⟩
  ·rintro σ H8 ⟨⟨c9,c10,rfl⟩,eo8,us,m8,rg,lu⟩
   rw[wu] at lu
   exact ⟨⟨_,_,_,rfl⟩,eo8,us,m8,rg,by rw[Nat.mul_succ];exact lu.on⟩
 ·rintro σ H7 ⟨⟨c8,c9,c10,rfl⟩,eo7,us,m7,rg,lu⟩
  rw[wu] at lu
  have lu0:=lu.1
  have mm:m*m<=100:=vP (Cr hm hm) (by decide)
  refine ⟨_,rfl,_,rfl,la,_,rfl,.inl ⟨SqL.of m7.at',λl3 hl3=>⟨(by show 2<=vm;decide),λb hb =>?_⟩⟩⟩
  have gA:=(ae hl3 (.tup (us.map λt =>.ref t.1))).trans (ae hb (.tup [.int m,.ref l3]))
  exact q b m us _ (m7.bu.same gA) ⟨⟨l3,af,(ae hb _) _ _ af⟩,λu hu=>gA _ _ (m7.tu u hu),rg⟩ hmo (by omega) lu.2.1
end
theorem uQ {us:List (Addr×List Int)}(h:Ri us):(us.map (·.2)).Nodup:=by
 refine wj.mpr (h.imp λ{a b} z e =>?_)
 rw[e,Srt.lex_irrefl] at z
 cases z
open PySem L2
def SS (x:List Int):Prop:=x.Pairwise (· < ·)
theorem qc:∀{x y:List Int},SS x->SS y->(∀v,v∈x↔v∈y)->x=y
 | [],[],_,_,_=>rfl
 | [],b :: y,_,_,h=>absurd ((h b).mpr vC) (by simp)
 | a :: x,[],_,_,h=>absurd ((h a).mp vC) (by simp)
 | a :: x,b :: y,hx,hy,h=>by
  have hx':=yv.mp hx
  have hy':=yv.mp hy
  have e:a=b:=by
   have m1:=(h a).mp vC
   have m2:=(h b).mpr vC
   rcases vM.mp m1 with z | z
   ·exact z
   ·rcases vM.mp m2 with z2 | z2
    ·exact z2.symm
    ·have:=hy'.1 a z;have:=hx'.1 b z2;omega
  subst e
  congr 1
  refine qc hx'.2 hy'.2 λv=>⟨λhv =>?_,λhv =>?_⟩
  ·rcases vM.mp ((h v).mp (vG _ hv)) with z | z
   ·have:=hx'.1 v hv;omega
   ·exact z
  ·rcases vM.mp ((h v).mpr (vG _ hv)) with z | z
   ·have:=hy'.1 v hv;omega
   ·exact z
theorem dE {x:List Int}(h:SS x):x.Nodup:=h.imp λz=>by omega
theorem fR {x:List Int}(f:Int->Bool)(h:SS x):SS (x.filter f):=CJ f h
def sbs (ns:List Int):List (List Int):=ns.foldl (λf v=>f++f.map (· ++ [v])) [[]]
theorem cz (ns:List Int)(v:Int):sbs (ns++[v])=sbs ns++(sbs ns).map (· ++ [v]):=by
 unfold sbs
 rw[List.foldl_append]
 rfl
theorem snoc_cases {α:Type}{C:List α -> Prop}(h0:C [])(h1:∀l a,C l->C (l++[a]))(l:List α):C l:=by
 have:∀(n:Nat),C (l.take n):=by
  intro n
  induction n with
  | zero=>exact h0
  | succ n ih =>
   rw[vQ]
   cases l[n]? with
   | none=>rw[Option.toList,wM];exact ih
   | some a=>exact h1 _ a ih
 have:=this l.length
 rwa [List.take_length] at this
theorem gw {x:List Int}{v:Int}:SS (x++[v])↔SS x/\∀u∈x,u<v:=by
 unfold SS
 rw[wd]
 constructor
 ·exact λ⟨a,_,c⟩=>⟨a,λu hu=>c u hu v vC⟩
 ·exact λ⟨a,c⟩=>⟨a,wz _ _,λu hu w hw=>by rw[vA.mp hw];exact c u hu⟩
theorem fD (ns:List Int):(sbs ns).length=2 ^ ns.length:=by
 refine snoc_cases (C:=λns=>(sbs ns).length=2 ^ ns.length) rfl (λl a ih =>?_) ns
 rw[cz,u9,uT,ih,u9,wx,Nat.pow_succ]
 omega
theorem di {ns:List Int}:SS ns->∀x,x∈sbs ns↔SS x/\∀v∈x,v∈ns:=by
 refine snoc_cases (C:=λns=>SS ns->∀x,x∈sbs ns↔SS x/\∀v∈x,v∈ns) ?_ ?_ ns
 ·intro _ x
  show x∈[[]]↔_
  rw[vA]
  constructor
  ·rintro rfl
   exact ⟨List.Pairwise.nil,λv hv=>hv⟩
  ·rintro ⟨_,h⟩
   cases x with
   | nil=>rfl
   | cons a x=>cases h a vC
 ·intro l a ih hs x
  obtain ⟨sl,la⟩:=gw.mp hs
  rw[cz,vx,wq]
  constructor
  ·rintro (h | ⟨y,h,rfl⟩)
   ·obtain ⟨h1,h2⟩:=(ih sl x).mp h
    exact ⟨h1,λv hv=>yJ _ (h2 v hv)⟩
   ·obtain ⟨h1,h2⟩:=(ih sl y).mp h
    refine ⟨gw.mpr ⟨h1,λu hu=>la u (h2 u hu)⟩,λv hv =>?_⟩
    rcases vx.mp hv with z | z
    ·exact yJ _ (h2 v z)
    ·exact vN _ z
  ·rintro ⟨h1,h2⟩
   by_cases c:a∈x
   ·right
    have sx:=fR (λv=>decide (v≠a)) h1
    have mx:∀v,v∈x.filter (λv=>decide (v≠a))↔v∈x/\v≠a:=λv=>by rw[yg];simp
    have hl:∀v∈x.filter (λv=>decide (v≠a)),v∈l:=λv hv=>by
     obtain ⟨z1,z2⟩:=(mx v).mp hv
     rcases vx.mp (h2 v z1) with z | z
     ·exact z
     ·exact absurd (vA.mp z) z2
    refine ⟨_,(ih sl _).mpr ⟨sx,hl⟩,?_⟩
    refine qc (gw.mpr ⟨sx,λu hu=>la u (hl u hu)⟩) h1 λv =>?_
    rw[vx,mx,vA]
    constructor
    ·rintro (z | z)
     ·exact z.1
     ·exact z ▸ c
    ·intro z
     by_cases e:v=a
     ·exact .inr e
     ·exact .inl ⟨z,e⟩
   ·left
    refine (ih sl x).mpr ⟨h1,λv hv =>?_⟩
    rcases vx.mp (h2 v hv) with z | z
    ·exact z
    ·exact absurd (vA.mp z ▸ hv) c
theorem lL {ns:List Int}:SS ns->(sbs ns).Nodup:=by
 refine snoc_cases (C:=λns=>SS ns->(sbs ns).Nodup) (λ_=>by show [[]].Nodup;simp) (λl a ih hs =>?_) ns
 obtain ⟨sl,la⟩:=gw.mp hs
 rw[cz,BH]
 refine ⟨ih sl,?_,?_⟩
 ·exact wj.mpr ((ih sl).imp λ{x y} ne e=>ne (List.append_cancel_right e))
 ·rintro x hx y hy rfl
  obtain ⟨z,_,rfl⟩:=wq.mp hy
  have:=((di sl _).mp hx).2 a (vN _ vC)
  have:=la a this
  omega
theorem fE:∀(ns x:List Int),x∈sbs ns->x.length<=ns.length:=by
 intro ns
 refine snoc_cases (C:=λns=>∀x,x∈sbs ns->x.length<=ns.length) (λx hx =>?_) (λl a ih x hx =>?_) ns
 ·rw[vA.mp (show x∈[[]] from hx)];exact va _
 ·rw[cz,vx] at hx
  rw[u9,wx]
  rcases hx with z | z
  ·have:=ih x z;omega
  ·obtain ⟨y,hy,rfl⟩:=wq.mp z
   have:=ih y hy
   rw[u9,wx]
   omega
theorem kC {H:Hp}{ts:List (Addr×List Int)}{u:Addr×List Int}(t:Tus H ts)(h:H u.1=some (.tup (u.2.map V.int))):Tus H (ts++[u]):=λv hv=>by
 rcases vx.mp hv with z | z
 ·exact t v z
 ·rw[vA.mp z];exact h
theorem filS {α:Type}{f:α -> Bool}{l:List α}{i:Nat}{x:α}(e:l[i]? = some x):(l.take (i+1)).filter f=(l.take i).filter f++if f x=true then [x] else []:=by
 rw[vQ,e,Br]
 congr 1
 show List.filter f [x]=_
 rw[AK]
 split <;> rfl
theorem mC {α β:Type}{f:α -> Bool}{g:α -> β}{l:List α}{i:Nat}{x:α}(e:l[i]? = some x):((l.take (i+1)).filter f).map g=((l.take i).filter f).map g++if f x=true then [g x] else []:=by
 rw[filS e,vj]
 congr 1
 split <;> rfl
theorem hV {n:Nat}(h:n<=5000):n<vm:=wI h (by decide)
theorem cN {n:Nat}(h:n<=5000):n<=vm:=ym (hV h)
abbrev hW:Sp:=λvs H Q _=>∃(a:Addr) (ns:List Int),vs=[.ref a]/\H a=some (.tup (ns.map V.int))/\ns.length<=9/\∀(l:Addr) (us:List (Addr×List Int)) (H':Hp),aD H H'->H l=none->H' l=some (.lst (us.map λu =>.ref u.1))->Tus H' us->(us.map (·.2)).Perm (sbs ns)->(us.map (·.2)).Pairwise (λx y=>x.length<=y.length)->Q (.ref l) H'
@[irreducible] def dX:Sp:=hW
theorem cO {vs:List V}{H:Hp}{Q:VK}{E:XK}:dX vs H Q E↔hW vs H Q E:=by
 delta dX
 exact yC
section
variable  {P:vI}{w:wc}{K:u6}{mg:Str->Option uW}{base:Heap}{f T:Addr}{fd:wO}
theorem dY:aR ["places", "sets", "place"] ["places"] (ao gW):=⟨rfl,rfl,rfl,by decide +kernel,rfl,by decide +kernel,by decide +kernel⟩
theorem eh:(["one", "place"]:List Str).Nodup:=by decide +kernel
theorem ow (F:Fun K "all_sets" "all_sets" gW f fd)(B:Blt mg)(C:Cst mg):bO P w K mg base CX0 1 f fd ["places"] dX:=by
 refine F.ok dY (λvs H Q E h =>?_) (λcdv A outer s H vs Q E hr h =>?_)
 ·obtain ⟨_,_,rfl,_⟩:=cO.mp h
  rfl
 obtain ⟨a,ns,rfl,ha,h7,q⟩:=cO.mp h
 refine ⟨_,(@ai _ _ _ _ _ (@az _ _ 1 _ _ _ _ dY.nd rfl (Or.inl rfl) (@cj _ _ _ _ (@aa _ _ _ _ _ (@ba _ _ _ _ _ ah) ah rfl)) rfl (by first | exact .inl rfl | exact .inr rfl | assumption))
  (@ai _ _ _ _ _ (@bL _ _ _ _ _ _ _ _ wA rfl (@dA _ _ _ _ (pv 0)) (av (i:=2) dY.nd rfl (Or.inr rfl))
   (@aj _ _ _ (@az _ _ 1 _ _ _ _ dY.nd rfl (Or.inl rfl) (@au _ _ _ _ _ _ _ _ bI (pv 1) (bN ["one", "place"] [none,some 2] rfl (@bW _ _ _ _ (pv 1)) rfl (λ_ _ _ _ _=>(av (i:=0) eh rfl (Or.inl rfl))) (λ_ _ _ _ _=>cx) (λ_ _ _ _ _=>(@au _ _ _ _ _ _ _ _ (i6 (K:=K)) (pv 0) (@ba _ _ _ _ _ (@aa _ _ _ _ _ (pv 1) ah rfl)))))) rfl (by first | exact .inl rfl | exact .inr rfl | assumption))) (λ_=>rfl))
  (@aj _ _ _ (@aO _ _ _ _ (ft rfl B.b_sorted rfl B.b_len cW (pv 1)))))),?_⟩
 refine ⟨(by show 0<=vm;decide),λt0 ht0=>⟨(by show 1<=vm;decide),λl0 hl0 =>?_⟩⟩
 have s0:=(ae ht0 (.tup [])).trans (ae hl0 (.lst [.ref t0]))
 have e0:upd (upd H t0 (.tup [])) l0 (.lst [.ref t0]) l0=some (.lst (([(t0,[])]:List (Addr×List Int)).map λu =>.ref u.1)):=af
 have et:Tus (upd (upd H t0 (.tup [])) l0 (.lst [.ref t0])) [(t0,[])]:=λu hu=>by
  rw[vA.mp hu]
  exact (ae hl0 _) _ _ af
 generalize upd (upd H t0 (.tup [])) l0 (.lst [.ref t0])=H0 at s0 e0 et
 refine ⟨_,rfl,a,rfl,⟨_,SqT.of (s0 _ _ ha)⟩,gn (xs:=ns.map V.int) (λi σ H'=>(∃l us c2,σ=[some (.ref a),some (.ref l),c2]/\H' l=some (.lst (us.map λu =>.ref u.1))/\Tus H' us/\us.map (·.2)=sbs (ns.take i))/\aD H H') ⟨⟨l0,[(t0,[])],_,rfl,e0,et,rfl⟩,s0⟩ (λi σ H' _ k=>SqT.of (k.2 _ _ ha)) ?_ ?_⟩
 ·rintro i x σ H' hx ⟨⟨l,us,c2,rfl,el,tus,em⟩,s1⟩
  obtain ⟨v,ev,rfl⟩:=eD hx
  have hi:i<ns.length:=(vb.mp ev).1
  have lus:us.length<=256:=by
   have:=congrArg List.length em
   rw[uT,fD,v3] at this
   have:2 ^ (min i ns.length)<=2 ^ 8:=xJ (by decide) (by omega)
   omega
  have l50:∀u∈us,u.2.length<=9:=λu hu=>by
   have h1:u.2∈sbs (ns.take i):=em ▸ xR hu
   exact vP (fE _ _ h1) (vP (Bd _ _) (by omega))
  refine ⟨_,rfl,_,rfl,l,rfl,⟨_,SqL.of el⟩,bT (xs:=us.map λu =>.ref u.1) (λk zs H2=>aD H' H2/\∃rs:List (Addr×List Int),zs=(rs.map λu=>V.ref u.1)/\Tus H2 rs/\rs.map (·.2)=(us.take k).map λu=>u.2++[v]) ⟨aD.refl _,[],rfl,(λu hu=>by cases hu),rfl⟩ (by rw[uT];exact cN (by omega)) (λk zs H2 _ h=>SqL.of (h.1 _ _ el)) ?_ ?_⟩
  ·rintro k x zs H2 hx hy ⟨s2,rs,rfl,tr,er⟩ R1 R0 r1 r0
   obtain ⟨u,eu,rfl⟩:=dq hx
   have mu:=vf eu
   refine gh ⟨_,rfl,_,rfl,(by show 1<=vm;decide),λt ht =>?_⟩
   have g3:=ae ht (.tup [V.int v])
   refine gR.one (ys:=[V.int v]) (g3 _ _ (s2 _ _ (tus u mu))) af (by rw[uT];have:=l50 u mu;exact cN (by show _+1<=_;omega)) λq1 H3 s3 eq1 =>?_
   refine r1 _ _ ⟨(s2.trans g3).trans s3,rs++[(q1,u.2++[v])],by rw[vj];rfl,kC ((tr.same g3).same s3) (by rw[vj];exact eq1),?_⟩
   rw[vj,er,rM eu];rfl
  ·rintro zs H2 hy ⟨s2,rs,rfl,tr,er⟩ r hr'
   rw[uT,fc] at er
   have lr:rs.length=us.length:=by
    have:=congrArg List.length er
    rwa [uT,uT] at this
   have g3:=ae hr' (.lst (rs.map λu=>V.ref u.1))
   refine ⟨l,r,_,_,rfl,rfl,SqL.of (g3 _ _ (s2 _ _ el)),SqL.of af,by rw[uT,uT];exact cN (by omega),λl3 hl3 =>?_⟩
   have g4:=g3.trans (ae hl3 (.lst ((us.map λu=>V.ref u.1)++(rs.map λu=>V.ref u.1))))
   have s4:=s2.trans g4
   refine ⟨⟨l3,us++rs,_,rfl,by rw[af,vj],λu hu =>?_,?_⟩,s1.trans s4⟩
   ·rcases vx.mp hu with z | z
    ·exact s4 _ _ (tus u z)
    ·exact g4 _ _ (tr u z)
   ·rw[vj,er,em,vQ,ev]
    show _=sbs (ns.take i++[v])
    rw[cz, <- em,v9];rfl
 ·rintro σ H' ⟨⟨l,us,c2,rfl,el,tus,em⟩,s1⟩
  rw[uT,fc] at em
  refine ⟨_,rfl,l,us,rfl,.inl (SqL.of el),λt ht=>SqT.of (tus t ht),λl2 out hl2 pm so =>?_⟩
  exact q l2 out _ (s1.trans (ae hl2 _)) (s1.free hl2) af (λt ht=>(ae hl2 _) _ _ (tus t (pm.mem_iff.mp ht))) (em ▸ pm.map (·.2)) (wj.mpr so)
end
abbrev hX:Sp:=λvs H Q _=>∃(a:Addr) (xs:List Int) (k:Int),vs=[.ref a,.int k]/\H a=some (.tup (xs.map V.int))/\xs.length<=100/\∀(l:Addr) (H':Hp),aD H H'->H' l=some (.tup ((xs.filter λx=>decide (x≠k)).map V.int))->Q (.ref l) H'
@[irreducible] def dZ:Sp:=hX
theorem cP {vs:List V}{H:Hp}{Q:VK}{E:XK}:dZ vs H Q E↔hX vs H Q E:=by
 delta dZ
 exact yC
section
variable  {P:vI}{w:wc}{K:u6}{mg:Str->Option uW}{base:Heap}{f T:Addr}{fd:wO}
theorem ia:aR ["places", "place"] ["places", "place"] (ao cM):=⟨rfl,rfl,rfl,by decide +kernel,rfl,by decide +kernel,by decide +kernel⟩
theorem cA:(["other", "place"]:List Str).Nodup:=by decide +kernel
theorem ib (F:Fun K "without_place" "without_place" cM f fd)(B:Blt mg)(C:Cst mg):bO P w K mg base CX0 1 f fd ["places", "place"] dZ:=by
 refine F.ok ia (λvs H Q E h =>?_) (λcdv A outer s H vs Q E hr h =>?_)
 ·obtain ⟨_,_,_,rfl,_⟩:=cP.mp h
  rfl
 obtain ⟨a,xs,k,rfl,ha,hx,q⟩:=cP.mp h
 refine ⟨_,(@aj _ _ _ (@aO _ _ _ _ (aU bD rfl B.b_tuple cb (@aa _ _ _ _ _ (bN ["other", "place"] [none,some 1] rfl (@dA _ _ _ _ (pv 0)) rfl (λ_ _ _ _ _=>(av (i:=0) cA rfl (Or.inl rfl))) (λ_ _ _ _ _=>(kZ (aA jQ (pv 0) (pv 1) (aB _)))) (λ_ _ _ _ _=>(pv 0))) ah rfl)))),?_⟩
 refine ⟨_,rfl,a,rfl,⟨_,SqT.of ha⟩,cS (xs:=xs.map V.int) (λi zs H'=>H'=H/\zs=((xs.take i).filter λx=>decide (x≠k)).map V.int) ⟨rfl,rfl⟩ (by rw[uT];exact small (by omega)) (λi zs H' _ k=>by rw[k.1];exact SqT.of ha) ?_ ?_⟩
 ·rintro i v zs H' hv hy ⟨rfl,rfl⟩ R1 R0 r1 r0
  obtain ⟨j,ek,rfl⟩:=eD hv
  refine ⟨_,rfl,_,rfl,rfl,_,rfl,?_⟩
  have e:(!decide (V.int j=V.int k))=decide (j≠k):=by
   by_cases c:j=k
   ·subst c;simp
   ·simp[c]
  rw[e]
  refine bz (λz=>⟨_,rfl,r1 _ _ ⟨rfl,?_⟩⟩) (λz=>r0 _ ⟨rfl,?_⟩)
  ·rw[mC ek,if_pos z]
  ·rw[mC ek,if_neg z,wM]
 ·rintro zs H' hy ⟨rfl,rfl⟩ l hl
  rw[uT,fc]
  refine ⟨l,_,rfl,.inl ⟨SqL.of af,λt ht =>?_⟩⟩
  exact q t _ ((ae hl _).trans (ae ht _)) af
end
open PySem L2
def wsum (f:List Int->Bool):List (List Int×Int)->Int
 | []=>0
 | e :: t=>(if f e.1=true then e.2 else 0)+wsum f t
theorem ic (f:List Int->Bool):∀a b:List (List Int×Int),wsum f (a++b)=wsum f a+wsum f b
 | [],b=>by show wsum f b=0+wsum f b;omega
 | e :: t,b=>by
  show _+wsum f (t++b)=(_+wsum f t)+_
  rw[ic f t b];omega
theorem jb {f:List Int->Bool}:∀{Z:List (List Int×Int)},(∀e∈Z,f e.1=false)->wsum f Z=0
 | [],_=>rfl
 | e :: t,h=>by
  show (if f e.1=true then e.2 else 0)+wsum f t=0
  rw[h e vC,if_neg vp,jb λx hx=>h x (vG _ hx)];rfl
theorem ie {f g:List Int->Bool}:∀{Z:List (List Int×Int)},(∀e∈Z,f e.1=g e.1)->wsum f Z=wsum g Z
 | [],_=>rfl
 | e :: t,h=>by
  show (if f e.1=true then e.2 else 0)+wsum f t=(if g e.1=true then e.2 else 0)+wsum g t
  rw[h e vC,ie λx hx=>h x (vG _ hx)]
def rwt (Z:List (List Int×Int))(p q:Int):Int:=wsum (λt=>decide (t=[p,q])) Z
theorem ig (f g:Int->Int):∀L:List Int,(L.map λo=>f o+g o).sum=(L.map f).sum+(L.map g).sum
 | []=>rfl
 | a :: t=>by
  rw[vw,vw,vw,zg,zg,zg,ig f g t];omega
theorem jE {b w:Int}{P:Int->Prop}[DecidablePred P](hP:∀o,P o↔o=b):∀{L:List Int},L.Nodup->(L.map λo=>if P o then w else 0).sum=if b∈L then w else 0
 | [],_=>rfl
 | a :: t,nd=>by
  obtain ⟨na,nt⟩:=xc.mp nd
  rw[vw,zg,jE hP nt]
  by_cases c:a=b
  ·subst c
   rw[if_pos ((hP a).mpr rfl),if_neg na,if_pos vC];omega
  ·rw[if_neg (λz=>c ((hP a).mp z))]
   by_cases d:b∈t
   ·rw[if_pos d,if_pos (vG _ d)];omega
   ·rw[if_neg d,if_neg (λz=>(vM.mp z).elim (λy=>c y.symm) d)];rfl
theorem dF:∀L:List Int,(L.map λ_=>(0:Int)).sum=0
 | []=>rfl
 | a :: t=>by rw[vw,zg,dF t];rfl
theorem mD {L:List Int}(nd:L.Nodup){p:Int}:∀{Z:List (List Int×Int)},(∀e∈Z,∃a b:Int,e.1=[a,b])->(L.map (rwt Z p)).sum=wsum (λt=>decide (t.getD 0 0=p) && decide (t.getD 1 0∈L)) Z
 | [],_=>dF L
 | e :: t,h=>by
  obtain ⟨a,b,ee⟩:=h e vC
  have ih:=mD nd (p:=p) (Z:=t) λx hx=>h x (vG _ hx)
  show (L.map λo=>(if decide (e.1=[p,o])=true then e.2 else 0)+rwt t p o).sum=(if _=true then e.2 else 0)+_
  rw[ig,ih,ee]
  congr 1
  show _=if (decide (a=p) && decide (b∈L))=true then e.2 else 0
  by_cases c:a=p
  ·subst c
   rw[jE (b:=b) (λo =>?_) nd,decide_eq_true rfl,Bool.true_and]
   ·by_cases d:b∈L
    ·rw[if_pos d,if_pos (decide_eq_true d)]
    ·rw[if_neg d,if_neg (λz=>d (of_decide_eq_true z))]
   ·rw[decide_eq_true_iff]
    constructor
    ·intro h;cases h;rfl
    ·rintro rfl;rfl
  ·rw[decide_eq_false c,Cf,if_neg vp]
   rw[show (λo=>if decide ([a,b]=[p,o])=true then e.2 else 0)=λ_=>(0:Int) from funext λo=>if_neg (λz=>c (by have:=of_decide_eq_true z;cases this;rfl))]
   exact dF L
theorem kD {m:Nat}:∀{Z:List (List Int×Int)},(∀e∈Z,∃a b:Int,e.1=[a,b]/\0<=a/\a<m/\0<=b/\b<m)->((rgI m).map λp=>rwt Z p p).sum=wsum (λt=>decide (t.getD 0 0=t.getD 1 0)) Z
 | [],_=>dF _
 | e :: t,h=>by
  obtain ⟨a,b,ee,a0,a1,_⟩:=h e vC
  have ih:=kD (m:=m) (Z:=t) λx hx=>h x (vG _ hx)
  show ((rgI m).map λo=>(if decide (e.1=[o,o])=true then e.2 else 0)+rwt t o o).sum=(if _=true then e.2 else 0)+_
  rw[ig,ih,ee]
  congr 1
  show _=if decide (a=b)=true then e.2 else 0
  by_cases c:a=b
  ·subst c
   rw[jE (b:=a) (λo =>?_) (oo m),if_pos (gv.mpr ⟨a0,a1⟩),if_pos (decide_eq_true rfl)]
   rw[decide_eq_true_iff]
   constructor
   ·intro h;cases h;rfl
   ·rintro rfl;rfl
  ·rw[decide_eq_false c,if_neg vp]
   rw[show (λo=>if decide ([a,b]=[o,o])=true then e.2 else 0)=λ_=>(0:Int) from funext λo=>if_neg (λz=>c (by have:=of_decide_eq_true z;cases this;rfl))]
   exact dF _
structure Rows (H2 H':Hp)(as:List Addr)(vs:List (List Int)):Prop where
 len:vs.length=as.length
 row:∀(j:Nat) a v,as[j]? = some a->vs[j]? = some v->H' a=some (.lst (v.map V.int))
 stay:∀b u,b∉as->H2 b=some u->H' b=some u
theorem Rows.cell {H2 H':Hp}{as:List Addr}{vs:List (List Int)}(R:Rows H2 H' as vs)(nd:as.Nodup){j k:Nat}{a:Addr}{v:List Int}(ea:as[j]? = some a)(ev:vs[j]? = some v)(x:Int) :
  Rows H2 (upd H' a (.lst ((v.map V.int).set k (V.int x)))) as (vs.set j (v.set k x)):=by
 have hj:j<vs.length:=(vb.mp ev).1
 refine ⟨by rw[zO];exact R.len,λi b u eb eu =>?_,λb u hb e =>?_⟩
 ·by_cases h:i=j
  ·subst h
   rw[ea] at eb;cases eb
   rw[xr hj] at eu;cases eu
   rw[af,List.map_set]
  ·rw[x9 (xi h)] at eu
   have ne:b≠a:=λz=>by
    subst z
    have hi:i<as.length:=(vb.mp eb).1
    exact h ((zt hi nd).mp (eb.trans ea.symm))
   rw[ax ne]
   exact R.row i b u eb eu
 ·have ne:b≠a:=λz=>hb (z ▸ vf ea)
  rw[ax ne]
  exact R.stay b u hb e
theorem kE:∀n:Nat,(wg n [V.int 0]).flatten=(wg n (0:Int)).map V.int
 | 0=>rfl
 | n+1=>by rw[xt,xu,kE n,xt];rfl
theorem bJ {m j:Nat}(h:j<m):(rgI m)[j]? = some (j:Int):=by
 unfold rgI
 rw[vi,List.getElem?_range h];rfl
theorem kF (Z:List (List Int×Int))(a b w p q:Int):rwt (Z++[([a,b],w)]) p q=rwt Z p q+if a=p/\b=q then w else 0:=by
 unfold rwt
 rw[ic]
 congr 1
 show (if decide ([a,b]=[p,q])=true then w else 0)+0=_
 by_cases c:a=p/\b=q
 ·obtain ⟨rfl,rfl⟩:=c
  rw[if_pos (decide_eq_true rfl),if_pos ⟨rfl,rfl⟩];omega
 ·rw[if_neg (λz=>c (by have:=of_decide_eq_true z;cases this;exact ⟨rfl,rfl⟩)),if_neg c];rfl
theorem qd {m a b:Nat}(ha:a<m)(hb:b<m){Z:List (List Int×Int)}(n:∀e∈Z,e.1≠[(a:Int),(b:Int)])(w:Int) :
  ((rgI m).map λp=>(rgI m).map (rwt Z p)).set a (((rgI m).map (rwt Z (a:Int))).set b w)=(rgI m).map λp=>(rgI m).map (rwt (Z++[([(a:Int),(b:Int)],w)]) p):=by
 have z:rwt Z a b=0:=jb λe he=>decide_eq_false (n e he)
 apply zp
 intro j
 by_cases hj:j<m
 ·rw[vi,bJ hj]
  by_cases c:a=j
  ·subst c
   rw[xr (by rw[uT,aV];exact ha)]
   show some _=some _
   congr 1
   apply zp
   intro k
   by_cases hk:k<m
   ·rw[vi,bJ hk]
    show _=some (rwt (Z++_) (a:Int) (k:Int))
    rw[kF]
    by_cases d:b=k
    ·subst d
     rw[xr (by rw[uT,aV];exact hb),if_pos ⟨rfl,rfl⟩,z]
     congr 1;omega
    ·rw[x9 d,vi,bJ hk,if_neg (λy=>d (by omega))]
     show some (rwt Z a k)=_
     congr 1;omega
   ·rw[x3 (by rw[zO,uT,aV];omega),x3 (by rw[uT,aV];omega)]
  ·rw[x9 c,vi,bJ hj]
   show some _=some _
   congr 1
   refine yo λq _ =>?_
   rw[kF,if_neg (λy=>c (by omega))];omega
 ·rw[x3 (by rw[zO,uT,aV];omega),x3 (by rw[uT,aV];omega)]
abbrev rP:Sp:=λvs H Q _=>∃(r l:Addr) (m:Nat) (ts:List (Addr×List Int)) (ws:List Int),vs=[.ref r,.ref l]/\Ow H r (m:Int) ts/\m<=5/\ts.length<=200/\(ts.map (·.2)).Nodup/\H l=some (.lst (ws.map V.int))/\ws.length=ts.length/\∀(l':Addr) (as:List Addr) (H':Hp),aD H H'->H' l'=some (.lst (as.map V.ref))->as.length=m->(∀(j:Nat) a,as[j]? = some a->H' a=some (.lst (((rgI m).map (rwt ((ts.map (·.2)).zip ws) (j:Int))).map V.int)))->Q (.ref l') H'
@[irreducible] def rp:Sp:=rP
theorem ij {vs:List V}{H:Hp}{Q:VK}{E:XK}:rp vs H Q E↔rP vs H Q E:=by
 delta rp
 exact yC
section
variable  {P:vI}{w:wc}{K:u6}{mg:Str->Option uW}{base:Heap}{f T:Addr}{fd:wO}
theorem cH:aR ["web", "worths", "rows", "arrow", "worth"] ["web", "worths"] (ao eN):=⟨rfl,rfl,rfl,by decide +kernel,rfl,by decide +kernel,by decide +kernel⟩
theorem du:(["place", "web"]:List Str).Nodup:=by decide +kernel
theorem kG (F:Fun K "worth_rows" "worth_rows" eN f fd)(B:Blt mg)(C:Cst mg):bO P w K mg base CX0 1 f fd ["web", "worths"] rp:=by
 refine F.ok cH (λvs H Q E h =>?_) (λcdv A outer s H vs Q E hr h =>?_)
 ·obtain ⟨_,_,_,_,_,rfl,_⟩:=ij.mp h
  rfl
 obtain ⟨r,l,m,ts,ws,rfl,W,m5,tl,nd,el,lw,q⟩:=ij.mp h
 refine ⟨_,(@ai _ _ _ _ _ (eI (i:=2) ["place", "web"] [none,some 0] rfl cH.nd rfl rfl (bR rfl B.b_range (@aa _ _ _ _ _ (@aI _ _ _ _ _ _ _ aX (pv 0) ag (λ_ _=>rfl)) ah rfl)) rfl (λ_ _ _ _ _=>(av (i:=0) du rfl (Or.inl rfl))) (λ_ _ _ _ _=>cx) (λ_ _ _ _ _=>(@au _ _ _ _ _ _ _ _ sE (@cj _ _ _ _ (@aa _ _ _ _ _ ag ah rfl)) (@aI _ _ _ _ _ _ _ (dO (K:=K)) (pv 1) ag (λ_ _=>rfl)))))
  (@ai _ _ _ _ _ (@bL _ _ _ _ _ _ _ _ wA rfl (jw false true rfl B.b_zip (@aa _ _ _ _ _ (@aI _ _ _ _ _ _ _ aX (pv 0) ag (λ_ _=>rfl)) (@aa _ _ _ _ _ (pv 1) ah rfl) rfl)) (fI rfl (bg (av (i:=3) cH.nd rfl (Or.inl rfl)) (bg (av (i:=4) cH.nd rfl (Or.inl rfl)) dM)))
   (@aj _ _ _ (@jm _ _ _ _ _ _ (pv 4) (kR (@aI _ _ _ _ _ _ _ bG (pv 2) (@aI _ _ _ _ _ _ _ aX (pv 3) ag (λ_ _=>rfl)) (λ_ _=>rfl)) (@aI _ _ _ _ _ _ _ aX (pv 3) ag (λ_ _=>rfl)) set_list) rfl rfl rfl)) (λ_=>rfl))
  (@aj _ _ _ (@aO _ _ _ _ (pv 2))))),?_⟩
 obtain ⟨t,e1,e2⟩:=W.at'
 refine ⟨_,rfl,r,_,0,_,rfl,rfl,SqT.of e1,rfl,(m:Int),rfl,by omega,by omega,?_⟩
 rw[wu]
 refine f7 (λi ys H'=>aD H H'/\∃as:List Addr,ys=as.map V.ref/\as.length=i/\as.Nodup/\∀a∈as,H a=none/\H' a=some (.lst ((wg m (0:Int)).map V.int))) ⟨aD.refl _,[],rfl,rfl,zv,λa ha=>(by cases ha)⟩ (small (by omega)) ?_ ?_
 ·rintro i ys H1 hi hy ⟨s1,as,rfl,la,na,ha⟩ R1 R0 r1 r0
  refine gh ⟨(by show 1<=vm;decide),λl0 hl0 =>?_⟩
  have g2:=ae hl0 (.lst [.int 0])
  have e0:upd H1 l0 (.lst [.int 0]) l0=some (.lst [.int 0]):=af
  generalize upd H1 l0 (.lst [.int 0])=H2 at g2 e0
  have s12:=s1.trans g2
  refine ⟨_,rfl,r,_,0,_,rfl,rfl,SqT.of (s12 _ _ e1),rfl,l0,(m:Int),_,rfl,rfl,e0,by omega,by omega,(by rw[wu];exact small (by show 1*m<=1000;omega)),λp hp =>?_⟩
  rw[wu,kE]
  have g3:=ae hp (.lst ((wg m (0:Int)).map V.int))
  refine r1 _ _ ⟨s12.trans g3,as++[p],by rw[vj];rfl,by rw[u9,la];rfl,?_,λa ha' =>?_⟩
  ·refine BH.mpr ⟨na,xc.mpr ⟨List.not_mem_nil,zv⟩,λx hx y hy e =>?_⟩
   have hy:=vA.mp hy
   rw[e,hy] at hx
   have:=g2 _ _ (ha p hx).2
   rw[hp] at this;cases this
  ·rcases vx.mp ha' with y | y
   ·exact ⟨(ha a y).1,g3 _ _ (g2 _ _ (ha a y).2)⟩
   ·rw[vA.mp y]
    exact ⟨s12.free hp,af⟩
 rintro ys H1 hy ⟨s1,as,rfl,la,na,ha⟩ lr hlr
 have g2:=ae hlr (.lst (as.map V.ref))
 have er:upd H1 lr (.lst (as.map V.ref)) lr=some (.lst (as.map V.ref)):=af
 have nlr:lr∉as:=λh=>by
  have:=(ha lr h).2
  rw[hlr] at this;cases this
 have ha2:∀a∈as,H a=none/\upd H1 lr (.lst (as.map V.ref)) a=some (.lst ((wg m (0:Int)).map V.int)):=λa h=>⟨(ha a h).1,g2 _ _ (ha a h).2⟩
 generalize upd H1 lr (.lst (as.map V.ref))=H2 at g2 er ha2
 have s2:=s1.trans g2
 have e12:=s2 _ _ e1
 have e22:=s2 _ _ e2
 have el2:=s2 _ _ el
 have lz:(ts.map λu=>V.ref u.1).length=ts.length:=uT _
 have lzw:(ws.map V.int).length=ts.length:=by rw[uT,lw]
 have nas:∀{c:Addr} {o:HO},H c=some o->c∉as:=λe h=>by rw[(ha2 _ h).1] at e;cases e
 have R0:Rows H2 H2 as ((rgI m).map λp=>(rgI m).map (rwt (((ts.map (·.2)).zip ws).take 0) p)):=by
  refine ⟨by rw[uT,aV,la],λj a v eja ejv =>?_,λb u _ e=>e⟩
  have hj:j<m:=by have:=(vb.mp eja).1;omega
  rw[vi,bJ hj] at ejv
  rw[<- vR ejv,(ha2 a (vf eja)).2]
  congr 3
  apply yR
  ·rw[AU,uT,aV]
  ·intro k h1 h2
   rw[List.getElem_replicate,List.getElem_map];rfl
 refine ⟨_,rfl,r,_,1,_,rfl,rfl,SqT.of e12,rfl,_,rfl,t,l,rfl,⟨_,SqT.of e22⟩,⟨_,SqL.of el2⟩,ki (c:=false) (d:=true) (xs:=ts.map λu =>.ref u.1) (ys:=ws.map V.int) ts.length (by rw[lz];exact va _) (by rw[lzw];exact va _) (.inl lz.symm) (λi σ H'=>(∃c3 c4,σ=[some (.ref r),some (.ref l),some (.ref lr),c3,c4])/\Rows H2 H' as ((rgI m).map λp=>(rgI m).map (rwt (((ts.map (·.2)).zip ws).take i) p))) ⟨⟨_,_,rfl⟩,R0⟩ (λi σ H' _ k=>⟨SqT.of (k.2.stay _ _ (nas e2) e22),SqL.of (k.2.stay _ _ (nas el) el2)⟩) ?_ ?_⟩
 ·rintro i x y σ H3 T hx hy' hT ⟨⟨c3,c4,rfl⟩,R⟩
  obtain ⟨u,hu,rfl⟩:=dq hx
  obtain ⟨w',ew,rfl⟩:=eD hy'
  have mu:=vf hu
  have hi:=(vb.mp hu).1
  obtain ⟨x',y',e3,x0,x1,y0,y1⟩:=W.rng u mu
  obtain ⟨xa,rfl⟩:∃k:Nat,x'=k:=⟨x'.toNat,by omega⟩
  obtain ⟨yb,rfl⟩:∃k:Nat,y'=k:=⟨y'.toNat,by omega⟩
  have hxa:xa<m:=by omega
  have hyb:yb<m:=by omega
  have gT:=ae hT (.tup [.ref u.1,.int w'])
  have eT:upd H3 T (.tup [.ref u.1,.int w']) T=some (.tup [.ref u.1,.int w']):=af
  have hu3:=R.stay _ _ (nas (W.tup u mu)) (s2 _ _ (W.tup u mu))
  rw[e3] at hu3
  have hu4:=gT _ _ hu3
  have er4:=gT _ _ (R.stay _ _ nlr er)
  have nT:T∉as:=λh=>by
   obtain ⟨j,ej⟩:=v8.mp h
   have hj:=(vb.mp ej).1
   have:=R.row j T _ ej (by rw[vi,bJ (by omega)];rfl)
   rw[hT] at this;cases this
  have R4:Rows H2 (upd H3 T (.tup [.ref u.1,.int w'])) as ((rgI m).map λp=>(rgI m).map (rwt (((ts.map (·.2)).zip ws).take i) p)):=⟨R.len,λj a v h1 h2=>gT _ _ (R.row j a v h1 h2),λb o nb e=>gT _ _ (R.stay b o nb e)⟩
  generalize upd H3 T (.tup [.ref u.1,.int w'])=H4 at gT eT hu4 er4 R4
  refine ⟨T,_,rfl,SqT.of eT,rfl,_,_,rfl,_,_,rfl,rfl,?_⟩
  obtain ⟨a,ea⟩:∃a,as[xa]? = some a:=⟨_,vk (by omega)⟩
  have ev:((rgI m).map λp=>(rgI m).map (rwt (((ts.map (·.2)).zip ws).take i) p))[xa]? = some ((rgI m).map (rwt (((ts.map (·.2)).zip ws).take i) (xa:Int))):=by rw[vi,bJ hxa];rfl
  have hrow:=R4.row xa a _ ea ev
  have lrow:(((rgI m).map (rwt (((ts.map (·.2)).zip ws).take i) (xa:Int))).map V.int).length=m:=by rw[uT,uT,aV]
  have tk:((ts.map (·.2)).zip ws).take (i+1)=((ts.map (·.2)).zip ws).take i++[([(xa:Int),(yb:Int)],w')]:=by
   rw[vQ,show ((ts.map (·.2)).zip ws)[i]? = some ([(xa:Int),(yb:Int)],w') from ?_]
   ·rfl
   ·rw[xf]
    exact ⟨by rw[vi,hu, <- e3];rfl,ew⟩
  have nw:∀e∈((ts.map (·.2)).zip ws).take i,e.1≠[(xa:Int),(yb:Int)]:=λe he z=>by
   obtain ⟨j,ej⟩:=v8.mp he
   have lj:=(vb.mp ej).1
   rw[v3] at lj
   rw[xD (by omega)] at ej
   have e5:=(xf.mp ej).1
   have e6:(ts.map (·.2))[i]? = some [(xa:Int),(yb:Int)]:=by rw[vi,hu, <- e3];rfl
   rw[z] at e5
   have:=(zt (show j<(ts.map (·.2)).length by rw[uT];omega) nd).mp (e5.trans e6.symm)
   omega
  refine ⟨_,rfl,_,rfl,_,rfl,u.1,_,0,_,rfl,rfl,SqT.of hu4,rfl,lr,_,(xa:Int),_,rfl,rfl,SqL.of er4,cB (by rw[vi,ea];rfl),_,rfl,u.1,_,1,_,rfl,rfl,SqT.of hu4,rfl,a,_,(yb:Int),yb,rfl,rfl,hrow,?_,⟨_,_,rfl⟩,?_⟩
  ·rw[lrow]
   unfold ixN
   simp
   omega
  ·rw[tk, <- qd hxa hyb nw w']
   exact R4.cell na ea ev w'
 ·rintro σ H3 ⟨⟨c3,c4,rfl⟩,R⟩
  rw[vD (by rw[yy,uT];omega)] at R
  refine ⟨_,rfl,q lr as H3 (λc o e=>R.stay _ _ (nas e) (s2 _ _ e)) (R.stay _ _ nlr er) la λj a ej =>?_⟩
  have hj:=(vb.mp ej).1
  exact R.row j a _ ej (by rw[vi,bJ (by omega)];rfl)
end
open PySem L2
def kvE (es:List (List Int×Int)):List (List Key×V):=es.map λe=>(e.1.map Sum.inl,V.int e.2)
theorem rq {a b:List Int}(h:(a.map Sum.inl:List Key)=b.map Sum.inl):a=b:=(Bo (λx y e=>by injection e)).mp h
theorem dj (S:List Int):∀es:List (List Int×Int),fj (kvE es) (S.map Sum.inl)=(es.lookup S).map V.int
 | []=>rfl
 | e :: t=>by
  have ih:=dj S t
  show fj ((e.1.map Sum.inl,V.int e.2) :: kvE t) (S.map Sum.inl)=_
  rw[wk]
  by_cases c:e.1=S
  ·rw[fk (by show e.1.map Sum.inl=_;rw[c]),show (S == e.1)=true from by rw[c];exact beq_self_eq_true _];rfl
  ·rw[fm (λz=>c (rq z)),ih,show (S == e.1)=false from beq_eq_false_iff_ne.mpr (λz=>c z.symm)]
theorem mE {es:List (List Int×Int)}{S:List Int}(h:es.lookup S=none)(v:Int):putK (kvE es) (S.map Sum.inl) (V.int v)=kvE (es++[(S,v)]):=by
 rw[pC _ (by rw[dj,h];rfl)]
 unfold kvE
 rw[vj];rfl
theorem gx {f:List Int->Int}{S:List Int}:∀{L:List (List Int)},S∈L->(L.map λS=>(S,f S)).lookup S=some (f S)
 | [],h=>by cases h
 | a :: t,h=>by
  rw[vw,wk]
  by_cases c:S=a
  ·rw[c,show (a == a)=true from beq_self_eq_true _]
  ·rw[show (S == a)=false from beq_eq_false_iff_ne.mpr c]
   exact gx ((vM.mp h).resolve_left c)
theorem mF {f:List Int->Int}{S:List Int}:∀{L:List (List Int)},S∉L->(L.map λS=>(S,f S)).lookup S=none
 | [],_=>rfl
 | a :: t,h=>by
  rw[vw,wk,show (S == a)=false from beq_eq_false_iff_ne.mpr (λz=>h (z ▸ vC))]
  exact mF λz=>h (vG _ z)
def mnL:List Int->Int
 | []=>0
 | [a]=>a
 | a :: b :: t=>if mnL (b :: t)<a then mnL (b :: t) else a
theorem qe:∀{xs:List Int},xs≠[]->mnL xs∈xs/\∀b∈xs,mnL xs<=b
 | [],h=>absurd rfl h
 | [a],_=>⟨vC,λb hb=>by rw[vA.mp hb];exact Int.le_refl _⟩
 | a :: b :: t,_=>by
  obtain ⟨h1,h2⟩:=qe (xs:=b :: t) (by simp)
  show (if mnL (b :: t)<a then mnL (b :: t) else a)∈a :: b :: t/\∀c∈a :: b :: t,(if mnL (b :: t)<a then mnL (b :: t) else a)<=c
  by_cases c:mnL (b :: t)<a
  ·rw[if_pos c]
   refine ⟨vG _ h1,λx hx =>?_⟩
   rcases vM.mp hx with y | y
   ·omega
   ·exact h2 x y
  ·rw[if_neg c]
   refine ⟨vC,λx hx =>?_⟩
   rcases vM.mp hx with y | y
   ·omega
   ·have:=h2 x y;omega
theorem mG {xs:List Int}{M:Int}(h:M∈xs)(h':∀b∈xs,M<=b):M=mnL xs:=by
 obtain ⟨h1,h2⟩:=qe (xs:=xs) (λe=>by rw[e] at h;cases h)
 have:=h' _ h1
 have:=h2 _ h
 omega
def led (Z:List (List Int×Int))(p:Int)(S:List Int):Int:=wsum (λt=>decide (t.getD 0 0=p) && (decide (t.getD 1 0∈S) && decide (t.getD 1 0≠p))) Z
def lp (Z:List (List Int×Int)):Int:=wsum (λt=>decide (t.getD 0 0=t.getD 1 0)) Z
def wo (S:List Int)(p:Int):List Int:=S.filter λx=>decide (x≠p)
def lwF (Z:List (List Int×Int)):Nat->List Int->Int
 | 0,_=>lp Z
 | n+1,S=>if S=[] then lp Z else mnL (S.map λp=>lwF Z n (wo S p)+led Z p S)
def LW (Z:List (List Int×Int))(S:List Int):Int:=lwF Z S.length S
theorem lM {S:List Int}(nd:S.Nodup){p:Int}(h:p∈S):(wo S p).length+1=S.length:=by
 have e:wo S p=S.erase p:=by
  unfold wo
  rw[nd.erase_eq_filter]
  exact List.filter_congr λx _=>by by_cases c:x=p <;> simp[c]
 have:=List.length_pos_of_mem h
 rw[e,List.length_erase_of_mem h];omega
theorem mH (Z:List (List Int×Int)){S:List Int}(nd:S.Nodup)(ne:S≠[]):LW Z S=mnL (S.map λp=>LW Z (wo S p)+led Z p S):=by
 obtain ⟨n,hn⟩:∃n,S.length=n+1:=⟨S.length-1,by have:=zV.mpr ne;omega⟩
 unfold LW
 rw[hn]
 show (if S=[] then lp Z else _)=_
 rw[if_neg ne]
 congr 1
 refine yo λp hp =>?_
 have:=lM nd hp
 rw[show (wo S p).length=n by omega]
theorem qf {Z:List (List Int×Int)}(pr:∀e∈Z,∃a b:Int,e.1=[a,b]){S:List Int}(nd:S.Nodup)(p:Int):((wo S p).map (rwt Z p)).sum=led Z p S:=by
 rw[mD (L:=wo S p) (nd.filter _) pr]
 unfold led
 refine ie λe _ =>?_
 congr 1
 rw[w9,decide_eq_true_iff,wN,decide_eq_true_iff,decide_eq_true_iff]
 unfold wo
 rw[yg,decide_eq_true_iff]
structure Grd (H:Hp)(rl:Addr)(m:Nat)(Z:List (List Int×Int))(as:List Addr):Prop where
 at':H rl=some (.lst (as.map V.ref))
 len:as.length=m
 row:∀(j:Nat) a,as[j]? = some a->H a=some (.lst (((rgI m).map (rwt Z (j:Int))).map V.int))
theorem Grd.same {H H':Hp}{rl:Addr}{m:Nat}{Z:List (List Int×Int)}{as:List Addr}(g:Grd H rl m Z as)(s:aD H H'):Grd H' rl m Z as:=⟨s _ _ g.at',g.len,λj a e=>s _ _ (g.row j a e)⟩
abbrev rQ:Sp:=λvs H Q _=>∃(rl dd pl:Addr) (m:Nat) (as:List Addr) (Z es:List (List Int×Int)) (S:List Int) (p L:Int),vs=[.ref rl,.ref dd,.ref pl,.int p]/\Grd H rl m Z as/\H dd=some (.dT (kvE es))/\H pl=some (.tup (S.map V.int))/\S.length<=9/\(∀v∈S,0<=v/\v<m)/\0<=p/\p<m/\es.lookup (wo S p)=some L/\∀H',aD H H'->Q (.int (L+((wo S p).map (rwt Z p)).sum)) H'
@[irreducible] def rz:Sp:=rQ
theorem ik {vs:List V}{H:Hp}{Q:VK}{E:XK}:rz vs H Q E↔rQ vs H Q E:=by
 delta rz
 exact yC
section
variable  {P:vI}{w:wc}{K:u6}{mg:Str->Option uW}{base:Heap}{f T:Addr}{fd:wO}
theorem fF:aR ["rows", "least", "places", "place", "rest"] ["rows", "least", "places", "place"] (ao cE):=⟨rfl,rfl,rfl,by decide +kernel,rfl,by decide +kernel,by decide +kernel⟩
theorem cc:(["other", "rows", "place"]:List Str).Nodup:=by decide +kernel
theorem jF (F:Fun K "last_weight" "last_weight" cE f fd)(B:Blt mg)(cWithoutPlace:Cal P w K mg base 1 "without_place" ["places", "place"] dZ)(C:Cst mg):bO P w K mg base CX0 2 f fd ["rows", "least", "places", "place"] rz:=by
 refine F.ok fF (λvs H Q E h =>?_) (λcdv A outer s H vs Q E hr h =>?_)
 ·obtain ⟨_,_,_,_,_,_,_,_,_,_,rfl,_⟩:=ik.mp h
  rfl
 obtain ⟨rl,dd,pl,m,as,Z,es,S,p,L,rfl,G,ed,ep,l9,rg,p0,p1,eL,q⟩:=ik.mp h
 have hu:(fM CX0 P w K mg base ["rows", "least", "places", "place", "rest"] "last_weight" (ao cE) f cdv A outer s H E).nox.A.units+1<cLine:=iP hr
 refine ⟨_,(@ai _ _ _ _ _ (@az _ _ 4 _ _ _ _ fF.nd rfl (Or.inl rfl) (aH cWithoutPlace hr (by decide) rfl (@aa _ _ _ _ _ (pv 2) (@aa _ _ _ _ _ (pv 3) ah rfl) rfl)) rfl (by first | exact .inl rfl | exact .inr rfl | assumption))
  (@aj _ _ _ (@aO _ _ _ _ (@au _ _ _ _ _ _ _ _ bB (fq hu (pv 1) (pv 4) (λ_ _=>rfl)) (aS (gO hr.hd) rfl B.b_sum lK (@aa _ _ _ _ _ (bN ["other", "rows", "place"] [none,some 0,some 3] rfl (@dA _ _ _ _ (pv 4)) rfl (λ_ _ _ _ _=>(av (i:=0) cc rfl (Or.inl rfl))) (λ_ _ _ _ _=>cx) (λ_ _ _ _ _=>(@aI _ _ _ _ _ _ _ (eZ (K:=K)) (@aI _ _ _ _ _ _ _ (eZ (K:=K)) (pv 1) (pv 2) (λ_ _=>rfl)) (pv 0) (λ_ _=>rfl)))) ah rfl)))))),?_⟩
 refine ⟨_,rfl,_,rfl,cP.mpr ⟨pl,S,p,rfl,ep,by omega,λrs H1 s1 er =>?_⟩⟩
 have er:H1 rs=some (.tup ((wo S p).map V.int)):=er
 have er':H1 rs=some (.tup (((wo S p).map (Sum.inl:Int->Key)).map kV)):=by rw[v9];exact er
 have hw:∀v∈wo S p,0<=v/\v<m:=λv hv=>rg v (yg.mp hv).1
 have lw9:(wo S p).length<=9:=vP (List.length_filter_le _ _) l9
 have G1:=G.same s1
 obtain ⟨pn,rfl⟩:∃k:Nat,p=k:=⟨p.toNat,by omega⟩
 obtain ⟨a,ea⟩:∃a,as[pn]? = some a:=⟨_,vk (by rw[G.len];omega)⟩
 have hrow:=G1.row pn a ea
 refine ⟨_,rfl,_,rfl,dd,.int L,rfl,by have:=iA.t (s1 _ _ ed) er';rw[dj,eL] at this;exact this,?_⟩
 refine ⟨_,rfl,rs,rfl,⟨_,SqT.of er⟩,cS (xs:=(wo S pn).map V.int) (λi ys H'=>H'=H1/\ys=(((wo S pn).take i).map (rwt Z (pn:Int))).map V.int) ⟨rfl,rfl⟩ (by rw[uT];exact small (by omega)) (λi ys H' _ k=>by rw[k.1];exact SqT.of er) ?_ ?_⟩
 ·rintro i x ys H2 hx hy ⟨eH,rfl⟩ R1 R0 r1 r0
  obtain ⟨v,ev,rfl⟩:=eD hx
  obtain ⟨v0,v1⟩:=hw v (vf ev)
  obtain ⟨vn,rfl⟩:∃k:Nat,v=k:=⟨v.toNat,by omega⟩
  rw[eH]
  refine gh ⟨_,rfl,_,rfl,rl,_,(pn:Int),_,rfl,rfl,SqL.of G1.at',cB (by rw[vi,ea];rfl),_,rfl,a,_,(vn:Int),_,rfl,rfl,SqL.of hrow,cB (by rw[vi,vi,bJ (by omega)];rfl),r1 _ _ ⟨rfl,?_⟩⟩
  rw[vQ,ev,vj,vj];rfl
 ·rintro ys H2 hy ⟨eH,rfl⟩ l hl
  rw[eH] at hl ⊢
  rw[uT,vD (va _)]
  exact ⟨l,_,rfl,af,_,_,rfl,rfl,q _ (s1.trans (ae hl _))⟩
end
open PySem L2
theorem ck (m:Nat):SS (rgI m):=kB m
theorem bV {α:Type}{l:List α}{i:Nat}{x:α}(e:l[i]? = some x):i<l.length:=(vb.mp e).1
structure Sz (m:Nat)(Ls:List (List Int)):Prop where
 pm:Ls.Perm (sbs (rgI m))
 so:Ls.Pairwise λx y=>x.length<=y.length
theorem Sz.mem {m:Nat}{Ls:List (List Int)}(z:Sz m Ls){S:List Int}:S∈Ls↔SS S/\∀v∈S,0<=v/\v<m:=by
 rw[z.pm.mem_iff,di (ck m)]
 exact and_congr_right λ_=>⟨λh v hv=>gv.mp (h v hv),λh v hv=>gv.mpr (h v hv)⟩
theorem Sz.len {m:Nat}{Ls:List (List Int)}(z:Sz m Ls):Ls.length=2 ^ m:=by rw[z.pm.length_eq,fD,aV]
theorem Sz.tQ {m:Nat}{Ls:List (List Int)}(z:Sz m Ls){S:List Int}(h:S∈Ls):S.length<=m:=by
 have:=fE _ _ (z.pm.mem_iff.mp h)
 rwa [aV] at this
theorem Sz.nd {m:Nat}{Ls:List (List Int)}(z:Sz m Ls):Ls.Nodup:=z.pm.nodup_iff.mpr (lL (ck m))
theorem Sz.new {m:Nat}{Ls:List (List Int)}(z:Sz m Ls){i:Nat}{S:List Int}(e:Ls[i]? = some S):S∉Ls.take i:=λh=>by
 obtain ⟨j,hj⟩:=yf h
 have h1:=bV hj
 rw[v3] at h1
 rw[xD (by omega)] at hj
 have:=(zt (bV hj) z.nd).mp (hj.trans e.symm)
 omega
theorem Sz.early {m:Nat}{Ls:List (List Int)}(z:Sz m Ls){i:Nat}{S:List Int}(e:Ls[i]? = some S){p:Int}(hp:p∈S):wo S p∈Ls.take i:=by
 obtain ⟨s1,s2⟩:=z.mem.mp (vf e)
 have hm:wo S p∈Ls:=z.mem.mpr ⟨fR _ s1,λv hv=>s2 v (yg.mp hv).1⟩
 have hl:=lM (dE s1) hp
 obtain ⟨j,hj⟩:=yf hm
 have lj:=bV hj
 have li:=bV e
 by_cases c:j<i
 ·refine vf (i:=j) ?_
  rw[xD c];exact hj
 ·exfalso
  by_cases d:j=i
  ·subst d
   rw[hj] at e
   rw[vR e] at hl;omega
  ·have:=yN.mp z.so i j li lj (by omega)
   rw[(vb.mp e).2,(vb.mp hj).2] at this
   omega
def Sb (H:Hp)(d:Addr)(H':Hp):Prop:=∀a o,H a=some o->a≠d->H' a=some o
theorem Sb.trans {H H1 H2:Hp}{d:Addr}(b:Sb H d H1)(s:aD H1 H2):Sb H d H2:=λa o e n=>s _ _ (b a o e n)
theorem Sb.set {H H1:Hp}{d:Addr}(b:Sb H d H1)(o:HO):Sb H d (upd H1 d o):=λa o' e n=>by rw[ax n];exact b a o' e n
theorem Sb.grd {H H1:Hp}{d:Addr}(b:Sb H d H1){rl:Addr}{m:Nat}{Z:List (List Int×Int)}{as:List Addr}(g:Grd H rl m Z as)(n1:rl≠d)(n2:∀a∈as,a≠d):Grd H1 rl m Z as:=⟨b _ _ g.at' n1,g.len,λj a e=>b _ _ (g.row j a e) (n2 a (vf e))⟩
def cn (Z:List (List Int×Int))(Ls:List (List Int)):List (List Int×Int):=Ls.map λS=>(S,LW Z S)
theorem kH {Z:List (List Int×Int)}{Ls:List (List Int)}{m i:Nat}{S:List Int}(z:Sz m Ls)(e:Ls[i]? = some S):putK (kvE (cn Z (Ls.take i))) (S.map Sum.inl) (V.int (LW Z S))=kvE (cn Z (Ls.take (i+1))):=by
 unfold cn
 rw[mE (mF (z.new e)),vQ,e,vj];rfl
abbrev rR:Sp:=λvs H Q _=>∃(rl:Addr) (m:Nat) (as:List Addr) (Z:List (List Int×Int)),vs=[.int m,.ref rl]/\Grd H rl m Z as/\m<=5/\(∀e∈Z,∃a b:Int,e.1=[a,b]/\0<=a/\a<m/\0<=b/\b<m)/\∀(dd:Addr) (Ls:List (List Int)) (H':Hp),aD H H'->Sz m Ls->H' dd=some (.dT (kvE (cn Z Ls)))->Q (.ref dd) H'
@[irreducible] def rA:Sp:=rR
theorem il {vs:List V}{H:Hp}{Q:VK}{E:XK}:rA vs H Q E↔rR vs H Q E:=by
 delta rA
 exact yC
section
variable  {P:vI}{w:wc}{K:u6}{mg:Str->Option uW}{base:Heap}{f T:Addr}{fd:wO}
theorem dk:aR ["many", "rows", "least", "places"] ["many", "rows"] (ao cF):=⟨rfl,rfl,rfl,by decide +kernel,rfl,by decide +kernel,by decide +kernel⟩
theorem cX:(["place", "rows"]:List Str).Nodup:=by decide +kernel
theorem bC:(["place", "rows", "least", "places"]:List Str).Nodup:=by decide +kernel
theorem jG (F:Fun K "set_weights" "set_weights" cF f fd)(B:Blt mg)(cAllSets:Cal P w K mg base 1 "all_sets" ["places"] dX)(cLastWeight:Cal P w K mg base 2 "last_weight" ["rows", "least", "places", "place"] rz)(C:Cst mg):bO P w K mg base CX0 3 f fd ["many", "rows"] rA:=by
 refine F.ok dk (λvs H Q E h =>?_) (λcdv A outer s H vs Q E hr h =>?_)
 ·obtain ⟨_,_,_,_,rfl,_⟩:=il.mp h
  rfl
 obtain ⟨rl,m,as,Z,rfl,G,m5,pr,q⟩:=il.mp h
 have hu:(fM CX0 P w K mg base ["many", "rows", "least", "places"] "set_weights" (ao cF) f cdv A outer s H E).nox.A.units+1<cLine:=iP hr
 refine ⟨_,(@ai _ _ _ _ _ (@az _ _ 2 _ _ _ _ dk.nd rfl (Or.inr rfl) gQ rfl (by first | exact .inl rfl | exact .inr rfl | assumption))
  (@ai _ _ _ _ _ (@bL _ _ _ _ _ _ _ _ wA rfl (@bW _ _ _ _ (aH cAllSets hr (by decide) rfl (@aa _ _ _ _ _ (aU (dD hr.hd) rfl B.b_tuple cb (@aa _ _ _ _ _ (aU dC rfl B.b_range hU (@aa _ _ _ _ _ (pv 0) ah rfl)) ah rfl)) ah rfl))) (av (i:=3) dk.nd rfl (Or.inr rfl))
   (@aj _ _ _ (@bo _ _ _ _ _ _ _ _ (aA (ml hr) (pv 3) (@ba _ _ _ _ _ ah) (aB _)) (@aj _ _ _ (gr hu (pv 2) (pv 3) (aS (gO hr.hd) rfl B.b_sum lK (@aa _ _ _ _ _ (bN ["place", "rows"] [none,some 1] rfl (bR rfl B.b_range (@aa _ _ _ _ _ (pv 0) ah rfl)) rfl (λ_ _ _ _ _=>(av (i:=0) cX rfl (Or.inl rfl))) (λ_ _ _ _ _=>cx) (λ_ _ _ _ _=>(@aI _ _ _ _ _ _ _ (eZ (K:=K)) (@aI _ _ _ _ _ _ _ (eZ (K:=K)) (pv 1) (pv 0) (λ_ _=>rfl)) (pv 0) (λ_ _=>rfl)))) ah rfl)) rfl)) (@aj _ _ _ (gr hu (pv 2) (pv 3) (aS (i3 rfl) rfl B.b_min jB (@aa _ _ _ _ _ (bN ["place", "rows", "least", "places"] [none,some 1,some 2,some 3] rfl (@dA _ _ _ _ (pv 3)) rfl (λ_ _ _ _ _=>(av (i:=0) bC rfl (Or.inl rfl))) (λ_ _ _ _ _=>cx) (λ_ _ _ _ _=>(aH cLastWeight hr (by decide) rfl (@aa _ _ _ _ _ (pv 1) (@aa _ _ _ _ _ (pv 2) (@aa _ _ _ _ _ (pv 3) (@aa _ _ _ _ _ (pv 0) ah rfl) rfl) rfl) rfl)))) ah rfl)) rfl)))) (λ_=>rfl))
  (@aj _ _ _ (@aO _ _ _ _ (pv 2))))),?_⟩
 refine λdd hdd =>?_
 have g0:=ae hdd (.dT [])
 have e0:upd H dd (.dT []) dd=some (.dT []):=af
 generalize upd H dd (.dT [])=H0 at g0 e0
 refine ⟨_,rfl,(m:Int),rfl,λrg hrg=>⟨rg,m,rfl,af,by omega,λtl htl =>?_⟩⟩
 have g1:=(ae hrg (.rng 0 m)).trans (ae htl (.tup ((wF m).map λi=>V.int (i:Nat))))
 have e1:upd (upd H0 rg (.rng 0 m)) tl (.tup ((wF m).map λi=>V.int (i:Nat))) tl=some (.tup ((rgI m).map V.int)):=by rw[af];unfold rgI;rw[v9];rfl
 generalize upd (upd H0 rg (.rng 0 m)) tl (.tup ((wF m).map λi=>V.int (i:Nat)))=H1 at g1 e1
 refine cO.mpr ⟨tl,rgI m,rfl,e1,by rw[aV];omega,λl us H2 s2 hl el tu pm so =>?_⟩
 have z:Sz m (us.map (·.2)):=⟨pm,so⟩
 have s01:=g1.trans s2
 have ed2:=s01 _ _ e0
 have gH2:=g0.trans s01
 have G2:=G.same gH2
 have nrl:rl≠dd:=ak G.at' hdd
 have nas:∀a∈as,a≠dd:=λa ha=>by
  obtain ⟨j,hj⟩:=yf ha
  exact ak (G.row j a hj) hdd
 have nl:l≠dd:=λh=>by
  rw[h,g1 _ _ e0] at hl;cases hl
 have nus:∀u∈us,u.1≠dd:=λu hu h=>by
  have:=tu u hu
  rw[h,ed2] at this;cases this
 have lus:us.length<=32:=by
  have:=z.len
  rw[uT] at this
  have:2 ^ m<=2 ^ 5:=xJ (by decide) m5
  omega
 refine ⟨l,rfl,⟨_,SqL.of el⟩,eU (xs:=us.map λu =>.ref u.1) (λi σ H'=>(∃c3,σ=[some (.int m),some (.ref rl),some (.ref dd),c3])/\Sb H2 dd H'/\H' dd=some (.dT (kvE (cn Z ((us.map (·.2)).take i))))) ⟨⟨_,rfl⟩,λa o e _=>e,ed2⟩ (λi σ H' _ k=>SqL.of (k.2.1 _ _ el nl)) ?_ ?_⟩
 ·rintro i x σ H' hx ⟨⟨c3,rfl⟩,sb,ed⟩
  obtain ⟨u,eu,rfl⟩:=dq hx
  have mu:=vf eu
  have eS:(us.map (·.2))[i]? = some u.2:=by rw[vi,eu];rfl
  have mS:=vf eS
  obtain ⟨sS,rS⟩:=z.mem.mp mS
  have tu1:=sb _ _ (tu u mu) (nus u mu)
  have tk:∀{H3:Hp},aD H' H3->H3 u.1=some (.tup (((u.2.map (Sum.inl:Int->Key))).map kV)):=λs=>by
   rw[s _ _ tu1,v9];rfl
  have li:(kvE (cn Z ((us.map (·.2)).take i))).length<vm:=by
   unfold kvE cn
   rw[uT,uT,v3,uT];exact hV (by omega)
  have fin:∀{H3:Hp},aD H' H3->∃H4,j7 H3 dd (.ref u.1) (.int (LW Z u.2)) H4/\Sb H2 dd H4/\H4 dd=some (.dT (kvE (cn Z ((us.map (·.2)).take (i+1))))):=λ{H3} s=>⟨_,j7.t (s _ _ ed) (tk s) li,(sb.trans s).set _,by rw[af,kH z eS]⟩
  refine ⟨_,rfl,(by show 0<=vm;decide),λt0 ht0=>⟨u.1,t0,u.2,[],rfl,rfl,SqT.of ((ae ht0 _) _ _ tu1),SqT.of af,?_⟩⟩
  have g3:=ae ht0 (.tup [])
  generalize upd H' t0 (.tup [])=H3 at g3
  have G3:Grd H3 rl m Z as:=(sb.grd G2 nrl nas).same g3
  refine ⟨_,rfl,bz (λc =>?_) (λc =>?_)⟩
  ·have c:=of_decide_eq_true c
   refine ⟨_,rfl,(m:Int),rfl,by omega,by omega,?_⟩
   rw[wu]
   refine f7 (λk ys H4=>H4=H3/\ys=(((rgI m).take k).map λp=>rwt Z p p).map V.int) ⟨rfl,rfl⟩ (small (by omega)) ?_ ?_
   ·rintro k ys H4 hk hy ⟨rfl,rfl⟩ R1 R0 r1 r0
    obtain ⟨a,ea⟩:∃a,as[k]? = some a:=⟨_,vk (by rw[G.len];omega)⟩
    rw[show (0:Int)+(k:Int)=k by omega]
    refine gh ⟨_,rfl,_,rfl,rl,_,(k:Int),_,rfl,rfl,SqL.of G3.at',cB (by rw[vi,ea];rfl),_,rfl,a,_,(k:Int),_,rfl,rfl,SqL.of (G3.row k a ea),cB (by rw[vi,vi,bJ (by omega)];rfl),r1 _ _ ⟨rfl,?_⟩⟩
    rw[vQ,bJ hk,vj,vj];rfl
   ·rintro ys H4 hy ⟨rfl,rfl⟩ l4 hl4
    rw[vD (by rw[aV];exact va _)]
    obtain ⟨H5,dp,sb5,ed5⟩:=fin (g3.trans (ae hl4 _))
    refine ⟨l4,_,rfl,af,_,rfl,_,rfl,dd,H5,rfl,?_,⟨_,rfl⟩,sb5,ed5⟩
    rw[kD pr,show wsum (λt=>decide (t.getD 0 0=t.getD 1 0)) Z=LW Z u.2 by rw[c];rfl]
    exact dp
  ·have c:u.2≠[]:=λe=>c (decide_eq_true e)
   refine ⟨_,rfl,u.1,rfl,⟨_,SqT.of (g3 _ _ tu1)⟩,cS (xs:=u.2.map V.int) (λk ys H4=>aD H3 H4/\ys=((u.2.take k).map λp=>LW Z (wo u.2 p)+led Z p u.2).map V.int) ⟨aD.refl _,rfl⟩ (by rw[uT];have:=z.tQ mS;exact small (by omega)) (λk ys H4 _ h=>SqT.of (h.1 _ _ (g3 _ _ tu1))) ?_ ?_⟩
   ·rintro k x ys H4 hx hy ⟨s4,rfl⟩ R1 R0 r1 r0
    obtain ⟨v,ev,rfl⟩:=eD hx
    have mv:=vf ev
    obtain ⟨v0,v1⟩:=rS v mv
    refine gh ⟨_,rfl,_,rfl,_,rfl,_,rfl,ik.mpr ⟨rl,dd,u.1,m,as,Z,cn Z ((us.map (·.2)).take i),u.2,v,LW Z (wo u.2 v),rfl,G3.same s4,s4 _ _ (g3 _ _ ed),s4 _ _ (g3 _ _ tu1),by have:=z.tQ mS;omega,rS,v0,v1,gx (z.early eS mv),λH5 s5=>r1 _ _ ⟨s4.trans s5,?_⟩⟩⟩
    rw[qf (λe he=>let ⟨a,b,h,_⟩:=pr e he;⟨a,b,h⟩) (dE sS),vQ,ev,vj,vj];rfl
   ·rintro ys H4 hy ⟨s4,rfl⟩ l4 hl4
    rw[uT,vD (va _)]
    refine ⟨l4,_,rfl,SqL.of af,λe=>c (zT.mp e),λM m1 m2 =>?_⟩
    obtain ⟨H5,dp,sb5,ed5⟩:=fin ((g3.trans s4).trans (ae hl4 _))
    refine ⟨_,rfl,_,rfl,dd,H5,rfl,?_,⟨_,rfl⟩,sb5,ed5⟩
    rw[mG m1 m2, <- mH Z (dE sS) c]
    exact dp
 ·rintro σ H' ⟨⟨c3,rfl⟩,sb,ed⟩
  rw[uT,vD (by rw[uT];exact va _)] at ed
  exact ⟨_,rfl,q dd _ H' (λa o e=>sb a o (gH2 _ _ e) (ak e hdd)) z ed⟩
end
open PySem L2
def Right (Z:List (List Int×Int))(m:Nat)(weight:Int)(es:List (List Int×Int)):Prop:=(es.Perm (cn Z (sbs (rgI m)))/\es.Pairwise λx y=>Srt.qLt y x=false)/\weight=LW Z (rgI m)
theorem qg:∀{a b:List (List Int×Int)},a.Perm b->(a.Pairwise λx y=>Srt.qLt y x=false)->(b.Pairwise λx y=>Srt.qLt y x=false)->a=b:=λ{a b} pm ha hb =>
 pm.eq_of_pairwise (λx y _ _ h1 h2=>Srt.fP _ _ h2 h1) ha hb
theorem jf {Z:List (List Int×Int)}{m:Nat}{Ls:List (List Int)}(z:Sz m Ls):(cn Z Ls).Perm (cn Z (sbs (rgI m))):=z.pm.map _
theorem Sz.all {m:Nat}{Ls:List (List Int)}(z:Sz m Ls):rgI m∈Ls:=z.mem.mpr ⟨ck m,λv hv=>gv.mp hv⟩
theorem tR {H:Hp}{r:Addr}{m:Nat}{ts:List (Addr×List Int)}(W:Ow H r (m:Int) ts)(ws:List Int):∀e∈(ts.map (·.2)).zip ws,∃a b:Int,e.1=[a,b]/\0<=a/\a<m/\0<=b/\b<m:=λe he=>by
 obtain ⟨h1,_⟩:=y3 he
 obtain ⟨u,hu,eu⟩:=wq.mp h1
 rw[<- eu]
 exact W.rng u hu
theorem aF {H H':Hp}{us:List (Addr×(Addr×List Int)×Int)}(t:cV H us)(s:aD H H'):cV H' us:=λu hu=>⟨s _ _ (t u hu).1,s _ _ (t u hu).2⟩
abbrev qh:Sp:=λvs H Q _=>∃(r:Addr) (m:Nat) (ts:List (Addr×List Int)),vs=[.ref r]/\Ow H r (m:Int) ts/\m<=5/\Q .non H
@[irreducible] def mI:Sp:=qh
theorem fS {vs:List V}{H:Hp}{Q:VK}{E:XK}:mI vs H Q E↔qh vs H Q E:=by
 delta mI
 exact yC
section
variable  {P:vI}{w:wc}{K:u6}{mg:Str->Option uW}{base:Heap}{f T:Addr}{fd:wO}
theorem ox:aR ["web"] ["web"] (ao gX):=⟨rfl,rfl,rfl,by decide +kernel,rfl,by decide +kernel,by decide +kernel⟩
theorem oy (F:Fun K "look_few" "look_few" gX f fd)(B:Blt mg)(C:Cst mg):bO P w K mg base CX0 1 f fd ["web"] mI:=by
 refine F.ok ox (λvs H Q E h =>?_) (λcdv A outer s H vs Q E hr h =>?_)
 ·obtain ⟨_,_,_,rfl,_⟩:=fS.mp h
  rfl
 obtain ⟨r,m,ts,rfl,W,m5,q⟩:=fS.mp h
 obtain ⟨t_MOST_ORDERED,w_MOST_ORDERED⟩:=C.c_MOST_ORDERED
 refine ⟨_,(@aj _ _ _ (@bo _ _ _ _ _ _ _ _ (aA oR (@aI _ _ _ _ _ _ _ aX (pv 0) ag (λ_ _=>rfl)) (qx (v :=.int 7) rfl w_MOST_ORDERED ⟨_,rfl⟩) (aB _)) fH aP)),?_⟩
 obtain ⟨t,e1,e2⟩:=W.at'
 refine ⟨_,rfl,r,_,0,_,rfl,rfl,SqT.of e1,rfl,(m:Int),7,rfl,rfl,_,rfl,bz (λc =>?_) (λc =>?_)⟩
 ·exfalso
  have:=of_decide_eq_true c
  omega
 ·exact q
end
abbrev rT:Sp:=λvs H Q _=>∃(r l t:Addr) (m:Nat) (ts:List (Addr×List Int)) (ws:List Int) (weight:Int) (us:List (Addr×(Addr×List Int)×Int)),vs=[.ref r,.ref l,.int weight,.ref t]/\Ow H r (m:Int) ts/\m<=5/\ts.length<=200/\(ts.map (·.2)).Nodup/\H l=some (.lst (ws.map V.int))/\ws.length=ts.length/\(H t=some (.lst (us.map λu=>V.ref u.1))\/H t=some (.tup (us.map λu=>V.ref u.1)))/\cV H us/\us.length<=100/\∀(b:Bool) (H':Hp),aD H H'->(b=true↔Right ((ts.map (·.2)).zip ws) m weight (us.map aQ))->Q (.bl b) H'
@[irreducible] def rB:Sp:=rT
theorem ip {vs:List V}{H:Hp}{Q:VK}{E:XK}:rB vs H Q E↔rT vs H Q E:=by
 delta rB
 exact yC
section
variable  {P:vI}{w:wc}{K:u6}{mg:Str->Option uW}{base:Heap}{f T:Addr}{fd:wO}
theorem dm:aR ["web", "worths", "weight", "table", "least", "told"] ["web", "worths", "weight", "table"] (ao cG):=⟨rfl,rfl,rfl,by decide +kernel,rfl,by decide +kernel,by decide +kernel⟩
theorem fU:(["row"]:List Str).Nodup:=by decide +kernel
theorem jH (F:Fun K "table_shows" "table_shows" cG f fd)(B:Blt mg)(cLookFew:Cal P w K mg base 1 "look_few" ["web"] mI)(cSetWeights:Cal P w K mg base 3 "set_weights" ["many", "rows"] rA)(cWorthRows:Cal P w K mg base 1 "worth_rows" ["web", "worths"] rp)(C:Cst mg):bO P w K mg base CX0 4 f fd ["web", "worths", "weight", "table"] rB:=by
 refine F.ok dm (λvs H Q E h =>?_) (λcdv A outer s H vs Q E hr h =>?_)
 ·obtain ⟨_,_,_,_,_,_,_,_,rfl,_⟩:=ip.mp h
  rfl
 obtain ⟨r,l,t,m,ts,ws,weight,us,rfl,W,m5,tl,nd,el,lw,et,en,lu,q⟩:=ip.mp h
 have hu:(fM CX0 P w K mg base ["web", "worths", "weight", "table", "least", "told"] "table_shows" (ao cG) f cdv A outer s H E).nox.A.units+1<cLine:=iP hr
 refine ⟨_,(@ai _ _ _ _ _ (dJ (aH cLookFew hr (by decide) rfl (@aa _ _ _ _ _ (pv 0) ah rfl)))
  (@ai _ _ _ _ _ (@az _ _ 4 _ _ _ _ dm.nd rfl (Or.inl rfl) (aH cSetWeights hr (by decide) rfl (@aa _ _ _ _ _ (@aI _ _ _ _ _ _ _ aX (pv 0) ag (λ_ _=>rfl)) (@aa _ _ _ _ _ (aH cWorthRows hr (by decide) rfl (@aa _ _ _ _ _ (pv 0) (@aa _ _ _ _ _ (pv 1) ah rfl) rfl)) ah rfl) rfl)) rfl (by first | exact .inl rfl | exact .inr rfl | assumption))
  (@ai _ _ _ _ _ (eI (i:=5) ["row"] [none] rfl dm.nd rfl rfl (sW (pv 3)) rfl (λ_ _ _ _ _=>(av (i:=0) fU rfl (Or.inl rfl))) (λ_ _ _ _ _=>cx) (λ_ _ _ _ _=>(@ba _ _ _ _ _ (@aa _ _ _ _ _ (aU (gm (K:=K)) rfl B.b_tuple cb (@aa _ _ _ _ _ (@aI _ _ _ _ _ _ _ (dO (K:=K)) (pv 0) ag (λ_ _=>rfl)) ah rfl)) (@aa _ _ _ _ _ (@aI _ _ _ _ _ _ _ (dO (K:=K)) (pv 0) ag (λ_ _=>rfl)) ah rfl) rfl))))
  (@aj _ _ _ (@aO _ _ _ _ (sf (eV (rj hr) (pv 5) (aS (eE hr.hd (hu8 hr)) rfl B.b_sorted cW (@aa _ _ _ _ _ (oW Ay zf Az i8 (pv 4)) ah rfl)) (aB _)) (se (eV bZ (pv 2) (fq hu (pv 4) (aU (dD hr.hd) rfl B.b_tuple cb (@aa _ _ _ _ _ (aU dC rfl B.b_range hU (@aa _ _ _ _ _ (@aI _ _ _ _ _ _ _ aX (pv 0) ag (λ_ _=>rfl)) ah rfl)) ah rfl)) (λ_ _=>rfl)) (aB _))))))))),?_⟩
 obtain ⟨t',e1,e2⟩:=W.at'
 refine ⟨_,rfl,fS.mpr ⟨r,m,ts,rfl,W,m5,?_⟩⟩
 refine ⟨_,rfl,r,_,0,_,rfl,rfl,SqT.of e1,rfl,_,rfl,_,rfl,ij.mpr ⟨r,l,m,ts,ws,rfl,W,m5,tl,nd,el,lw,λrl as H1 s1 erl la row=>il.mpr ⟨rl,m,as,_,rfl,⟨erl,la,row⟩,m5,tR W ws,λdd Ls H2 s2 z ed =>?_⟩⟩⟩
 have s02:=s1.trans s2
 have et2:H2 t=some (.lst (us.map λu=>V.ref u.1))\/H2 t=some (.tup (us.map λu=>V.ref u.1)):=et.imp (s02 _ _) (s02 _ _)
 have en2:=aF en s02
 have e12:=s02 _ _ e1
 generalize hZ:(ts.map (·.2)).zip ws=Z at *
 refine ⟨_,rfl,t,rfl,nD (xs:=us.map λu=>V.ref u.1) (λk ys H'=>aD H2 H'/\∃rs:List (Addr×(Addr×List Int)×Int),ys=(rs.map λu=>V.ref u.1)/\cV H' rs/\rs.map aQ=(us.take k).map aQ) et2 ⟨aD.refl _,[],rfl,λu hu=>(by cases hu),rfl⟩ (by rw[uT];exact cN (by omega)) (λk ys H' h=>et2.elim (λe=>h.1.at e) (λe=>h.1.at e)) ?_ ?_⟩
 ·rintro k x ys H3 hx hy ⟨s3,rs,rfl,er,em⟩ R1 R0 r1 r0
  obtain ⟨u,eu,rfl⟩:=dq hx
  obtain ⟨h1,h2⟩:=en2 u (vf eu)
  refine gh ⟨_,rfl,u.1,_,0,_,rfl,rfl,SqT.of (s3 _ _ h1),rfl,u.2.1.1,_,rfl,.inr ⟨SqT.of (s3 _ _ h2),_,rfl,u.1,_,1,_,rfl,rfl,SqT.of (s3 _ _ h1),rfl,(by show 2<=vm;decide),λp hp=>r1 _ _ ⟨s3.trans (ae hp _),rs++[(p,u.2)],by rw[vj];rfl,λo ho =>?_,?_⟩⟩⟩
  ·rcases vx.mp ho with y | y
   ·exact (aF er (ae hp _)) o y
   ·rw[vA.mp y]
    exact ⟨af,(ae hp _) _ _ (s3 _ _ h2)⟩
  ·rw[vj,em,vQ,eu,vj];rfl
 rintro ys H3 hy ⟨s3,rs,rfl,er,em⟩ l3 hl3
 rw[uT,vD (va _)] at em
 have g4:=ae hl3 (.lst (rs.map λu=>V.ref u.1))
 have e4:upd H3 l3 (.lst (rs.map λu=>V.ref u.1)) l3=some (.lst (rs.map λu=>V.ref u.1)):=af
 generalize upd H3 l3 (.lst (rs.map λu=>V.ref u.1))=H4 at g4 e4
 have s24:=s3.trans g4
 refine ⟨_,rfl,_,rfl,.inr (.inr (.inl ⟨rfl,.inr ⟨_,s24 _ _ ed⟩⟩)),dd,_,rfl,rfl,s24 _ _ ed,λp hp=>⟨p,dd,cn Z Ls,rfl,af,(ae hp _) _ _ (s24 _ _ ed),λl5 out H5 s5 hl5 e5 en5 pm so =>?_⟩⟩
 have s45:=(ae hp (fQ p dd)).trans s5
 have s25:=s24.trans s45
 refine ⟨l3,l5,rs,out,rfl,rfl,s45 _ _ e4,e5,aF er (g4.trans s45),en5,?_⟩
 have key:decide (rs.map aQ=out.map aQ)=true↔(us.map aQ).Perm (cn Z (sbs (rgI m)))/\(us.map aQ).Pairwise λx y=>Srt.qLt y x=false:=by
  rw[decide_eq_true_iff,em]
  have pm':=pm.trans (jf z)
  constructor
  ·intro e
   rw[e];exact ⟨pm',so⟩
  ·rintro ⟨p1,p2⟩
   exact qg (p1.trans pm'.symm) p2 so
 refine ⟨_,rfl,bz (λc =>?_) (λc=>q false _ (s02.trans s25) ⟨λh=>(by cases h),λh=>absurd (key.mpr h.1) c⟩)⟩
 refine ⟨_,rfl,_,rfl,_,rfl,r,_,0,_,rfl,rfl,SqT.of (s25 _ _ e12),rfl,(m:Int),rfl,λrg hrg=>⟨rg,m,rfl,af,by omega,λtl htl =>?_⟩⟩
 have g6:=(ae hrg (.rng 0 m)).trans (ae htl (.tup ((wF m).map λi=>V.int (i:Nat))))
 have e6:upd (upd H5 rg (.rng 0 m)) tl (.tup ((wF m).map λi=>V.int (i:Nat))) tl=some (.tup (((rgI m).map (Sum.inl:Int->Key)).map kV)):=by rw[af];unfold rgI;rw[v9,v9];rfl
 generalize upd (upd H5 rg (.rng 0 m)) tl (.tup ((wF m).map λi=>V.int (i:Nat)))=H6 at g6 e6
 have s26:=s25.trans g6
 refine ⟨dd,.int (LW Z (rgI m)),rfl,by have:=iA.t (s26 _ _ ed) e6;rw[dj,show (cn Z Ls).lookup (rgI m)=some (LW Z (rgI m)) from gx z.all] at this;exact this,?_⟩
 refine ⟨rfl,q _ _ (s02.trans s26) ?_⟩
 rw[decide_eq_true_iff]
 exact ⟨λh=>⟨key.mp c,V.int.inj h⟩,λh=>by rw[h.2]⟩
end
open PySem L2
theorem oz (ps:List Int):(ps.map V.int).all eX=true:=by
 rw[CH,xX]
 intro x _
 rfl
abbrev kI:Sp:=λvs H Q _=>∃(m:Nat),vs=[.int m]/\m<=5/\∀(l:Addr) (us:List (Addr×List Int)) (H':Hp),aD H H'->H' l=some (.lst (us.map λu =>.ref u.1))->Tus H' us->us.map (·.2)=sbs (rgI m)->Q (.ref l) H'
@[irreducible] def fG:Sp:=kI
theorem cI {vs:List V}{H:Hp}{Q:VK}{E:XK}:fG vs H Q E↔kI vs H Q E:=by
 delta fG
 exact yC
section
variable  {P:vI}{w:wc}{K:u6}{mg:Str->Option uW}{base:Heap}{f T:Addr}{fd:wO}
theorem gy:aR ["many", "found", "place"] ["many"] (ao lJ):=⟨rfl,rfl,rfl,by decide +kernel,rfl,by decide +kernel,by decide +kernel⟩
theorem dG:(["places", "place"]:List Str).Nodup:=by decide +kernel
theorem rC (F:Fun K "_law_sets" "_law_sets" lJ f fd)(B:Blt mg)(C:Cst mg):bO P w K mg base CX0 1 f fd ["many"] fG:=by
 refine F.ok gy (λvs H Q E h =>?_) (λcdv A outer s H vs Q E hr h =>?_)
 ·obtain ⟨_,rfl,_⟩:=cI.mp h
  rfl
 obtain ⟨m,rfl,m5,q⟩:=cI.mp h
 refine ⟨_,(@ai _ _ _ _ _ (@az _ _ 1 _ _ _ _ gy.nd rfl (Or.inl rfl) (@cj _ _ _ _ (@aa _ _ _ _ _ (@ba _ _ _ _ _ ah) ah rfl)) rfl (by first | exact .inl rfl | exact .inr rfl | assumption))
  (@ai _ _ _ _ _ (@bL _ _ _ _ _ _ _ _ wA rfl (bR rfl B.b_range (@aa _ _ _ _ _ (pv 0) ah rfl)) (av (i:=2) gy.nd rfl (Or.inr rfl))
   (@aj _ _ _ (@az _ _ 1 _ _ _ _ gy.nd rfl (Or.inl rfl) (@au _ _ _ _ _ _ _ _ bI (pv 1) (bN ["places", "place"] [none,some 2] rfl (@bW _ _ _ _ (pv 1)) rfl (λ_ _ _ _ _=>(av (i:=0) dG rfl (Or.inl rfl))) (λ_ _ _ _ _=>cx) (λ_ _ _ _ _=>(@au _ _ _ _ _ _ _ _ (i6 (K:=K)) (pv 0) (@ba _ _ _ _ _ (@aa _ _ _ _ _ (pv 1) ah rfl)))))) rfl (by first | exact .inl rfl | exact .inr rfl | assumption))) (λ_=>rfl))
  (@aj _ _ _ (@aO _ _ _ _ (pv 1))))),?_⟩
 refine ⟨(by show 0<=vm;decide),λt0 ht0=>⟨(by show 1<=vm;decide),λl0 hl0 =>?_⟩⟩
 have s0:=(ae ht0 (.tup [])).trans (ae hl0 (.lst [.ref t0]))
 have e0:upd (upd H t0 (.tup [])) l0 (.lst [.ref t0]) l0=some (.lst (([(t0,[])]:List (Addr×List Int)).map λu =>.ref u.1)):=af
 have et:Tus (upd (upd H t0 (.tup [])) l0 (.lst [.ref t0])) [(t0,[])]:=λu hu=>by
  rw[vA.mp hu]
  exact (ae hl0 _) _ _ af
 generalize upd (upd H t0 (.tup [])) l0 (.lst [.ref t0])=H0 at s0 e0 et
 refine ⟨_,rfl,(m:Int),rfl,by omega,by omega,?_⟩
 rw[wu]
 refine cR (λi σ H'=>(∃l us c2,σ=[some (.int m),some (.ref l),c2]/\H' l=some (.lst (us.map λu =>.ref u.1))/\Tus H' us/\us.map (·.2)=sbs ((rgI m).take i))/\aD H H') ⟨⟨l0,[(t0,[])],_,rfl,e0,et,rfl⟩,s0⟩ ?_ ?_
 ·rintro i σ H' hi ⟨⟨l,us,c2,rfl,el,tus,em⟩,s1⟩
  obtain ⟨v,hv⟩:∃v:Int,v=0+(i:Int):=⟨_,rfl⟩
  have ev:(rgI m)[i]? = some v:=by rw[hv,bJ hi];congr 1;omega
  rw[<- hv]
  have lus:us.length<=256:=by
   have:=congrArg List.length em
   rw[uT,fD,v3,aV] at this
   have:2 ^ (min i m)<=2 ^ 8:=xJ (by decide) (by omega)
   omega
  have l50:∀u∈us,u.2.length<=9:=λu hu=>by
   have h1:u.2∈sbs ((rgI m).take i):=em ▸ xR hu
   exact vP (fE _ _ h1) (vP (Bd _ _) (by omega))
  refine ⟨_,rfl,_,rfl,l,rfl,⟨_,SqL.of el⟩,bT (xs:=us.map λu =>.ref u.1) (λk zs H2=>aD H' H2/\∃rs:List (Addr×List Int),zs=(rs.map λu=>V.ref u.1)/\Tus H2 rs/\rs.map (·.2)=(us.take k).map λu=>u.2++[v]) ⟨aD.refl _,[],rfl,(λu hu=>by cases hu),rfl⟩ (by rw[uT];exact cN (by omega)) (λk zs H2 _ h=>SqL.of (h.1 _ _ el)) ?_ ?_⟩
  ·rintro k x zs H2 hx hy ⟨s2,rs,rfl,tr,er⟩ R1 R0 r1 r0
   obtain ⟨u,eu,rfl⟩:=dq hx
   have mu:=vf eu
   refine gh ⟨_,rfl,_,rfl,(by show 1<=vm;decide),λt ht =>?_⟩
   have g3:=ae ht (.tup [V.int v])
   refine gR.one (ys:=[V.int v]) (g3 _ _ (s2 _ _ (tus u mu))) af (by rw[uT];have:=l50 u mu;exact cN (by show _+1<=_;omega)) λq1 H3 s3 eq1 =>?_
   refine r1 _ _ ⟨(s2.trans g3).trans s3,rs++[(q1,u.2++[v])],by rw[vj];rfl,kC ((tr.same g3).same s3) (by rw[vj];exact eq1),?_⟩
   rw[vj,er,rM eu];rfl
  ·rintro zs H2 hy ⟨s2,rs,rfl,tr,er⟩ r hr'
   rw[uT,fc] at er
   have lr:rs.length=us.length:=by
    have:=congrArg List.length er
    rwa [uT,uT] at this
   have g3:=ae hr' (.lst (rs.map λu=>V.ref u.1))
   refine ⟨l,r,_,_,rfl,rfl,SqL.of (g3 _ _ (s2 _ _ el)),SqL.of af,by rw[uT,uT];exact cN (by omega),λl3 hl3 =>?_⟩
   have g4:=g3.trans (ae hl3 (.lst ((us.map λu=>V.ref u.1)++(rs.map λu=>V.ref u.1))))
   have s4:=s2.trans g4
   refine ⟨⟨l3,us++rs,_,rfl,by rw[af,vj],λu hu =>?_,?_⟩,s1.trans s4⟩
   ·rcases vx.mp hu with z | z
    ·exact s4 _ _ (tus u z)
    ·exact g4 _ _ (tr u z)
   ·rw[vj,er,em,vQ,ev]
    show _=sbs ((rgI m).take i++[v])
    rw[cz, <- em,v9];rfl
 ·rintro σ H' ⟨⟨l,us,c2,rfl,el,tus,em⟩,s1⟩
  rw[vD (by rw[aV];exact va _)] at em
  exact ⟨_,rfl,q l us H' s1 el tus em⟩
end
abbrev qi:Sp:=λvs H Q _=>∃(r l pl:Addr) (m:Nat) (ts:List (Addr×List Int)) (ws:List Int) (p:Int) (S:List Int),vs=[.ref r,.ref l,.int p,.ref pl]/\Ow H r (m:Int) ts/\H l=some (.lst (ws.map V.int))/\ws.length=ts.length/\H pl=some (.tup (S.map V.int))/\∀H':Hp,aD H H'->Q (.int (led ((ts.map (·.2)).zip ws) p S)) H'
@[irreducible] def mJ:Sp:=qi
theorem fV {vs:List V}{H:Hp}{Q:VK}{E:XK}:mJ vs H Q E↔qi vs H Q E:=by
 delta mJ
 exact yC
section
variable  {P:vI}{w:wc}{K:u6}{mg:Str->Option uW}{base:Heap}{f T:Addr}{fd:wO}
theorem iq:aR ["web", "worths", "place", "places", "total", "arrow", "worth"] ["web", "worths", "place", "places"] (ao qb):=⟨rfl,rfl,rfl,by decide +kernel,rfl,by decide +kernel,by decide +kernel⟩
theorem tS (F:Fun K "_law_led" "_law_led" qb f fd)(B:Blt mg)(C:Cst mg):bO P w K mg base CX0 1 f fd ["web", "worths", "place", "places"] mJ:=by
 refine F.ok iq (λvs H Q E h =>?_) (λcdv A outer s H vs Q E hr h =>?_)
 ·obtain ⟨_,_,_,_,_,_,_,_,rfl,_⟩:=fV.mp h
  rfl
 obtain ⟨r,l,pl,m,ts,ws,p,S,rfl,W,el,lw,ep,q⟩:=fV.mp h
 refine ⟨_,(@ai _ _ _ _ _ (@az _ _ 4 _ _ _ _ iq.nd rfl (Or.inl rfl) ag rfl (by first | exact .inl rfl | exact .inr rfl | assumption))
  (@ai _ _ _ _ _ (@bL _ _ _ _ _ _ _ _ wA rfl (jw false true rfl B.b_zip (@aa _ _ _ _ _ (@aI _ _ _ _ _ _ _ aX (pv 0) ag (λ_ _=>rfl)) (@aa _ _ _ _ _ (pv 1) ah rfl) rfl)) (fI rfl (bg (av (i:=5) iq.nd rfl (Or.inl rfl)) (bg (av (i:=6) iq.nd rfl (Or.inl rfl)) dM)))
   (@aj _ _ _ (@bo _ _ _ _ _ _ _ _ (PW.pt (jl (aA bZ (@aI _ _ _ _ _ _ _ aX (pv 5) ag (λ_ _=>rfl)) (pv 2) (aB _)) (jl (aA nc (@aI _ _ _ _ _ _ _ aX (pv 5) ag (λ_ _=>rfl)) (pv 3) rfl) (jk (aA jQ (@aI _ _ _ _ _ _ _ aX (pv 5) ag (λ_ _=>rfl)) (pv 2) (aB _)))))) (@aj _ _ _ (@az _ _ 4 _ _ _ _ iq.nd rfl (Or.inl rfl) (@au _ _ _ _ _ _ _ _ bB (pv 4) (pv 6)) rfl (by first | exact .inl rfl | exact .inr rfl | assumption))) aP)) (λ_=>rfl))
  (@aj _ _ _ (@aO _ _ _ _ (pv 4))))),?_⟩
 obtain ⟨t,e1,e2⟩:=W.at'
 have lz:(ts.map λu=>V.ref u.1).length=ts.length:=uT _
 have lzw:(ws.map V.int).length=ts.length:=by rw[uT,lw]
 refine ⟨_,rfl,r,_,1,_,rfl,rfl,SqT.of e1,rfl,_,rfl,t,l,rfl,⟨_,SqT.of e2⟩,⟨_,SqL.of el⟩,ki (c:=false) (d:=true) (xs:=ts.map λu =>.ref u.1) (ys:=ws.map V.int) ts.length (by rw[lz];exact va _) (by rw[lzw];exact va _) (.inl lz.symm) (λi σ H'=>(∃c3 c4,σ=[some (.ref r),some (.ref l),some (.int p),some (.ref pl),some (.int (led (((ts.map (·.2)).zip ws).take i) p S)),c3,c4])/\aD H H') ⟨⟨_,_,rfl⟩,aD.refl _⟩ (λi σ H' _ k=>⟨SqT.of (k.2 _ _ e2),SqL.of (k.2 _ _ el)⟩) ?_ ?_⟩
 ·rintro i x y σ H3 T hx hy' hT ⟨⟨c3,c4,rfl⟩,s3⟩
  obtain ⟨u,hu,rfl⟩:=dq hx
  obtain ⟨w',ew,rfl⟩:=eD hy'
  have mu:=vf hu
  obtain ⟨x',y',e3,x0,x1,y0,y1⟩:=W.rng u mu
  have gT:=ae hT (.tup [.ref u.1,.int w'])
  have eT:upd H3 T (.tup [.ref u.1,.int w']) T=some (.tup [.ref u.1,.int w']):=af
  generalize upd H3 T (.tup [.ref u.1,.int w'])=H4 at gT eT
  have s4:=s3.trans gT
  have hu4:=s4 _ _ (W.tup u mu)
  rw[e3] at hu4
  have tk:led (((ts.map (·.2)).zip ws).take (i+1)) p S=led (((ts.map (·.2)).zip ws).take i) p S+if x'=p/\y'∈S/\y'≠p then w' else 0:=by
   rw[vQ,show ((ts.map (·.2)).zip ws)[i]? = some ([x',y'],w') from ?_]
   ·unfold led
    rw[ic]
    congr 1
    show (if (decide (x'=p) && (decide (y'∈S) && decide (y'≠p)))=true then w' else 0)+0=_
    rw[Int.add_zero]
    congr 1
    rw[wN,wN,decide_eq_true_iff,decide_eq_true_iff,decide_eq_true_iff]
   ·rw[xf]
    exact ⟨by rw[vi,hu, <- e3];rfl,ew⟩
  refine ⟨T,_,rfl,SqT.of eT,rfl,_,_,rfl,_,_,rfl,rfl,?_⟩
  have ep4:=s4 _ _ ep
  have no:¬ (x'=p/\y'∈S/\y'≠p)->∃c3 c4,[some (V.ref r),some (.ref l),some (.int p),some (.ref pl),some (.int (led (((ts.map (·.2)).zip ws).take i) p S)),some (V.ref u.1),some (V.int w')]=[some (V.ref r),some (.ref l),some (.int p),some (.ref pl),some (.int (led (((ts.map (·.2)).zip ws).take (i+1)) p S)),c3,c4]:=λh=>by
   rw[tk,if_neg h,Int.add_zero];exact ⟨_,_,rfl⟩
  refine ⟨_,rfl,u.1,_,0,_,rfl,rfl,SqT.of hu4,rfl,_,rfl,rfl,_,rfl,bz (λc1 =>?_) (λc1=>ni ⟨no λh=>c1 (decide_eq_true (by rw[h.1])),s4⟩)⟩
  refine ⟨_,rfl,u.1,_,1,_,rfl,rfl,SqT.of hu4,rfl,_,rfl,pl,_,rfl,.inr (SqT.of ep4),rfl,oz S,_,rfl,bz (λc2 =>?_) (λc2=>ni ⟨no λh=>c2 ?_,s4⟩)⟩
  ·refine ⟨_,rfl,u.1,_,1,_,rfl,rfl,SqT.of hu4,rfl,_,rfl,rfl,_,rfl,bz (λc3 =>?_) (λc3=>⟨no λh=>c3 ?_,s4⟩)⟩
   ·have c2:inV (.int y') (S.map V.int)=true:=c2
    rw[tG] at c2
    have hc:x'=p/\y'∈S/\y'≠p:=⟨V.int.inj (of_decide_eq_true c1),of_decide_eq_true c2,λe=>by rw[e] at c3;simp at c3⟩
    refine ⟨_,rfl,_,rfl,_,_,rfl,rfl,⟨some (.ref u.1),some (.int w'),?_⟩,s4⟩
    rw[tk,if_pos hc];rfl
   ·simp[h.2.2]
  ·show inV (.int y') (S.map V.int)=true
   rw[tG];exact decide_eq_true h.2.1
 ·rintro σ H3 ⟨⟨c3,c4,rfl⟩,s3⟩
  rw[vD (by rw[yy,uT];omega)]
  exact ⟨_,rfl,q H3 s3⟩
end
open PySem L2
def due (Z:List (List Int×Int))(f:List Int->Int)(S:List Int):Int:=if S=[] then lp Z else mnL (S.map λp=>f (wo S p)+led Z p S)
theorem lN {Z:List (List Int×Int)}{S:List Int}(s:SS S):due Z (LW Z) S=LW Z S:=by
 unfold due
 by_cases c:S=[]
 ·rw[if_pos c,c];rfl
 ·rw[if_neg c,mH Z (dE s) c]
def lpw (Z:List (List Int×Int)):List Int:=(Z.filter λe=>decide (e.1.getD 0 0=e.1.getD 1 0)).map (·.2)
theorem mK:∀Z:List (List Int×Int),(lpw Z).sum=lp Z
 | []=>rfl
 | e :: t=>by
  have ih:=mK t
  unfold lpw lp at *
  show _=(if decide (e.1.getD 0 0=e.1.getD 1 0)=true then e.2 else 0)+wsum _ t
  rw[AK]
  by_cases c:decide (e.1.getD 0 0=e.1.getD 1 0)=true
  ·rw[if_pos c,if_pos c,vw,zg,ih]
  ·rw[if_neg c,if_neg c,ih];omega
abbrev qj:Sp:=λvs H Q _=>∃(r l dd pl:Addr) (m:Nat) (ts:List (Addr×List Int)) (ws:List Int) (es:List (List Int×Int)) (S:List Int) (f:List Int->Int),vs=[.ref r,.ref l,.ref dd,.ref pl]/\Ow H r (m:Int) ts/\ts.length<=200/\H l=some (.lst (ws.map V.int))/\ws.length=ts.length/\H dd=some (.dT (kvE es))/\H pl=some (.tup (S.map V.int))/\S.length<=9/\(∀p∈S,es.lookup (wo S p)=some (f (wo S p)))/\∀H':Hp,aD H H'->Q (.int (due ((ts.map (·.2)).zip ws) f S)) H'
@[irreducible] def kJ:Sp:=qj
theorem d9 {vs:List V}{H:Hp}{Q:VK}{E:XK}:kJ vs H Q E↔qj vs H Q E:=by
 delta kJ
 exact yC
section
variable  {P:vI}{w:wc}{K:u6}{mg:Str->Option uW}{base:Heap}{f T:Addr}{fd:wO}
theorem ef:aR ["web", "worths", "rows", "places", "some", "place", "others"] ["web", "worths", "rows", "places"] (ao fz):=⟨rfl,rfl,rfl,by decide +kernel,rfl,by decide +kernel,by decide +kernel⟩
theorem dv:(["arrow", "worth"]:List Str).Nodup:=by decide +kernel
theorem dw:(["other", "place"]:List Str).Nodup:=by decide +kernel
theorem oA (F:Fun K "_law_row_due" "_law_row_due" fz f fd)(B:Blt mg)(cLLed:Cal P w K mg base 1 "_law_led" ["web", "worths", "place", "places"] mJ)(C:Cst mg):bO P w K mg base CX0 2 f fd ["web", "worths", "rows", "places"] kJ:=by
 refine F.ok ef (λvs H Q E h =>?_) (λcdv A outer s H vs Q E hr h =>?_)
 ·obtain ⟨_,_,_,_,_,_,_,_,_,_,rfl,_⟩:=d9.mp h
  rfl
 obtain ⟨r,l,dd,pl,m,ts,ws,es,S,ff,rfl,W,tl,el,lw,ed,ep,l9,lk,q⟩:=d9.mp h
 have hu:(fM CX0 P w K mg base ["web", "worths", "rows", "places", "some", "place", "others"] "_law_row_due" (ao fz) f cdv A outer s H E).nox.A.units+1<cLine:=iP hr
 refine ⟨_,(@ai _ _ _ _ _ (@bo _ _ _ _ _ _ _ _ (aA (ml hr) (pv 3) (@ba _ _ _ _ _ ah) (aB _)) (@aj _ _ _ (@aO _ _ _ _ (aS (gO hr.hd) rfl B.b_sum lK (@aa _ _ _ _ _ (bN ["arrow", "worth"] [none,none] rfl (jw false true rfl B.b_zip (@aa _ _ _ _ _ (@aI _ _ _ _ _ _ _ aX (pv 0) ag (λ_ _=>rfl)) (@aa _ _ _ _ _ (pv 1) ah rfl) rfl)) rfl (λ_ _ _ _ _=>(j6 (K:=K) (i:=0) (j:=1) dv rfl rfl (Or.inl rfl) (Or.inl rfl))) (λ_ _ _ _ _=>(kZ (aA bZ (@aI _ _ _ _ _ _ _ (dO (K:=K)) (pv 0) ag (λ_ _=>rfl)) (@aI _ _ _ _ _ _ _ (dO (K:=K)) (pv 0) ag (λ_ _=>rfl)) (aB _)))) (λ_ _ _ _ _=>(pv 1))) ah rfl)))) aP)
  (@ai _ _ _ _ _ (@az _ _ 4 _ _ _ _ ef.nd rfl (Or.inl rfl) (@cj _ _ _ _ ah) rfl (by first | exact .inl rfl | exact .inr rfl | assumption))
  (@ai _ _ _ _ _ (@bL _ _ _ _ _ _ _ _ wA rfl (@dA _ _ _ _ (pv 3)) (av (i:=5) ef.nd rfl (Or.inr rfl))
   (@ai _ _ _ _ _ (@az _ _ 6 _ _ _ _ ef.nd rfl (Or.inl rfl) (aU bD rfl B.b_tuple cb (@aa _ _ _ _ _ (bN ["other", "place"] [none,some 5] rfl (@dA _ _ _ _ (pv 3)) rfl (λ_ _ _ _ _=>(av (i:=0) dw rfl (Or.inl rfl))) (λ_ _ _ _ _=>(kZ (aA jQ (pv 0) (pv 1) (aB _)))) (λ_ _ _ _ _=>(pv 0))) ah rfl)) rfl (by first | exact .inl rfl | exact .inr rfl | assumption))
   (@aj _ _ _ (dJ (gH wY yi yj dN (pv 4) (@aa _ _ _ _ _ (@au _ _ _ _ _ _ _ _ bB (fq hu (pv 2) (pv 6) (λ_ _=>rfl)) (aH cLLed hr (by decide) rfl (@aa _ _ _ _ _ (pv 0) (@aa _ _ _ _ _ (pv 1) (@aa _ _ _ _ _ (pv 5) (@aa _ _ _ _ _ (pv 3) ah rfl) rfl) rfl) rfl))) ah rfl))))) (λ_=>rfl))
  (@aj _ _ _ (@aO _ _ _ _ (aS (i3 rfl) rfl B.b_min jB (@aa _ _ _ _ _ (pv 4) ah rfl))))))),?_⟩
 obtain ⟨t,e1,e2⟩:=W.at'
 have lz:(ts.map λu=>V.ref u.1).length=ts.length:=uT _
 have lzw:(ws.map V.int).length=ts.length:=by rw[uT,lw]
 refine ⟨_,rfl,(by show 0<=vm;decide),λt0 ht0=>⟨pl,t0,S,[],rfl,rfl,SqT.of ((ae ht0 _) _ _ ep),SqT.of af,?_⟩⟩
 have g1:=ae ht0 (.tup [])
 generalize upd H t0 (.tup [])=H1 at g1
 have ep1:=g1 _ _ ep
 have e11:=g1 _ _ e1
 have e21:=g1 _ _ e2
 have el1:=g1 _ _ el
 have ed1:=g1 _ _ ed
 have W1:=W.same g1
 refine ⟨_,rfl,bz (λc =>?_) (λc =>?_)⟩
 ·have c:=of_decide_eq_true c
  refine ⟨_,rfl,r,_,1,_,rfl,rfl,SqT.of e11,rfl,_,rfl,t,l,rfl,⟨_,SqT.of e21⟩,⟨_,SqL.of el1⟩,uK (c:=false) (d:=true) (xs:=ts.map λu =>.ref u.1) (ys:=ws.map V.int) ts.length (by rw[lz];exact va _) (by rw[lzw];exact va _) (.inl lz.symm) (λi zs H'=>aD H1 H'/\zs=(lpw (((ts.map (·.2)).zip ws).take i)).map V.int) (by decide) ⟨aD.refl _,rfl⟩ (cN (by omega)) (λi zs H' _ k=>⟨SqT.of (k.1 _ _ e21),SqL.of (k.1 _ _ el1)⟩) ?_ ?_⟩
  ·rintro i x y zs H3 T hx hy' hz hT ⟨s3,rfl⟩ R1 R0 r1 r0
   obtain ⟨u,hu,rfl⟩:=dq hx
   obtain ⟨w',ew,rfl⟩:=eD hy'
   have mu:=vf hu
   obtain ⟨x',y',e3,x0,x1,y0,y1⟩:=W.rng u mu
   have gT:=ae hT (.tup [.ref u.1,.int w'])
   generalize upd H3 T (.tup [.ref u.1,.int w'])=H4 at gT
   have s4:=s3.trans gT
   have hu4:=s4 _ _ (W1.tup u mu)
   rw[e3] at hu4
   have tk:lpw (((ts.map (·.2)).zip ws).take (i+1))=lpw (((ts.map (·.2)).zip ws).take i)++if x'=y' then [w'] else []:=by
    rw[vQ,show ((ts.map (·.2)).zip ws)[i]? = some ([x',y'],w') from ?_]
    ·unfold lpw
     rw[Br,vj]
     congr 1
     show List.map _ (List.filter _ [([x',y'],w')])=_
     rw[AK]
     by_cases d:x'=y'
     ·rw[if_pos (by exact decide_eq_true d),if_pos d];rfl
     ·rw[if_neg (by intro z;exact d (of_decide_eq_true z)),if_neg d];rfl
    ·rw[xf]
     exact ⟨by rw[vi,hu, <- e3];rfl,ew⟩
   refine ⟨_,rfl,u.1,_,0,_,rfl,rfl,SqT.of hu4,rfl,_,rfl,u.1,_,1,_,rfl,rfl,SqT.of hu4,rfl,rfl,_,rfl,bz (λd=>⟨_,rfl,r1 _ _ ⟨s4,?_⟩⟩) (λd=>r0 _ ⟨s4,?_⟩)⟩
   ·rw[tk,if_pos (V.int.inj (of_decide_eq_true d)),vj];rfl
   ·rw[tk,if_neg (λz=>d (decide_eq_true (by rw[z]))),wM]
  ·rintro zs H3 hz ⟨s3,rfl⟩ l3 hl3
   rw[vD (by rw[yy,uT];omega)]
   have g3:=(g1.trans s3).trans (ae hl3 (.lst ((lpw ((ts.map (·.2)).zip ws)).map V.int)))
   have:=q _ g3
   rw[show due ((ts.map (·.2)).zip ws) ff S=lp ((ts.map (·.2)).zip ws) from if_pos c, <- mK] at this
   exact ⟨l3,_,rfl,af,this⟩
 ·have c:S≠[]:=λe=>c (decide_eq_true e)
  refine ⟨(by show 0<=vm;decide),λsl hsl =>?_⟩
  have g2:=ae hsl (.lst [])
  have esl:upd H1 sl (.lst []) sl=some (.lst []):=af
  generalize upd H1 sl (.lst [])=H2 at g2 esl
  have npl:pl≠sl:=ak ep1 hsl
  generalize hG:(λp=>ff (wo S p)+led ((ts.map (·.2)).zip ws) p S)=G
  refine ⟨_,rfl,pl,rfl,⟨_,SqT.of (g2 _ _ ep1)⟩,gn (xs:=S.map V.int) (λi σ H'=>(∃c5 c6,σ=[some (.ref r),some (.ref l),some (.ref dd),some (.ref pl),some (.ref sl),c5,c6])/\Sb H1 sl H'/\H' sl=some (.lst (((S.take i).map G).map V.int))) ⟨⟨_,_,rfl⟩,λa o e _=>g2 _ _ e,esl⟩ (λi σ H' _ k=>SqT.of (k.2.1 _ _ ep1 npl)) ?_ ?_⟩
  ·rintro i x σ H3 hx ⟨⟨c5,c6,rfl⟩,sb,es3⟩
   obtain ⟨v,ev,rfl⟩:=eD hx
   have mv:=vf ev
   have ep3:=sb _ _ ep1 npl
   refine ⟨_,rfl,pl,rfl,⟨_,SqT.of ep3⟩,cS (xs:=S.map V.int) (λk zs H'=>H'=H3/\zs=((S.take k).filter λx=>decide (x≠v)).map V.int) ⟨rfl,rfl⟩ (by rw[uT];exact small (by omega)) (λk zs H' _ h=>by rw[h.1];exact SqT.of ep3) ?_ ?_⟩
   ·rintro k y zs H' hy hyz ⟨rfl,rfl⟩ R1 R0 r1 r0
    obtain ⟨j,ek,rfl⟩:=eD hy
    refine ⟨_,rfl,_,rfl,rfl,_,rfl,?_⟩
    have e:(!decide (V.int j=V.int v))=decide (j≠v):=by
     by_cases c:j=v
     ·subst c;simp
     ·simp[c]
    rw[e]
    refine bz (λz=>⟨_,rfl,r1 _ _ ⟨rfl,?_⟩⟩) (λz=>r0 _ ⟨rfl,?_⟩)
    ·rw[mC ek,if_pos z]
    ·rw[mC ek,if_neg z,wM]
   ·rintro zs H' hyz ⟨rfl,rfl⟩ l4 hl4
    rw[uT,fc]
    refine ⟨l4,_,rfl,.inl ⟨SqL.of af,λt4 ht4 =>?_⟩⟩
    have g4:=(ae hl4 (.lst ((S.filter λx=>decide (x≠v)).map V.int))).trans (ae ht4 (.tup ((S.filter λx=>decide (x≠v)).map V.int)))
    have et4:upd (upd H' l4 (.lst ((S.filter λx=>decide (x≠v)).map V.int))) t4 (.tup ((S.filter λx=>decide (x≠v)).map V.int)) t4=some (.tup (((wo S v).map (Sum.inl:Int->Key)).map kV)):=by rw[af,v9];rfl
    generalize upd (upd H' l4 (.lst ((S.filter λx=>decide (x≠v)).map V.int))) t4 (.tup ((S.filter λx=>decide (x≠v)).map V.int))=H4 at g4 et4
    have s14:aD H1 H4:=λa o e=>g4 _ _ (sb a o e (ak e hsl))
    refine ⟨_,rfl,.inl ⟨rfl,_,SqL.of (g4 _ _ es3)⟩,_,rfl,_,rfl,dd,.int (ff (wo S v)),rfl,by have:=iA.t (s14 _ _ ed1) et4;rw[dj,lk v mv] at this;exact this,_,rfl,_,rfl,_,rfl,_,rfl,fV.mpr ⟨r,l,pl,m,ts,ws,v,S,rfl,W1.same s14,s14 _ _ el1,lw,s14 _ _ ep1,λH5 s5=>⟨_,_,rfl,rfl,sl,_,_,rfl,rfl,s5 _ _ (g4 _ _ es3),?_,⟨_,_,rfl⟩,?_,?_⟩⟩⟩
    ·rw[uT,uT,v3];exact hV (by omega)
    ·exact (sb.trans (g4.trans s5)).set _
    ·rw[af,vQ,ev,vj,vj, <- hG];rfl
  ·rintro σ H3 ⟨⟨c5,c6,rfl⟩,sb,es3⟩
   rw[uT,vD (va _)] at es3
   refine ⟨_,rfl,sl,_,rfl,SqL.of es3,λe=>c (zT.mp e),λM m1 m2 =>?_⟩
   have:=q H3 (g1.trans λa o e=>sb a o e (ak e hsl))
   rw[show due ((ts.map (·.2)).zip ws) ff S=mnL (S.map G) by rw[<- hG];exact if_neg c] at this
   rw[mG m1 m2]
   exact this
end
open PySem L2
theorem Sb.all {H H':Hp}{d:Addr}(b:Sb H d H')(h:H d=none):aD H H':=λa o e=>b a o e (ak e h)
theorem gp (a b:Int):decide (V.int a=V.int b)=decide (a=b):=by
 by_cases c:a=b
 ·rw[c,decide_eq_true rfl,decide_eq_true rfl]
 ·rw[decide_eq_false (λz=>c (V.int.inj z)),decide_eq_false c]
abbrev qk:Sp:=λvs H Q _=>∃(r l:Addr) (m:Nat) (ts:List (Addr×List Int)) (ws:List Int),vs=[.ref r,.ref l]/\Ow H r (m:Int) ts/\m<=5/\ts.length<=200/\H l=some (.lst (ws.map V.int))/\ws.length=ts.length/\∀(l':Addr) (us:List (Addr×(Addr×List Int)×Int)) (H':Hp),aD H H'->H' l'=some (.lst (us.map λu=>V.ref u.1))->cV H' us->(us.map aQ).Perm (cn ((ts.map (·.2)).zip ws) (sbs (rgI m)))->Q (.ref l') H'
@[irreducible] def mL:Sp:=qk
theorem fW {vs:List V}{H:Hp}{Q:VK}{E:XK}:mL vs H Q E↔qk vs H Q E:=by
 delta mL
 exact yC
section
variable  {P:vI}{w:wc}{K:u6}{mg:Str->Option uW}{base:Heap}{f T:Addr}{fd:wO}
theorem ir:aR ["web", "worths", "rows", "places"] ["web", "worths"] (ao gs):=⟨rfl,rfl,rfl,by decide +kernel,rfl,by decide +kernel,by decide +kernel⟩
theorem ql (F:Fun K "_law_table" "_law_table" gs f fd)(B:Blt mg)(cLSets:Cal P w K mg base 1 "_law_sets" ["many"] fG)(cLRowDue:Cal P w K mg base 2 "_law_row_due" ["web", "worths", "rows", "places"] kJ)(C:Cst mg):bO P w K mg base CX0 3 f fd ["web", "worths"] mL:=by
 refine F.ok ir (λvs H Q E h =>?_) (λcdv A outer s H vs Q E hr h =>?_)
 ·obtain ⟨_,_,_,_,_,rfl,_⟩:=fW.mp h
  rfl
 obtain ⟨r,l,m,ts,ws,rfl,W,m5,tl,el,lw,q⟩:=fW.mp h
 have hu:(fM CX0 P w K mg base ["web", "worths", "rows", "places"] "_law_table" (ao gs) f cdv A outer s H E).nox.A.units+1<cLine:=iP hr
 refine ⟨_,(@ai _ _ _ _ _ (@az _ _ 2 _ _ _ _ ir.nd rfl (Or.inl rfl) gQ rfl (by first | exact .inl rfl | exact .inr rfl | assumption))
  (@ai _ _ _ _ _ (@bL _ _ _ _ _ _ _ _ wA rfl (@bW _ _ _ _ (ft rfl B.b_sorted rfl B.b_len cW (aH cLSets hr (by decide) rfl (@aa _ _ _ _ _ (@aI _ _ _ _ _ _ _ aX (pv 0) ag (λ_ _=>rfl)) ah rfl)))) (av (i:=3) ir.nd rfl (Or.inl rfl))
   (@aj _ _ _ (gr hu (pv 2) (pv 3) (aH cLRowDue hr (by decide) rfl (@aa _ _ _ _ _ (pv 0) (@aa _ _ _ _ _ (pv 1) (@aa _ _ _ _ _ (pv 2) (@aa _ _ _ _ _ (pv 3) ah rfl) rfl) rfl) rfl)) rfl)) (λ_=>rfl))
  (@aj _ _ _ (@aO _ _ _ _ (aS (eE hr.hd (hu8 hr)) rfl B.b_sorted cW (@aa _ _ _ _ _ (oW Ay zf Az i8 (pv 2)) ah rfl)))))),?_⟩
 obtain ⟨t',e1,e2⟩:=W.at'
 generalize hZ:(ts.map (·.2)).zip ws=Z at q
 refine λdd hdd =>?_
 have g0:=ae hdd (.dT [])
 have e0:upd H dd (.dT []) dd=some (.dT []):=af
 generalize upd H dd (.dT [])=H0 at g0 e0
 refine ⟨_,rfl,r,_,0,_,rfl,rfl,SqT.of (g0 _ _ e1),rfl,cI.mpr ⟨m,rfl,m5,λl1 us1 H1 s1 el1 tu1 em=>⟨l1,us1,rfl,.inl (SqL.of el1),λt ht=>SqT.of (tu1 t ht),λl2 us hl2 pm so =>?_⟩⟩⟩
 have z:Sz m (us.map (·.2)):=⟨em ▸ pm.map (·.2),wj.mpr so⟩
 have g2:=ae hl2 (.lst (us.map λu=>V.ref u.1))
 have el2:upd H1 l2 (.lst (us.map λu=>V.ref u.1)) l2=some (.lst (us.map λu=>V.ref u.1)):=af
 have nl:l2≠dd:=λh=>by
  rw[h,s1 _ _ e0] at hl2;cases hl2
 generalize upd H1 l2 (.lst (us.map λu=>V.ref u.1))=H2 at g2 el2
 have tu:∀u∈us,H2 u.1=some (.tup (u.2.map V.int)):=λu hu=>g2 _ _ (tu1 u (pm.mem_iff.mp hu))
 have s02:=s1.trans g2
 have ed2:=s02 _ _ e0
 have gH2:=g0.trans s02
 have nus:∀u∈us,u.1≠dd:=λu hu h=>by
  have:=tu u hu
  rw[h,ed2] at this;cases this
 have lus:us.length<=32:=by
  have:=z.len
  rw[uT] at this
  have:2 ^ m<=2 ^ 5:=xJ (by decide) m5
  omega
 have sam:∀{H':Hp},Sb H2 dd H'->aD H H':=λsb a o e=>sb a o (gH2 _ _ e) (ak e hdd)
 refine ⟨l2,rfl,⟨_,SqL.of el2⟩,eU (xs:=us.map λu =>.ref u.1) (λi σ H'=>(∃c3,σ=[some (.ref r),some (.ref l),some (.ref dd),c3])/\Sb H2 dd H'/\H' dd=some (.dT (kvE (cn Z ((us.map (·.2)).take i))))) ⟨⟨_,rfl⟩,λa o e _=>e,ed2⟩ (λi σ H' _ k=>SqL.of (k.2.1 _ _ el2 nl)) ?_ ?_⟩
 ·rintro i x σ H' hx ⟨⟨c3,rfl⟩,sb,ed⟩
  obtain ⟨u,eu,rfl⟩:=dq hx
  have mu:=vf eu
  have eS:(us.map (·.2))[i]? = some u.2:=by rw[vi,eu];rfl
  have mS:=vf eS
  obtain ⟨sS,rS⟩:=z.mem.mp mS
  have tu1:=sb _ _ (tu u mu) (nus u mu)
  have s':=sam sb
  have li:(kvE (cn Z ((us.map (·.2)).take i))).length<vm:=by
   unfold kvE cn
   rw[uT,uT,v3,uT];exact hV (by omega)
  refine ⟨_,rfl,_,rfl,_,rfl,_,rfl,d9.mpr ⟨r,l,dd,u.1,m,ts,ws,cn Z ((us.map (·.2)).take i),u.2,LW Z,rfl,W.same s',tl,s' _ _ el,lw,ed,tu1,by have:=z.tQ mS;omega,λp hp=>gx (z.early eS hp),λH5 s5 =>?_⟩⟩
  rw[hZ,lN sS]
  refine ⟨_,rfl,_,rfl,dd,_,rfl,j7.t (s5 _ _ ed) (k:=u.2.map (Sum.inl:Int->Key)) (by rw[s5 _ _ tu1,v9];rfl) li,⟨_,rfl⟩,(sb.trans s5).set _,by rw[af,kH z eS]⟩
 ·rintro σ H' ⟨⟨c3,rfl⟩,sb,ed⟩
  rw[uT,vD (by rw[uT];exact va _)] at ed
  refine ⟨_,rfl,.inr (.inr (.inl ⟨rfl,.inr ⟨_,ed⟩⟩)),dd,_,rfl,rfl,ed,λp hp=>⟨p,dd,_,rfl,af,(ae hp _) _ _ ed,λl5 out H5 s5 hl5 e5 en5 pm so =>?_⟩⟩
  exact q l5 out H5 ((sam sb).trans ((ae hp _).trans s5)) e5 en5 (pm.trans (jf z))
end
open PySem L2
theorem kK {es:List (List Int×Int)}(h:es.Pairwise λx y=>Srt.qLt y x=false):(es.map (·.1)).Pairwise λx y=>HT.lexLt y x=false:=by
 rw[wj]
 refine h.imp λ{x y} q =>?_
 unfold Srt.qLt at q
 by_cases c:y.1=x.1
 ·rw[c];exact Srt.lex_irrefl _
 ·rwa [if_neg c] at q
theorem qm {a b:List (List Int)}(pm:a.Perm b)(ha:a.Pairwise λx y=>HT.lexLt y x=false)(hb:b.Pairwise λx y=>HT.lexLt y x=false):a=b :=
 pm.eq_of_pairwise (λx y _ _ h1 h2=>Srt.cT _ _ h2 h1) ha hb
theorem qo (Z:List (List Int×Int))(Ls:List (List Int)):(cn Z Ls).map (·.1)=Ls:=by
 unfold cn
 rw[v9]
 exact List.map_id'' (λ_=>rfl) _
theorem mM {es:List (List Int×Int)}(nd:(es.map (·.1)).Nodup){S:List Int}{v:Int}(h:(S,v)∈es):es.lookup S=some v:=by
 induction es with
 | nil=>cases h
 | cons e t ih =>
  rw[vw,xc] at nd
  obtain ⟨a,b⟩:=e
  rw[wk]
  rcases vM.mp h with y | y
  ·cases y
   rw[show (S == S)=true from beq_self_eq_true _]
  ·have ne:S≠a:=λz=>nd.1 (z ▸ wq.mpr ⟨_,y,rfl⟩)
   rw[show (S == a)=false from beq_eq_false_iff_ne.mpr ne]
   exact ih nd.2 y
theorem oB {es:List (List Int×Int)}{S:List Int}(h:S∉es.map (·.1)):es.lookup S=none:=by
 induction es with
 | nil=>rfl
 | cons e t ih =>
  obtain ⟨a,b⟩:=e
  rw[vw,vM,not_or] at h
  rw[wk,show (S == a)=false from beq_eq_false_iff_ne.mpr h.1]
  exact ih h.2
def fT (es:List (List Int×Int))(S:List Int):Int:=(es.lookup S).getD 0
theorem rD {es:List (List Int×Int)}{S:List Int}(h:S∈es.map (·.1)):es.lookup S=some (fT es S):=by
 unfold fT
 cases c:es.lookup S with
 | some v=>rfl
 | none =>
  exfalso
  induction es with
  | nil=>cases h
  | cons e t ih =>
   obtain ⟨a,b⟩:=e
   rw[wk] at c
   by_cases d:S=a
   ·rw[d,show (a == a)=true from beq_self_eq_true _] at c;cases c
   ·rw[show (S == a)=false from beq_eq_false_iff_ne.mpr d] at c
    rw[vw,vM] at h
    exact ih (h.resolve_left d) c
theorem jg {Z:List (List Int×Int)}{f g:List Int->Int}{S:List Int}(h:∀p∈S,f (wo S p)=g (wo S p)):due Z f S=due Z g S:=by
 unfold due
 by_cases c:S=[]
 ·rw[if_pos c,if_pos c]
 ·rw[if_neg c,if_neg c]
  congr 1
  exact yo λp hp=>by rw[h p hp]
theorem qp {m:Nat}{S:List Int}(h:S∈sbs (rgI m))(p:Int):wo S p∈sbs (rgI m):=by
 rw[di (ck m)] at h ⊢
 exact ⟨fR _ h.1,λv hv=>h.2 v (yg.mp hv).1⟩
theorem rE {Z:List (List Int×Int)}{m:Nat}{f:List Int->Int}(h:∀S∈sbs (rgI m),f S=due Z f S):∀(n:Nat) (S:List Int),S.length=n->S∈sbs (rgI m)->f S=LW Z S:=by
 intro n
 induction n using Nat.strongRecOn with
 | _ n ih =>
  intro S hn hS
  have sS:=((di (ck m) S).mp hS).1
  rw[h S hS, <- lN sS]
  refine jg λp hp =>?_
  have:=lM (dE sS) hp
  exact ih (wo S p).length (by omega) _ rfl (qp hS p)
theorem oD {Z:List (List Int×Int)}{m:Nat}{w:Int}{es:List (List Int×Int)}{Ls:List (List Int)}(pm:Ls.Perm (sbs (rgI m)))(so:Ls.Pairwise λx y=>HT.lexLt y x=false):Right Z m w es↔es.map (·.1)=Ls/\(∀S∈Ls,fT es S=due Z (fT es) S)/\fT es (rgI m)=w:=by
 have nd:Ls.Nodup:=pm.nodup_iff.mpr (lL (ck m))
 have all:rgI m∈sbs (rgI m):=(di (ck m) _).mpr ⟨ck m,λv hv=>hv⟩
 constructor
 ·rintro ⟨⟨p1,p2⟩,rfl⟩
  have k:=p1.map (·.1)
  rw[qo] at k
  have ke:es.map (·.1)=Ls:=qm (k.trans pm.symm) (kK p2) so
  have val:∀S∈sbs (rgI m),fT es S=LW Z S:=λS hS=>by
   unfold fT
   rw[mM (ke ▸ nd) (p1.mem_iff.mpr (wq.mpr ⟨S,hS,rfl⟩))];rfl
  refine ⟨ke,λS hS =>?_,val _ all⟩
  have hS:=pm.mem_iff.mp hS
  rw[val S hS, <- lN ((di (ck m) S).mp hS).1]
  exact jg λp _=>(val _ (qp hS p)).symm
 ·rintro ⟨ke,hd,rfl⟩
  have val:∀S∈sbs (rgI m),fT es S=LW Z S:=λS hS=>rE (λS hS=>hd S (pm.mem_iff.mpr hS)) _ S rfl hS
  have ndk:(es.map (·.1)).Nodup:=ke ▸ nd
  have eq:es=cn Z Ls:=by
   unfold cn
   rw[<- ke,v9]
   conv=>lhs;rw[<- List.map_id es]
   refine yo λe he =>?_
   have hm:e.1∈Ls:=ke ▸ xR he
   have:=val e.1 (pm.mem_iff.mp hm)
   unfold fT at this
   rw[mM ndk (show (e.1,e.2)∈es from he)] at this
   exact CN rfl this
  refine ⟨⟨eq ▸ pm.map _,?_⟩,val _ all⟩
  have h1:es.Pairwise λx y=>HT.lexLt y.1 x.1=false:=wj.mp (ke ▸ so)
  have h2:es.Pairwise λx y=>x.1≠y.1:=wj.mp ndk
  refine (h1.and h2).imp λ{x y} q =>?_
  unfold Srt.qLt
  rw[if_neg (λz=>q.2 z.symm)];exact q.1
open PySem L2
theorem qq (ns:List Int):∃r,sbs ns=[] :: r:=by
 refine snoc_cases (C:=λns=>∃r,sbs ns=[] :: r) ⟨[],rfl⟩ (λl a ih =>?_) ns
 obtain ⟨r,e⟩:=ih
 rw[cz,e];exact ⟨_,rfl⟩
abbrev kM:Sp:=λvs H Q _=>∃(r l t:Addr) (m:Nat) (ts:List (Addr×List Int)) (ws:List Int) (weight:Int) (tb:List (Addr×(Addr×List Int)×Int)),vs=[.ref r,.ref l,.int weight,.ref t]/\Ow H r (m:Int) ts/\m<=5/\ts.length<=200/\H l=some (.lst (ws.map V.int))/\ws.length=ts.length/\H t=some (.lst (tb.map λu=>V.ref u.1))/\cV H tb/\tb.length<=100/\∀(b:Bool) (H':Hp),aD H H'->(b=true↔Right ((ts.map (·.2)).zip ws) m weight (tb.map aQ))->Q (.bl b) H'
@[irreducible] def gz:Sp:=kM
theorem dH {vs:List V}{H:Hp}{Q:VK}{E:XK}:gz vs H Q E↔kM vs H Q E:=by
 delta gz
 exact yC
section
variable  {P:vI}{w:wc}{K:u6}{mg:Str->Option uW}{base:Heap}{f T:Addr}{fd:wO}
theorem dI:aR ["web", "worths", "weight", "table", "sets", "rows", "places", "least"] ["web", "worths", "weight", "table"] (ao gu):=⟨rfl,rfl,rfl,by decide +kernel,rfl,by decide +kernel,by decide +kernel⟩
theorem jJ:(["row"]:List Str).Nodup:=by decide +kernel
theorem bP:(["places", "rows", "web", "worths"]:List Str).Nodup:=by decide +kernel
theorem qr (F:Fun K "_law_shows" "_law_shows" gu f fd)(B:Blt mg)(cLSets:Cal P w K mg base 1 "_law_sets" ["many"] fG)(cLRowDue:Cal P w K mg base 2 "_law_row_due" ["web", "worths", "rows", "places"] kJ)(C:Cst mg):bO P w K mg base CX0 3 f fd ["web", "worths", "weight", "table"] gz:=by
 refine F.ok dI (λvs H Q E h =>?_) (λcdv A outer s H vs Q E hr h =>?_)
 ·obtain ⟨_,_,_,_,_,_,_,_,rfl,_⟩:=dH.mp h
  rfl
 obtain ⟨r,l,t,m,ts,ws,weight,tb,rfl,W,m5,tl,el,lw,et,en,lt,q⟩:=dH.mp h
 have hu:(fM CX0 P w K mg base ["web", "worths", "weight", "table", "sets", "rows", "places", "least"] "_law_shows" (ao gu) f cdv A outer s H E).nox.A.units+1<cLine:=iP hr
 refine ⟨_,(@ai _ _ _ _ _ (@az _ _ 4 _ _ _ _ dI.nd rfl (Or.inl rfl) (aS (iD (hu8 hr)) rfl B.b_sorted cW (@aa _ _ _ _ _ (aH cLSets hr (by decide) rfl (@aa _ _ _ _ _ (@aI _ _ _ _ _ _ _ aX (pv 0) ag (λ_ _=>rfl)) ah rfl)) ah rfl)) rfl (by first | exact .inl rfl | exact .inr rfl | assumption))
  (@ai _ _ _ _ _ (@bo _ _ _ _ _ _ _ _ (aA (rd hr) (bN ["row"] [none] rfl (@bW _ _ _ _ (pv 3)) rfl (λ_ _ _ _ _=>(av (i:=0) jJ rfl (Or.inl rfl))) (λ_ _ _ _ _=>cx) (λ_ _ _ _ _=>(@aI _ _ _ _ _ _ _ (dO (K:=K)) (pv 0) ag (λ_ _=>rfl)))) (pv 4) (aB _)) (@aj _ _ _ (@aO _ _ _ _ oG)) aP)
  (@ai _ _ _ _ _ (@az _ _ 5 _ _ _ _ dI.nd rfl (Or.inr rfl) gQ rfl (by first | exact .inl rfl | exact .inr rfl | assumption))
  (@ai _ _ _ _ _ (@bL _ _ _ _ _ _ _ _ wA rfl (@bW _ _ _ _ (pv 3)) (fI rfl (bg (av (i:=6) dI.nd rfl (Or.inl rfl)) (bg (av (i:=7) dI.nd rfl (Or.inl rfl)) dM)))
   (@aj _ _ _ (gr hu (pv 5) (pv 6) (pv 7) rfl)) (λ_=>rfl))
  (@ai _ _ _ _ _ (@bo _ _ _ _ _ _ _ _ (kP (aS (pM rfl) rfl B.b_any tN (@aa _ _ _ _ _ (bN ["places", "rows", "web", "worths"] [none,some 5,some 0,some 1] rfl (@bW _ _ _ _ (pv 4)) rfl (λ_ _ _ _ _=>(av (i:=0) bP rfl (Or.inl rfl))) (λ_ _ _ _ _=>cx) (λ_ _ _ _ _=>(eV jQ (fq hu (pv 1) (pv 0) (λ_ _=>rfl)) (aH cLRowDue hr (by decide) rfl (@aa _ _ _ _ _ (pv 2) (@aa _ _ _ _ _ (pv 3) (@aa _ _ _ _ _ (pv 1) (@aa _ _ _ _ _ (pv 0) ah rfl) rfl) rfl) rfl)) (aB _)))) ah rfl))) (@aj _ _ _ (@aO _ _ _ _ oG)) aP)
  (@aj _ _ _ (@aO _ _ _ _ (eV bZ (fq hu (pv 5) (aU (dD hr.hd) rfl B.b_tuple cb (@aa _ _ _ _ _ (aU dC rfl B.b_range hU (@aa _ _ _ _ _ (@aI _ _ _ _ _ _ _ aX (pv 0) ag (λ_ _=>rfl)) ah rfl)) ah rfl)) (λ_ _=>rfl)) (pv 2) (aB _))))))))),?_⟩
 obtain ⟨t',e1,e2⟩:=W.at'
 generalize hZ:(ts.map (·.2)).zip ws=Z at q
 refine ⟨_,rfl,r,_,0,_,rfl,rfl,SqT.of e1,rfl,cI.mpr ⟨m,rfl,m5,λl1 us1 H1 s1 el1 tu1 em =>?_⟩⟩
 obtain ⟨t0,rest,rfl⟩:∃t0 rest,us1=(t0,[]) :: rest:=by
  obtain ⟨r',er'⟩:=qq (rgI m)
  rw[er'] at em
  cases us1 with
  | nil=>cases em
  | cons u v =>
   rw[vw] at em
   obtain ⟨a,b⟩:=u
   cases (zM em).1
   exact ⟨_,_,rfl⟩
 refine ⟨l1,t0,rest,rfl,el1,tu1,λl2 us hl2 pm so =>?_⟩
 have g2:=ae hl2 (.lst (us.map λu=>V.ref u.1))
 have el2:upd H1 l2 (.lst (us.map λu=>V.ref u.1)) l2=some (.lst (us.map λu=>V.ref u.1)):=af
 generalize upd H1 l2 (.lst (us.map λu=>V.ref u.1))=H2 at g2 el2
 have tu:Tus H2 us:=λu hu=>g2 _ _ (tu1 u (pm.mem_iff.mp hu))
 have pmL:(us.map (·.2)).Perm (sbs (rgI m)):=em ▸ pm.map (·.2)
 have soL:(us.map (·.2)).Pairwise λx y=>HT.lexLt y x=false:=wj.mpr so
 have ri:=oD (Z:=Z) (w:=weight) (es:=tb.map aQ) pmL soL
 have s02:=s1.trans g2
 have et2:=s02 _ _ et
 have en2:=aF en s02
 have lus:us.length<=32:=by
  have:=pmL.length_eq
  rw[uT,fD,aV] at this
  have:2 ^ m<=2 ^ 5:=xJ (by decide) m5
  omega
 refine ⟨_,rfl,t,rfl,⟨_,SqL.of et2⟩,bT (xs:=tb.map λu=>V.ref u.1) (λk zs H'=>H'=H2/\zs=(tb.take k).map λu=>V.ref u.2.1.1) ⟨rfl,rfl⟩ (by rw[uT];exact cN (by omega)) (λk zs H' _ h=>by rw[h.1];exact SqL.of et2) ?_ ?_⟩
 ·rintro k x zs H' hx hz ⟨rfl,rfl⟩ R1 R0 r1 r0
  obtain ⟨u,eu,rfl⟩:=dq hx
  obtain ⟨h1,h2⟩:=en2 u (vf eu)
  refine gh ⟨_,rfl,u.1,_,0,_,rfl,rfl,SqT.of h1,rfl,r1 _ _ ⟨rfl,?_⟩⟩
  rw[vQ,eu,vj];rfl
 rintro zs H' hz ⟨rfl,rfl⟩ l3 hl3
 rw[uT,vD (va _)]
 have g3:=ae hl3 (.lst (tb.map λu=>V.ref u.2.1.1))
 have e3:upd H' l3 (.lst (tb.map λu=>V.ref u.2.1.1)) l3=some (.lst ((tb.map (·.2.1)).map λu=>V.ref u.1)):=by rw[af,v9];rfl
 generalize upd H' l3 (.lst (tb.map λu=>V.ref u.2.1.1))=H3 at g3 e3
 have s03:=s02.trans g3
 have keyE:(tb.map (·.2.1)).map (·.2)=(tb.map aQ).map (·.1):=by rw[v9,v9];rfl
 refine ⟨_,rfl,l3,l2,tb.map (·.2.1),us,rfl,rfl,e3,g3 _ _ el2,λu hu =>?_,λu hu=>g3 _ _ (tu u hu),_,rfl,bz (λc =>?_) (λc =>?_)⟩
 ·obtain ⟨v,hv,rfl⟩:=wq.mp hu
  exact g3 _ _ (en2 v hv).2
 ·rw[keyE] at c
  exact q false _ s03 ⟨λh=>(by cases h),λh=>by rw[decide_eq_true (ri.mp h).1] at c;cases c⟩
 rw[keyE] at c
 have ke:(tb.map aQ).map (·.1)=us.map (·.2):=by
  by_cases d:(tb.map aQ).map (·.1)=us.map (·.2)
  ·exact d
  ·rw[decide_eq_false d] at c;exact absurd rfl c
 have ndL:(us.map (·.2)).Nodup:=pmL.nodup_iff.mpr (lL (ck m))
 generalize hes:tb.map aQ=es at q ri ke
 refine λdd hdd =>?_
 have g4:=ae hdd (.dT [])
 have e4:upd H3 dd (.dT []) dd=some (.dT []):=af
 generalize upd H3 dd (.dT [])=H4 at g4 e4
 have sam:∀{H5:Hp},Sb H3 dd H5->aD H3 H5:=λsb=>sb.all hdd
 have et3:=g3 _ _ et2
 have en3:=aF en2 g3
 refine ⟨_,rfl,t,rfl,⟨_,SqL.of (g4 _ _ et3)⟩,eU (xs:=tb.map λu =>.ref u.1) (λi σ H5=>(∃c5 c6,σ=[some (.ref r),some (.ref l),some (.int weight),some (.ref t),some (.ref l2),some (.ref dd),c5,c6])/\Sb H3 dd H5/\H5 dd=some (.dT (kvE (es.take i)))) ⟨⟨_,_,rfl⟩,λa o e _=>g4 _ _ e,e4⟩ (λi σ H5 _ k=>SqL.of (sam k.2.1 _ _ et3)) ?_ ?_⟩
 ·rintro i x σ H5 hx ⟨⟨c5,c6,rfl⟩,sb,ed⟩
  obtain ⟨u,eu,rfl⟩:=dq hx
  obtain ⟨h1,h2⟩:=en3 u (vf eu)
  have s5:=sam sb
  have ee:es[i]? = some (aQ u):=by rw[<- hes,vi,eu];rfl
  have nw:(es.take i).lookup u.2.1.2=none:=oB λh=>by
   rw[Bq] at h
   obtain ⟨j,hj⟩:=yf h
   have h1:=bV hj
   rw[v3] at h1
   rw[xD (by omega)] at hj
   have hi:(es.map (·.1))[i]? = some u.2.1.2:=by rw[vi,ee];rfl
   have:=(zt (bV hj) (ke ▸ ndL)).mp (hj.trans hi.symm)
   omega
  have li:(kvE (es.take i)).length<vm:=by
   unfold kvE
   rw[uT,v3, <- hes,uT];exact hV (by omega)
  refine ⟨u.1,_,rfl,SqT.of (s5 _ _ h1),rfl,_,_,rfl,_,_,rfl,rfl,?_⟩
  refine ⟨_,rfl,_,rfl,_,rfl,dd,_,rfl,j7.t ed (k:=u.2.1.2.map (Sum.inl:Int->Key)) (by rw[s5 _ _ h2,v9];rfl) li,⟨_,_,rfl⟩,sb.set _,?_⟩
  rw[af,mE nw,vQ,ee];rfl
 rintro σ H5 ⟨⟨c5,c6,rfl⟩,sb,ed⟩
 rw[uT,vD (by rw[<- hes,uT];exact va _)] at ed
 have s5:=s03.trans (sam sb)
 have el5:=sam sb _ _ (g3 _ _ el2)
 have tu5:Tus H5 us:=λu hu=>sam sb _ _ (g3 _ _ (tu u hu))
 have lk:∀S∈us.map (·.2),es.lookup S=some (fT es S):=λS hS=>rD (ke ▸ hS)
 refine ⟨_,rfl,l2,rfl,⟨_,SqL.of el5⟩,bT (xs:=us.map λu=>V.ref u.1) (λk zs H'=>aD H5 H'/\zs=((us.take k).map λu => !decide (fT es u.2=due Z (fT es) u.2)).map V.bl) ⟨aD.refl _,rfl⟩ (by rw[uT];exact cN (by omega)) (λk zs H' _ h=>SqL.of (h.1 _ _ el5)) ?_ ?_⟩
 ·rintro k x zs H6 hx hz ⟨s6,rfl⟩ R1 R0 r1 r0
  obtain ⟨u,eu,rfl⟩:=dq hx
  have mu:=vf eu
  have mS:u.2∈us.map (·.2):=xR mu
  have hu6:=s6 _ _ (tu5 u mu)
  have lS:u.2.length<=9:=by
   have:=fE _ _ (pmL.mem_iff.mp mS)
   rw[aV] at this;omega
  refine gh ⟨_,rfl,_,rfl,dd,.int (fT es u.2),rfl,by have:=iA.t (s6 _ _ ed) (b:=u.1) (k:=u.2.map (Sum.inl:Int->Key)) (by rw[hu6,v9];rfl);rw[dj,lk _ mS] at this;exact this,_,rfl,_,rfl,_,rfl,_,rfl,d9.mpr ⟨r,l,dd,u.1,m,ts,ws,es,u.2,fT es,rfl,W.same (s5.trans s6),tl,(s5.trans s6) _ _ el,lw,s6 _ _ ed,hu6,lS,λp _=>lk _ (pmL.mem_iff.mpr (qp (pmL.mem_iff.mp mS) p)),λH7 s7=>⟨rfl,r1 _ _ ⟨s6.trans s7,?_⟩⟩⟩⟩
  rw[hZ,gp,vQ,eu,vj,vj];rfl
 rintro zs H6 hz ⟨s6,rfl⟩ l6 hl6
 rw[uT,vD (va _)]
 have g7:=ae hl6 (.lst ((us.map λu => !decide (fT es u.2=due Z (fT es) u.2)).map V.bl))
 have e7:upd H6 l6 (.lst ((us.map λu => !decide (fT es u.2=due Z (fT es) u.2)).map V.bl)) l6=some (.lst ((us.map λu => !decide (fT es u.2=due Z (fT es) u.2)).map V.bl)):=af
 generalize upd H6 l6 (.lst ((us.map λu => !decide (fT es u.2=due Z (fT es) u.2)).map V.bl))=H7 at g7 e7
 have s57:=s6.trans g7
 have anyE:(us.map λu => !decide (fT es u.2=due Z (fT es) u.2)).any id=true↔¬ ∀S∈us.map (·.2),fT es S=due Z (fT es) S:=by
  rw[AI]
  constructor
  ·rintro ⟨b,hb,ht⟩ h
   obtain ⟨u,hu,rfl⟩:=wq.mp hb
   have:=h u.2 (xR hu)
   simp[this] at ht
  ·intro h
   by_cases c:∃u∈us,fT es u.2≠due Z (fT es) u.2
   ·obtain ⟨u,hu,ne⟩:=c
    exact ⟨_,wq.mpr ⟨u,hu,rfl⟩,by simp[ne]⟩
   ·exfalso
    refine h λS hS =>?_
    obtain ⟨u,hu,rfl⟩:=wq.mp hS
    by_cases d:fT es u.2=due Z (fT es) u.2
    ·exact d
    ·exact absurd ⟨u,hu,d⟩ c
 refine ⟨l6,_,rfl,SqL.of e7,_,rfl,bz (λc =>?_) (λc =>?_)⟩
 ·exact q false _ (s5.trans s57) ⟨λh=>(by cases h),λh=>absurd (ri.mp h).2.1 (anyE.mp c)⟩
 have hall:∀S∈us.map (·.2),fT es S=due Z (fT es) S:=by
  by_cases d:∀S∈us.map (·.2),fT es S=due Z (fT es) S
  ·exact d
  ·exact absurd (anyE.mpr d) c
 refine ⟨_,rfl,_,rfl,r,_,0,_,rfl,rfl,SqT.of (s57 _ _ (s5 _ _ e1)),rfl,(m:Int),rfl,λrg hrg=>⟨rg,m,rfl,af,by omega,λtl htl =>?_⟩⟩
 have g8:=(ae hrg (.rng 0 m)).trans (ae htl (.tup ((wF m).map λi=>V.int (i:Nat))))
 have e8:upd (upd H7 rg (.rng 0 m)) tl (.tup ((wF m).map λi=>V.int (i:Nat))) tl=some (.tup (((rgI m).map (Sum.inl:Int->Key)).map kV)):=by rw[af];unfold rgI;rw[v9,v9];rfl
 generalize upd (upd H7 rg (.rng 0 m)) tl (.tup ((wF m).map λi=>V.int (i:Nat)))=H8 at g8 e8
 have s58:=s57.trans g8
 have all:rgI m∈us.map (·.2):=pmL.mem_iff.mpr ((di (ck m) _).mpr ⟨ck m,λv hv=>hv⟩)
 refine ⟨dd,.int (fT es (rgI m)),rfl,by have:=iA.t (s58 _ _ ed) e8;rw[dj,lk _ all] at this;exact this,?_⟩
 refine ⟨_,rfl,rfl,q _ _ (s5.trans s58) ?_⟩
 rw[decide_eq_true_iff,ri]
 exact ⟨λh=>⟨ke,hall,V.int.inj h⟩,λh=>by rw[h.2.2]⟩
end
open PySem L2
theorem bK {α:Type}(f:α -> V)(ns:List α)(lo hi:Option Int):∃ms:List α,mZ (ns.map f) lo hi=ms.map f/\ms.length<=ns.length/\∀v∈ms,v∈ns:=by
 refine ⟨(ns.drop (HT.sIx (ns.map f).length 0 lo)).take (HT.sIx (ns.map f).length (ns.map f).length hi-HT.sIx (ns.map f).length 0 lo),?_,?_,λv hv=>yc (ye hv)⟩
 ·unfold mZ
  rw[Bq,CF]
 ·rw[v3,xH]
  omega
theorem bp {H:Hp}{a b:List (Addr×(Addr×List Int)×Int)}(x:cV H a)(y:cV H b):cV H (a++b):=λu hu=>(vx.mp hu).elim (x u) (y u)
theorem a9 {H:Hp}{a b:List (Addr×(Addr×List Int)×Int)}(x:cV H a)(s:∀u∈b,u∈a):cV H b:=λu hu=>x u (s u hu)
abbrev qu:Sp:=λvs H Q _=>∃(p l:Addr) (tb:List (Addr×(Addr×List Int)×Int)),vs=[.ref p,.ref l]/\Pt 2 H p/\l≠p/\H l=some (.lst (tb.map λu=>V.ref u.1))/\cV H tb/\tb≠[]/\tb.length<=40/\(∀u∈tb,u.2.1.2.length<=9)/\∀(l':Addr) (H':Hp) (zs:List (Addr×(Addr×List Int)×Int)),Bu 2 p H H'->H' l'=some (.lst (zs.map λu=>V.ref u.1))->cV H' zs->zs.length<=100->l'≠p->Q (.ref l') H'
@[irreducible] def mN:Sp:=qu
theorem fX {vs:List V}{H:Hp}{Q:VK}{E:XK}:mN vs H Q E↔qu vs H Q E:=by
 delta mN
 exact yC
section
variable  {P:vI}{w:wc}{K:u6}{mg:Str->Option uW}{base:Heap}{f T:Addr}{fd:wO}
theorem cu:aR ["pot", "table", "way", "at", "places", "least", "number"] ["pot", "table"] (ao hJ):=⟨rfl,rfl,rfl,by decide +kernel,rfl,by decide +kernel,by decide +kernel⟩
theorem dy:(["some", "number"]:List Str).Nodup:=by decide +kernel
theorem oE (F:Fun K "_law_spoilt" "_law_spoilt" hJ f fd)(B:Blt mg)(cLPick:Cal P w K mg base 1 "_law_pick" ["pot", "many"] eQ)(C:Cst mg):bO P w K mg base CX0 2 f fd ["pot", "table"] mN:=by
 refine F.ok cu (λvs H Q E h =>?_) (λcdv A outer s H vs Q E hr h =>?_)
 ·obtain ⟨_,_,_,rfl,_⟩:=fX.mp h
  rfl
 obtain ⟨p,l,tb,rfl,hp,lp,el,en,tne,tl,kl,q⟩:=fX.mp h
 refine ⟨_,(@ai _ _ _ _ _ (@az _ _ 2 _ _ _ _ cu.nd rfl (Or.inl rfl) (aH cLPick hr (by decide) rfl (@aa _ _ _ _ _ (pv 0) (@aa _ _ _ _ _ ag ah rfl) rfl)) rfl (by first | exact .inl rfl | exact .inr rfl | assumption))
  (@ai _ _ _ _ _ (@az _ _ 3 _ _ _ _ cu.nd rfl (Or.inl rfl) (aH cLPick hr (by decide) rfl (@aa _ _ _ _ _ (pv 0) (@aa _ _ _ _ _ (aS cp rfl B.b_len jA (@aa _ _ _ _ _ (pv 1) ah rfl)) ah rfl) rfl)) rfl (by first | exact .inl rfl | exact .inr rfl | assumption))
  (@ai _ _ _ _ _ (@jm _ _ _ _ _ _ (@aI _ _ _ _ _ _ _ bG (pv 1) (pv 3) (λ_ _=>rfl)) (fI rfl (bg (av (i:=4) cu.nd rfl (Or.inl rfl)) (bg (av (i:=5) cu.nd rfl (Or.inl rfl)) dM))) rfl rfl rfl)
  (@ai _ _ _ _ _ (@bo _ _ _ _ _ _ _ _ (aA bZ (pv 2) ag (aB _)) (@ai _ _ _ _ _ (@az _ _ 6 _ _ _ _ cu.nd rfl (Or.inl rfl) (@aI _ _ _ _ _ _ _ aX (@ba _ _ _ _ _ (@aa _ _ _ _ _ (@au _ _ _ _ _ _ _ _ bB (pv 5) ag) (@aa _ _ _ _ _ (@au _ _ _ _ _ _ _ _ kU (pv 5) ag) (@aa _ _ _ _ _ ag (@aa _ _ _ _ _ (@au _ _ _ _ _ _ _ _ kU (@au _ _ _ _ _ _ _ _ cw ag ag) ag) ah rfl) rfl) rfl) rfl)) (aH cLPick hr (by decide) rfl (@aa _ _ _ _ _ (pv 0) (@aa _ _ _ _ _ ag ah rfl) rfl)) (λ_ _=>rfl)) rfl (by first | exact .inl rfl | exact .inr rfl | assumption))
   (@aj _ _ _ (@aO _ _ _ _ (@au _ _ _ _ _ _ _ _ bI (@au _ _ _ _ _ _ _ _ bI (bh bH (pv 1) bE (bF (pv 3))) (@cj _ _ _ _ (@aa _ _ _ _ _ (@ba _ _ _ _ _ (@aa _ _ _ _ _ (pv 4) (@aa _ _ _ _ _ (pv 6) ah rfl) rfl)) ah rfl))) (bh bH (pv 1) (bF (@au _ _ _ _ _ _ _ _ bB (pv 3) ag)) bE))))) aP)
  (@ai _ _ _ _ _ (@bo _ _ _ _ _ _ _ _ (aA bZ (pv 2) ag (aB _)) (@aj _ _ _ (@aO _ _ _ _ (@au _ _ _ _ _ _ _ _ bI (bh bH (pv 1) bE (bF (pv 3))) (bh bH (pv 1) (bF (@au _ _ _ _ _ _ _ _ bB (pv 3) ag)) bE)))) aP)
  (@ai _ _ _ _ _ (@bo _ _ _ _ _ _ _ _ (aA bZ (pv 2) ag (aB _)) (@aj _ _ _ (@aO _ _ _ _ (@au _ _ _ _ _ _ _ _ bI (@au _ _ _ _ _ _ _ _ bI (bh bH (pv 1) bE (bF (pv 3))) (@cj _ _ _ _ (@aa _ _ _ _ _ (@aI _ _ _ _ _ _ _ bG (pv 1) (pv 3) (λ_ _=>rfl)) ah rfl))) (bh bH (pv 1) (bF (pv 3)) bE)))) aP)
  (@ai _ _ _ _ _ (@bo _ _ _ _ _ _ _ _ (aA bZ (pv 2) ag (aB _)) (@aj _ _ _ (@aO _ _ _ _ (@au _ _ _ _ _ _ _ _ bI (bh bH (pv 1) (bF (pv 3)) bE) (bh bH (pv 1) bE (bF (pv 3)))))) aP)
  (@ai _ _ _ _ _ (@bo _ _ _ _ _ _ _ _ (aA bZ (pv 2) ag (aB _)) (@aj _ _ _ (@aO _ _ _ _ (@au _ _ _ _ _ _ _ _ bI (@au _ _ _ _ _ _ _ _ bI (bh bH (pv 1) bE (bF (pv 3))) (@cj _ _ _ _ (@aa _ _ _ _ _ (@ba _ _ _ _ _ (@aa _ _ _ _ _ (@au _ _ _ _ _ _ _ _ pU (pv 4) (@ba _ _ _ _ _ (@aa _ _ _ _ _ ag ah rfl))) (@aa _ _ _ _ _ (pv 5) ah rfl) rfl)) ah rfl))) (bh bH (pv 1) (bF (@au _ _ _ _ _ _ _ _ bB (pv 3) ag)) bE)))) aP)
  (@ai _ _ _ _ _ (@bo _ _ _ _ _ _ _ _ (aA bZ (pv 2) ag (aB _)) (@aj _ _ _ (@aO _ _ _ _ (bN ["some", "number"] [none,none] rfl (@bW _ _ _ _ (pv 1)) rfl (λ_ _ _ _ _=>(j6 (K:=K) (i:=0) (j:=1) dy rfl rfl (Or.inl rfl) (Or.inl rfl))) (λ_ _ _ _ _=>cx) (λ_ _ _ _ _=>(@ba _ _ _ _ _ (@aa _ _ _ _ _ (pv 0) (@aa _ _ _ _ _ (@au _ _ _ _ _ _ _ _ bB (pv 1) ag) ah rfl) rfl)))))) aP)
  (@ai _ _ _ _ _ (@bo _ _ _ _ _ _ _ _ (aA bZ (pv 2) ag (aB _)) (@aj _ _ _ (@aO _ _ _ _ (@au _ _ _ _ _ _ _ _ bI (@au _ _ _ _ _ _ _ _ bI (bh bH (pv 1) bE (bF (pv 3))) (@cj _ _ _ _ (@aa _ _ _ _ _ (@ba _ _ _ _ _ (@aa _ _ _ _ _ (nY hr.hd rfl B.b_tuple rfl B.b_reversed (pv 4)) (@aa _ _ _ _ _ (pv 5) ah rfl) rfl)) ah rfl))) (bh bH (pv 1) (bF (@au _ _ _ _ _ _ _ _ bB (pv 3) ag)) bE)))) aP)
  (@aj _ _ _ (@aO _ _ _ _ (pv 1))))))))))))),?_⟩
 have tp0:0<tb.length:=zV.mpr tne
 refine ⟨_,rfl,aE.mpr ⟨p,8,rfl,hp,by decide,aZ (by decide) (by decide),λwy H2 w0 w8 u2 =>?_⟩⟩
 have el2:=u2.st _ _ lp el
 refine ⟨_,rfl,_,rfl,l,_,rfl,.inl (SqL.of el2),aE.mpr ⟨p,(tb.length:Int),by rw[uT];rfl,u2.pot,by omega,aZ (by omega) (by omega),λn' H3 n0 n1 u3' =>?_⟩⟩
 obtain ⟨n,rfl⟩:∃n:Nat,n'=n:=⟨n'.toNat,by omega⟩
 have hn:n<tb.length:=by omega
 have u3:=u2.trans u3'
 have el3:=u3.st _ _ lp el
 have en3:cV H3 tb:=λu hu=>⟨u3.tup hp (en u hu).1,u3.tup hp (en u hu).2⟩
 obtain ⟨k,ek⟩:∃k,tb[n]? = some k:=⟨_,vk hn⟩
 have mk:=vf ek
 obtain ⟨h1,h2⟩:=en3 k mk
 have k9:=kl k mk
 refine ⟨_,rfl,_,rfl,l,_,_,_,rfl,rfl,SqL.of el3,cB (by rw[vi,ek];rfl),?_⟩
 refine ⟨k.1,_,rfl,SqT.of h1,rfl,_,_,rfl,_,_,rfl,rfl,?_⟩
 refine ⟨_,rfl,rfl,_,rfl,bz (λz =>?_) λz1 =>?_⟩
 ·refine ⟨_,rfl,_,_,rfl,rfl,_,rfl,_,_,rfl,rfl,_,_,rfl,rfl,⟨by decide,by decide,by decide⟩,_,_,rfl,rfl,(by show 4<=vm;decide),λtq htq =>?_⟩
  refine ⟨_,rfl,aE.mpr ⟨p,4,rfl,u3.pot.same (ae htq _),by decide,aZ (by decide) (by decide),λd H5 d0 d1 u5' =>?_⟩⟩
  have u5:=(u3.same (ae htq _)).trans u5'
  have etq:=u5'.tup (u3.pot.same (ae htq _)) af
  obtain ⟨nn,enn⟩:∃nn:Int,atI [V.int (k.2.2+1),V.int (k.2.2-1),V.int 0,V.int ((10:Int) ^ (60:Int).toNat-1)] d=some (.int nn):=by
   rcases (show d=0\/d=1\/d=2\/d=3 by omega) with z | z | z | z <;> subst z <;> exact ⟨_,rfl⟩
  refine ⟨tq,_,d,_,rfl,rfl,SqT.of etq,enn,?_⟩
  have el5:=u5.st _ _ lp el
  have en5:cV H5 tb:=λu hu=>⟨u5.tup hp (en u hu).1,u5.tup hp (en u hu).2⟩
  refine ⟨_,rfl,_,rfl,_,rfl,l,_,rfl,SqL.of el5,λp1 hp1 =>?_⟩
  obtain ⟨z1,c1,l1,m1⟩:=bK (λu=>V.ref u.1) tb none (some (n:Int))
  rw[c1]
  have g1:=ae hp1 (.lst (z1.map λu=>V.ref u.1))
  have e1:upd H5 p1 (.lst (z1.map λu=>V.ref u.1)) p1=some (.lst (z1.map λu=>V.ref u.1)):=af
  generalize upd H5 p1 (.lst (z1.map λu=>V.ref u.1))=H6 at g1 e1
  refine ⟨_,rfl,_,rfl,(by show 2<=vm;decide),λtp htp =>?_⟩
  have g8:=ae htp (.tup [V.ref k.2.1.1,V.int nn])
  have e8:upd H6 tp (.tup [V.ref k.2.1.1,V.int nn]) tp=some (.tup [V.ref k.2.1.1,V.int nn]):=af
  generalize upd H6 tp (.tup [V.ref k.2.1.1,V.int nn])=Hx at g8 e8
  have s3x:=g1.trans g8
  have ux:=u5.same s3x
  have ex:=aF en5 s3x
  have ep1:=g8 _ _ e1
  have etp:=e8
  have epa:=s3x _ _ (en5 k mk).2
  have elx:=s3x _ _ el5
  refine ⟨(by show 1<=vm;decide),λp2 hp2 =>?_⟩
  have g2:=ae hp2 (.lst [V.ref tp])
  have e2:upd Hx p2 (.lst [V.ref tp]) p2=some (.lst [V.ref tp]):=af
  generalize upd Hx p2 (.lst [V.ref tp])=H7 at g2 e2
  refine ⟨p1,p2,_,_,rfl,rfl,SqL.of (g2 _ _ ep1),SqL.of e2,(by rw[uT];exact small (by show _+1<=_;omega)),λp3 hp3 =>?_⟩
  rw[show z1.map (λu:Addr×(Addr×List Int)×Int=>V.ref u.1)++[V.ref tp]=(z1++[(tp,(k.2.1.1,k.2.1.2),nn)]).map (λu:Addr×(Addr×List Int)×Int=>V.ref u.1) by rw[vj];rfl]
  have g3:=ae hp3 (.lst ((z1++[(tp,(k.2.1.1,k.2.1.2),nn)]).map (λu:Addr×(Addr×List Int)×Int=>V.ref u.1)))
  have e3:upd H7 p3 (.lst ((z1++[(tp,(k.2.1.1,k.2.1.2),nn)]).map (λu:Addr×(Addr×List Int)×Int=>V.ref u.1))) p3=some (.lst ((z1++[(tp,(k.2.1.1,k.2.1.2),nn)]).map (λu:Addr×(Addr×List Int)×Int=>V.ref u.1))):=af
  generalize upd H7 p3 (.lst ((z1++[(tp,(k.2.1.1,k.2.1.2),nn)]).map (λu:Addr×(Addr×List Int)×Int=>V.ref u.1)))=H8 at g3 e3
  refine ⟨_,rfl,_,rfl,_,_,rfl,rfl,_,rfl,l,_,rfl,SqL.of (g3 _ _ (g2 _ _ elx)),λp4 hp4 =>?_⟩
  obtain ⟨z2,c2,l2,m2⟩:=bK (λu=>V.ref u.1) tb (some ((n:Int)+1)) none
  rw[c2]
  have g4:=ae hp4 (.lst (z2.map λu=>V.ref u.1))
  have e4:upd H8 p4 (.lst (z2.map λu=>V.ref u.1)) p4=some (.lst (z2.map λu=>V.ref u.1)):=af
  generalize upd H8 p4 (.lst (z2.map λu=>V.ref u.1))=H9 at g4 e4
  refine ⟨p3,p4,_,_,rfl,rfl,SqL.of (g4 _ _ e3),SqL.of e4,(by rw[uT,uT,u9];exact small (by show _+1+_<=_;omega)),λp5 hp5 =>?_⟩
  rw[<- vj]
  have g5:=ae hp5 (.lst (((z1++[(tp,(k.2.1.1,k.2.1.2),nn)])++z2).map (λu:Addr×(Addr×List Int)×Int=>V.ref u.1)))
  have s:=g2.trans (g3.trans (g4.trans g5))
  have En:=aF ex s
  refine q p5 _ _ (ux.same s) af (bp (bp (a9 En m1) λu hu =>?_) (a9 En m2)) (by rw[u9,u9];show _+1+_<=_;omega) (ux.pot.same (g2.trans (g3.trans g4)) |>.ne hp5)
  rw[vA.mp hu]
  exact ⟨s _ _ etp,s _ _ epa⟩
 refine ⟨_,rfl,rfl,_,rfl,bz (λz =>?_) λz2 =>?_⟩
 ·skip
  refine ⟨_,rfl,_,rfl,_,rfl,l,_,rfl,SqL.of el3,λp1 hp1 =>?_⟩
  obtain ⟨z1,c1,l1,m1⟩:=bK (λu=>V.ref u.1) tb none (some (n:Int))
  rw[c1]
  have g1:=ae hp1 (.lst (z1.map λu=>V.ref u.1))
  have e1:upd H3 p1 (.lst (z1.map λu=>V.ref u.1)) p1=some (.lst (z1.map λu=>V.ref u.1)):=af
  generalize upd H3 p1 (.lst (z1.map λu=>V.ref u.1))=H4 at g1 e1
  refine ⟨_,rfl,_,rfl,_,_,rfl,rfl,_,rfl,l,_,rfl,SqL.of (g1 _ _ el3),λp2 hp2 =>?_⟩
  obtain ⟨z2,c2,l2,m2⟩:=bK (λu=>V.ref u.1) tb (some ((n:Int)+1)) none
  rw[c2]
  have g2:=ae hp2 (.lst (z2.map λu=>V.ref u.1))
  have e2:upd H4 p2 (.lst (z2.map λu=>V.ref u.1)) p2=some (.lst (z2.map λu=>V.ref u.1)):=af
  generalize upd H4 p2 (.lst (z2.map λu=>V.ref u.1))=H5 at g2 e2
  refine ⟨p1,p2,_,_,rfl,rfl,SqL.of (g2 _ _ e1),SqL.of e2,(by rw[uT,uT];exact small (by omega)),λp3 hp3 =>?_⟩
  rw[<- vj]
  have g3:=ae hp3 (.lst ((z1++z2).map λu=>V.ref u.1))
  have s:=g1.trans (g2.trans g3)
  have En:=aF en3 s
  exact q p3 _ _ (u3.same s) af (bp (a9 En m1) (a9 En m2)) (by rw[u9];omega) ((u3.pot.same (g1.trans g2)).ne hp3)
 refine ⟨_,rfl,rfl,_,rfl,bz (λz =>?_) λz3 =>?_⟩
 ·skip
  refine ⟨_,rfl,_,rfl,_,rfl,l,_,rfl,SqL.of el3,λp1 hp1 =>?_⟩
  obtain ⟨z1,c1,l1,m1⟩:=bK (λu=>V.ref u.1) tb none (some (n:Int))
  rw[c1]
  have g1:=ae hp1 (.lst (z1.map λu=>V.ref u.1))
  have e1:upd H3 p1 (.lst (z1.map λu=>V.ref u.1)) p1=some (.lst (z1.map λu=>V.ref u.1)):=af
  generalize upd H3 p1 (.lst (z1.map λu=>V.ref u.1))=H4 at g1 e1
  refine ⟨_,rfl,_,rfl,l,_,_,_,rfl,rfl,SqL.of (g1 _ _ el3),cB (by rw[vi,ek];rfl),(by show 1<=vm;decide),λp2 hp2 =>?_⟩
  have g2:=ae hp2 (.lst [V.ref k.1])
  have e2:upd H4 p2 (.lst [V.ref k.1]) p2=some (.lst [V.ref k.1]):=af
  generalize upd H4 p2 (.lst [V.ref k.1])=H5 at g2 e2
  refine ⟨p1,p2,_,_,rfl,rfl,SqL.of (g2 _ _ e1),SqL.of e2,(by rw[uT];exact small (by show _+1<=_;omega)),λp3 hp3 =>?_⟩
  rw[show z1.map (λk=>V.ref k.1)++[V.ref k.1]=(z1++[k]).map λk=>V.ref k.1 by rw[vj];rfl]
  have g3:=ae hp3 (.lst ((z1++[k]).map λk=>V.ref k.1))
  have e3:upd H5 p3 (.lst ((z1++[k]).map λk=>V.ref k.1)) p3=some (.lst ((z1++[k]).map λk=>V.ref k.1)):=af
  generalize upd H5 p3 (.lst ((z1++[k]).map λk=>V.ref k.1))=H6 at g3 e3
  have s14:=g1.trans (g2.trans g3)
  refine ⟨_,rfl,_,rfl,_,rfl,l,_,rfl,SqL.of (s14 _ _ el3),λp4 hp4 =>?_⟩
  obtain ⟨z2,c2,l2,m2⟩:=bK (λu=>V.ref u.1) tb (some (n:Int)) none
  rw[c2]
  have g4:=ae hp4 (.lst (z2.map λu=>V.ref u.1))
  have e4:upd H6 p4 (.lst (z2.map λu=>V.ref u.1)) p4=some (.lst (z2.map λu=>V.ref u.1)):=af
  generalize upd H6 p4 (.lst (z2.map λu=>V.ref u.1))=H7 at g4 e4
  refine ⟨p3,p4,_,_,rfl,rfl,SqL.of (g4 _ _ e3),SqL.of e4,(by rw[uT,uT,u9];exact small (by show _+1+_<=_;omega)),λp5 hp5 =>?_⟩
  rw[<- vj]
  have g5:=ae hp5 (.lst (((z1++[k])++z2).map λk=>V.ref k.1))
  have s:=s14.trans (g4.trans g5)
  have En:=aF en3 s
  exact q p5 _ _ (u3.same s) af (bp (bp (a9 En m1) (a9 En λk' h=>by rw[vA.mp h];exact mk)) (a9 En m2)) (by rw[u9,u9];show _+1+_<=_;omega) ((u3.pot.same (s14.trans g4)).ne hp5)
 refine ⟨_,rfl,rfl,_,rfl,bz (λz =>?_) λz4 =>?_⟩
 ·refine ⟨_,rfl,_,rfl,_,rfl,l,_,rfl,SqL.of el3,λp1 hp1 =>?_⟩
  obtain ⟨z1,c1,l1,m1⟩:=bK (λu=>V.ref u.1) tb (some (n:Int)) none
  rw[c1]
  have g1:=ae hp1 (.lst (z1.map λk=>V.ref k.1))
  have e1:upd H3 p1 (.lst (z1.map λk=>V.ref k.1)) p1=some (.lst (z1.map λk=>V.ref k.1)):=af
  generalize upd H3 p1 (.lst (z1.map λk=>V.ref k.1))=H4 at g1 e1
  refine ⟨_,rfl,_,rfl,_,rfl,l,_,rfl,SqL.of (g1 _ _ el3),λp2 hp2 =>?_⟩
  obtain ⟨z2,c2,l2,m2⟩:=bK (λu=>V.ref u.1) tb none (some (n:Int))
  rw[c2]
  have g2:=ae hp2 (.lst (z2.map λk=>V.ref k.1))
  have e2:upd H4 p2 (.lst (z2.map λk=>V.ref k.1)) p2=some (.lst (z2.map λk=>V.ref k.1)):=af
  generalize upd H4 p2 (.lst (z2.map λk=>V.ref k.1))=H5 at g2 e2
  refine ⟨p1,p2,_,_,rfl,rfl,SqL.of (g2 _ _ e1),SqL.of e2,(by rw[uT,uT];exact small (by omega)),λp3 hp3 =>?_⟩
  rw[<- vj]
  have g3:=ae hp3 (.lst ((z1++z2).map λu=>V.ref u.1))
  have s:=g1.trans (g2.trans g3)
  have En:=aF en3 s
  exact q p3 _ _ (u3.same s) af (bp (a9 En m1) (a9 En m2)) (by rw[u9];omega) ((u3.pot.same (g1.trans g2)).ne hp3)
 refine ⟨_,rfl,rfl,_,rfl,bz (λz =>?_) λz5 =>?_⟩
 ·skip
  refine ⟨_,rfl,_,rfl,_,rfl,l,_,rfl,SqL.of el3,λp1 hp1 =>?_⟩
  obtain ⟨z1,c1,l1,m1⟩:=bK (λu=>V.ref u.1) tb none (some (n:Int))
  rw[c1]
  have g1:=ae hp1 (.lst (z1.map λu=>V.ref u.1))
  have e1:upd H3 p1 (.lst (z1.map λu=>V.ref u.1)) p1=some (.lst (z1.map λu=>V.ref u.1)):=af
  generalize upd H3 p1 (.lst (z1.map λu=>V.ref u.1))=H4 at g1 e1
  refine ⟨_,rfl,(by show 1<=vm;decide),λt7 ht7 =>?_⟩
  have g7:=ae ht7 (.tup [V.int 7])
  have e7:upd H4 t7 (.tup [V.int 7]) t7=some (.tup [V.int 7]):=af
  generalize upd H4 t7 (.tup [V.int 7])=H5 at g7 e7
  refine ⟨k.2.1.1,t7,_,_,rfl,rfl,g7 _ _ (g1 _ _ h2),e7,(by rw[uT];exact small (by show _+1<=_;omega)),λpa H6 s6 epa0=>⟨_,rfl,(by show 2<=vm;decide),λtp htp =>?_⟩⟩
  have epa1:H6 pa=some (.tup ((k.2.1.2++[7]).map V.int)):=by rw[epa0,vj];rfl
  have g8:=ae htp (.tup [V.ref pa,V.int k.2.2])
  have e8:upd H6 tp (.tup [V.ref pa,V.int k.2.2]) tp=some (.tup [V.ref pa,V.int k.2.2]):=af
  generalize upd H6 tp (.tup [V.ref pa,V.int k.2.2])=Hx at g8 e8
  have s3x:=g1.trans (g7.trans (s6.trans g8))
  have ux:=u3.same s3x
  have ex:=aF en3 s3x
  have ep1:=(g7.trans (s6.trans g8)) _ _ e1
  have etp:=e8
  have epa:=g8 _ _ epa1
  have elx:=s3x _ _ el3
  refine ⟨(by show 1<=vm;decide),λp2 hp2 =>?_⟩
  have g2:=ae hp2 (.lst [V.ref tp])
  have e2:upd Hx p2 (.lst [V.ref tp]) p2=some (.lst [V.ref tp]):=af
  generalize upd Hx p2 (.lst [V.ref tp])=H7 at g2 e2
  refine ⟨p1,p2,_,_,rfl,rfl,SqL.of (g2 _ _ ep1),SqL.of e2,(by rw[uT];exact small (by show _+1<=_;omega)),λp3 hp3 =>?_⟩
  rw[show z1.map (λu:Addr×(Addr×List Int)×Int=>V.ref u.1)++[V.ref tp]=(z1++[(tp,(pa,k.2.1.2++[7]),k.2.2)]).map (λu:Addr×(Addr×List Int)×Int=>V.ref u.1) by rw[vj];rfl]
  have g3:=ae hp3 (.lst ((z1++[(tp,(pa,k.2.1.2++[7]),k.2.2)]).map (λu:Addr×(Addr×List Int)×Int=>V.ref u.1)))
  have e3:upd H7 p3 (.lst ((z1++[(tp,(pa,k.2.1.2++[7]),k.2.2)]).map (λu:Addr×(Addr×List Int)×Int=>V.ref u.1))) p3=some (.lst ((z1++[(tp,(pa,k.2.1.2++[7]),k.2.2)]).map (λu:Addr×(Addr×List Int)×Int=>V.ref u.1))):=af
  generalize upd H7 p3 (.lst ((z1++[(tp,(pa,k.2.1.2++[7]),k.2.2)]).map (λu:Addr×(Addr×List Int)×Int=>V.ref u.1)))=H8 at g3 e3
  refine ⟨_,rfl,_,rfl,_,_,rfl,rfl,_,rfl,l,_,rfl,SqL.of (g3 _ _ (g2 _ _ elx)),λp4 hp4 =>?_⟩
  obtain ⟨z2,c2,l2,m2⟩:=bK (λu=>V.ref u.1) tb (some ((n:Int)+1)) none
  rw[c2]
  have g4:=ae hp4 (.lst (z2.map λu=>V.ref u.1))
  have e4:upd H8 p4 (.lst (z2.map λu=>V.ref u.1)) p4=some (.lst (z2.map λu=>V.ref u.1)):=af
  generalize upd H8 p4 (.lst (z2.map λu=>V.ref u.1))=H9 at g4 e4
  refine ⟨p3,p4,_,_,rfl,rfl,SqL.of (g4 _ _ e3),SqL.of e4,(by rw[uT,uT,u9];exact small (by show _+1+_<=_;omega)),λp5 hp5 =>?_⟩
  rw[<- vj]
  have g5:=ae hp5 (.lst (((z1++[(tp,(pa,k.2.1.2++[7]),k.2.2)])++z2).map (λu:Addr×(Addr×List Int)×Int=>V.ref u.1)))
  have s:=g2.trans (g3.trans (g4.trans g5))
  have En:=aF ex s
  refine q p5 _ _ (ux.same s) af (bp (bp (a9 En m1) λu hu =>?_) (a9 En m2)) (by rw[u9,u9];show _+1+_<=_;omega) (ux.pot.same (g2.trans (g3.trans g4)) |>.ne hp5)
  rw[vA.mp hu]
  exact ⟨s _ _ etp,s _ _ epa⟩
 refine ⟨_,rfl,rfl,_,rfl,bz (λz =>?_) λz6 =>?_⟩
 ·refine ⟨_,rfl,l,rfl,⟨_,SqL.of el3⟩,?_⟩
  have em:((tb.map λu=>(u.1,V.ref u.2.1.1,V.int u.2.2)).map λt:Addr×V×V=>V.ref t.1)=tb.map λu=>V.ref u.1:=by rw[v9];rfl
  refine k7 (ts:=tb.map λu=>(u.1,V.ref u.2.1.1,V.int u.2.2)) (λi ys H'=>aD H3 H'/\∃rs:List (Addr×(Addr×List Int)×Int),ys=(rs.map λu=>V.ref u.1)/\cV H' rs/\rs.length<=i) (by decide) ⟨aD.refl _,[],rfl,λu hu=>(by cases hu),va _⟩ (by rw[uT];exact small (by omega)) (λi ys H' _ h=>⟨by rw[em];exact SqL.of (h.1 _ _ el3),λt ht =>?_⟩) ?_ ?_
  ·obtain ⟨u,hu,rfl⟩:=wq.mp ht
   exact SqT.of (h.1 _ _ (en3 u hu).1)
  ·rintro i t ys H4 ht hy ⟨s4,rs,rfl,er,lr⟩ R1 R0 r1 r0
   rw[vi] at ht
   cases eu:tb[i]? with
   | none=>rw[eu] at ht;cases ht
   | some u =>
    rw[eu] at ht
    cases ht
    refine gh ⟨_,rfl,_,rfl,_,_,rfl,rfl,(by show 2<=vm;decide),λtp htp=>r1 _ _ ⟨s4.trans (ae htp _),rs++[(tp,u.2.1,u.2.2+1)],by rw[vj];rfl,bp (aF er (ae htp _)) λo ho =>?_,by rw[u9];show _+1<=_;omega⟩⟩
    rw[vA.mp ho]
    exact ⟨af,(ae htp _) _ _ (s4 _ _ (en3 u (vf eu)).2)⟩
  ·rintro ys H4 hy ⟨s4,rs,rfl,er,lr⟩ l4 hl4
   rw[uT] at lr
   exact q l4 _ rs (u3.same (s4.trans (ae hl4 _))) af (aF er (ae hl4 _)) (by omega) ((u3.pot.same s4).ne hl4)
 refine ⟨_,rfl,rfl,_,rfl,bz (λz =>?_) λz7 =>?_⟩
 ·skip
  refine ⟨_,rfl,_,rfl,_,rfl,l,_,rfl,SqL.of el3,λp1 hp1 =>?_⟩
  obtain ⟨z1,c1,l1,m1⟩:=bK (λu=>V.ref u.1) tb none (some (n:Int))
  rw[c1]
  have g1:=ae hp1 (.lst (z1.map λu=>V.ref u.1))
  have e1:upd H3 p1 (.lst (z1.map λu=>V.ref u.1)) p1=some (.lst (z1.map λu=>V.ref u.1)):=af
  generalize upd H3 p1 (.lst (z1.map λu=>V.ref u.1))=H4 at g1 e1
  refine ⟨_,rfl,k.2.1.1,_,rfl,SqT.of (g1 _ _ h2),(by rw[uT];omega),λpa hpa =>?_⟩
  have epa0:upd H4 pa (.tup (k.2.1.2.map V.int).reverse) pa=some (.tup (k.2.1.2.reverse.map V.int)):=by rw[af,List.map_reverse]
  have g6:=ae hpa (.tup (k.2.1.2.map V.int).reverse)
  generalize upd H4 pa (.tup (k.2.1.2.map V.int).reverse)=H6 at g6 epa0
  refine ⟨_,rfl,(by show 2<=vm;decide),λtp htp =>?_⟩
  have g8:=ae htp (.tup [V.ref pa,V.int k.2.2])
  have e8:upd H6 tp (.tup [V.ref pa,V.int k.2.2]) tp=some (.tup [V.ref pa,V.int k.2.2]):=af
  generalize upd H6 tp (.tup [V.ref pa,V.int k.2.2])=Hx at g8 e8
  have s3x:=g1.trans (g6.trans g8)
  have ux:=u3.same s3x
  have ex:=aF en3 s3x
  have ep1:=(g6.trans g8) _ _ e1
  have etp:=e8
  have epa:=g8 _ _ epa0
  have elx:=s3x _ _ el3
  refine ⟨(by show 1<=vm;decide),λp2 hp2 =>?_⟩
  have g2:=ae hp2 (.lst [V.ref tp])
  have e2:upd Hx p2 (.lst [V.ref tp]) p2=some (.lst [V.ref tp]):=af
  generalize upd Hx p2 (.lst [V.ref tp])=H7 at g2 e2
  refine ⟨p1,p2,_,_,rfl,rfl,SqL.of (g2 _ _ ep1),SqL.of e2,(by rw[uT];exact small (by show _+1<=_;omega)),λp3 hp3 =>?_⟩
  rw[show z1.map (λu:Addr×(Addr×List Int)×Int=>V.ref u.1)++[V.ref tp]=(z1++[(tp,(pa,k.2.1.2.reverse),k.2.2)]).map (λu:Addr×(Addr×List Int)×Int=>V.ref u.1) by rw[vj];rfl]
  have g3:=ae hp3 (.lst ((z1++[(tp,(pa,k.2.1.2.reverse),k.2.2)]).map (λu:Addr×(Addr×List Int)×Int=>V.ref u.1)))
  have e3:upd H7 p3 (.lst ((z1++[(tp,(pa,k.2.1.2.reverse),k.2.2)]).map (λu:Addr×(Addr×List Int)×Int=>V.ref u.1))) p3=some (.lst ((z1++[(tp,(pa,k.2.1.2.reverse),k.2.2)]).map (λu:Addr×(Addr×List Int)×Int=>V.ref u.1))):=af
  generalize upd H7 p3 (.lst ((z1++[(tp,(pa,k.2.1.2.reverse),k.2.2)]).map (λu:Addr×(Addr×List Int)×Int=>V.ref u.1)))=H8 at g3 e3
  refine ⟨_,rfl,_,rfl,_,_,rfl,rfl,_,rfl,l,_,rfl,SqL.of (g3 _ _ (g2 _ _ elx)),λp4 hp4 =>?_⟩
  obtain ⟨z2,c2,l2,m2⟩:=bK (λu=>V.ref u.1) tb (some ((n:Int)+1)) none
  rw[c2]
  have g4:=ae hp4 (.lst (z2.map λu=>V.ref u.1))
  have e4:upd H8 p4 (.lst (z2.map λu=>V.ref u.1)) p4=some (.lst (z2.map λu=>V.ref u.1)):=af
  generalize upd H8 p4 (.lst (z2.map λu=>V.ref u.1))=H9 at g4 e4
  refine ⟨p3,p4,_,_,rfl,rfl,SqL.of (g4 _ _ e3),SqL.of e4,(by rw[uT,uT,u9];exact small (by show _+1+_<=_;omega)),λp5 hp5 =>?_⟩
  rw[<- vj]
  have g5:=ae hp5 (.lst (((z1++[(tp,(pa,k.2.1.2.reverse),k.2.2)])++z2).map (λu:Addr×(Addr×List Int)×Int=>V.ref u.1)))
  have s:=g2.trans (g3.trans (g4.trans g5))
  have En:=aF ex s
  refine q p5 _ _ (ux.same s) af (bp (bp (a9 En m1) λu hu =>?_) (a9 En m2)) (by rw[u9,u9];show _+1+_<=_;omega) (ux.pot.same (g2.trans (g3.trans g4)) |>.ne hp5)
  rw[vA.mp hu]
  exact ⟨s _ _ etp,s _ _ epa⟩
 ·exact ⟨_,rfl,q l H3 tb u3 el3 en3 (by omega) lp⟩
end
open PySem L2
def kN (K:u6):Sp:=λvs H Q _=>∃(a:Addr) (ns:List Int),vs=[.ref a]/\SqL K H a (ns.map V.int)/\ns.length<=63/\∀H',Q (.bl true) H'
theorem jh {K:u6}{vs:List V}{H:Hp}{Q:VK}{E:XK}:kN K vs H Q E↔∃(a:Addr) (ns:List Int),vs=[.ref a]/\SqL K H a (ns.map V.int)/\ns.length<=63/\∀H',Q (.bl true) H':=yC
section
variable  {P:vI}{w:wc}{K:u6}{mg:Str->Option uW}{base:Heap}{f T:Addr}{fd:wO}
theorem cf:aR ["script", "k", "pot", "web", "worths", "table", "weight", "places", "least", "due", "handed", "some_worths", "some", "found"] ["script"] (ao om):=⟨rfl,rfl,rfl,by decide +kernel,rfl,by decide +kernel,by decide +kernel⟩
theorem kO:(["worth"]:List Str).Nodup:=by decide +kernel
theorem uS (F:Fun K "law" "law" om f fd)(B:Blt mg)(cLDeal:Cal P w K mg base 1 "_law_deal" ["script", "k"] (jC K))(cLOneway:Cal P w K mg base 2 "_law_oneway" ["pot", "most"] fC)(cLTable:Cal P w K mg base 3 "_law_table" ["web", "worths"] mL)(cLSpoilt:Cal P w K mg base 2 "_law_spoilt" ["pot", "table"] mN)(cLShows:Cal P w K mg base 3 "_law_shows" ["web", "worths", "weight", "table"] gz)(cTableShows:Cal P w K mg base 4 "table_shows" ["web", "worths", "weight", "table"] rB)(cLWorths:Cal P w K mg base 2 "_law_worths" ["pot", "web"] fB)(cLPick:Cal P w K mg base 1 "_law_pick" ["pot", "many"] eQ)(C:Cst mg):bO P w K mg base CX0 5 f fd ["script"] (kN K):=by
 refine F.ok cf (λvs H Q E h =>?_) (λcdv A outer s H vs Q E hr h =>?_)
 ·obtain ⟨_,_,rfl,_⟩:=jh.mp h
  rfl
 obtain ⟨a,ns,rfl,hS,h63,q⟩:=jh.mp h
 refine ⟨_,(@ai _ _ _ _ _ (@bL _ _ _ _ _ _ _ _ wA rfl (bR rfl B.b_range (@aa _ _ _ _ _ (aS (mT rfl) rfl B.b_max tP (@aa _ _ _ _ _ ag (@aa _ _ _ _ _ (aS (iJ rfl) rfl B.b_min jB (@aa _ _ _ _ _ (aS cp rfl B.b_len jA (@aa _ _ _ _ _ (pv 0) ah rfl)) (@aa _ _ _ _ _ ag ah rfl) rfl)) ah rfl) rfl)) ah rfl)) (av (i:=1) cf.nd rfl (Or.inl rfl))
   (@ai _ _ _ _ _ (@az _ _ 2 _ _ _ _ cf.nd rfl (Or.inl rfl) (aH cLDeal hr (by decide) rfl (@aa _ _ _ _ _ (pv 0) (@aa _ _ _ _ _ (pv 1) ah rfl) rfl)) rfl (by first | exact .inl rfl | exact .inr rfl | assumption))
   (@ai _ _ _ _ _ (@az _ _ 3 _ _ _ _ cf.nd rfl (Or.inl rfl) (aH cLOneway hr (by decide) rfl (@aa _ _ _ _ _ (pv 2) (@aa _ _ _ _ _ ag ah rfl) rfl)) rfl (by first | exact .inl rfl | exact .inr rfl | assumption))
   (@ai _ _ _ _ _ (eI (i:=4) ["worth"] [none] rfl cf.nd rfl rfl (@bW _ _ _ _ (aH cLWorths hr (by decide) rfl (@aa _ _ _ _ _ (pv 2) (@aa _ _ _ _ _ (pv 3) ah rfl) rfl))) rfl (λ_ _ _ _ _=>(av (i:=0) kO rfl (Or.inl rfl))) (λ_ _ _ _ _=>cx) (λ_ _ _ _ _=>(aS (iJ rfl) rfl B.b_min jB (@aa _ _ _ _ _ (pv 0) (@aa _ _ _ _ _ (@au _ _ _ _ _ _ _ _ cw ag ag) ah rfl) rfl))))
   (@ai _ _ _ _ _ (@az _ _ 5 _ _ _ _ cf.nd rfl (Or.inl rfl) (aH cLTable hr (by decide) rfl (@aa _ _ _ _ _ (pv 3) (@aa _ _ _ _ _ (pv 4) ah rfl) rfl)) rfl (by first | exact .inl rfl | exact .inr rfl | assumption))
   (@ai _ _ _ _ _ (@az _ _ 6 _ _ _ _ cf.nd rfl (Or.inl rfl) (@aI _ _ _ _ _ _ _ aX (@aI _ _ _ _ _ _ _ bG (pv 5) (rF oO ag) (λ_ _=>rfl)) ag (λ_ _=>rfl)) rfl (by first | exact .inl rfl | exact .inr rfl | assumption))
   (@ai _ _ _ _ _ (@bL _ _ _ _ _ _ _ _ wA rfl (@bW _ _ _ _ (pv 5)) (fI rfl (bg (av (i:=7) cf.nd rfl (Or.inl rfl)) (bg (av (i:=8) cf.nd rfl (Or.inl rfl)) dM)))
    (@aj _ _ _ (@bo _ _ _ _ _ _ _ _ (aA bZ (aS cp rfl B.b_len jA (@aa _ _ _ _ _ (pv 7) ah rfl)) (@aI _ _ _ _ _ _ _ aX (pv 3) ag (λ_ _=>rfl)) (aB _)) (@aj _ _ _ (@az _ _ 6 _ _ _ _ cf.nd rfl (Or.inl rfl) (pv 8) rfl (by first | exact .inl rfl | exact .inr rfl | assumption))) aP)) (λ_=>rfl))
   (@ai _ _ _ _ _ (@az _ _ 6 _ _ _ _ cf.nd rfl (Or.inl rfl) (@au _ _ _ _ _ _ _ _ bB (pv 6) (@aI _ _ _ _ _ _ _ aX (@ba _ _ _ _ _ (@aa _ _ _ _ _ ag (@aa _ _ _ _ _ ag (@aa _ _ _ _ _ ag (@aa _ _ _ _ _ ag (@aa _ _ _ _ _ (rF oO ag) ah rfl) rfl) rfl) rfl) rfl)) (aH cLPick hr (by decide) rfl (@aa _ _ _ _ _ (pv 2) (@aa _ _ _ _ _ ag ah rfl) rfl)) (λ_ _=>rfl))) rfl (by first | exact .inl rfl | exact .inr rfl | assumption))
   (@ai _ _ _ _ _ (@az _ _ 5 _ _ _ _ cf.nd rfl (Or.inl rfl) (aH cLSpoilt hr (by decide) rfl (@aa _ _ _ _ _ (pv 2) (@aa _ _ _ _ _ (pv 5) ah rfl) rfl)) rfl (by first | exact .inl rfl | exact .inr rfl | assumption))
   (@ai _ _ _ _ _ (@az _ _ 9 _ _ _ _ cf.nd rfl (Or.inl rfl) (aH cLShows hr (by decide) rfl (@aa _ _ _ _ _ (pv 3) (@aa _ _ _ _ _ (pv 4) (@aa _ _ _ _ _ (pv 6) (@aa _ _ _ _ _ (pv 5) ah rfl) rfl) rfl) rfl)) rfl (by first | exact .inl rfl | exact .inr rfl | assumption))
   (@ai _ _ _ _ _ (@az _ _ 10 _ _ _ _ cf.nd rfl (Or.inl rfl) (aU eY rfl B.b_list my (@aa _ _ _ _ _ (pv 5) ah rfl)) rfl (by first | exact .inl rfl | exact .inr rfl | assumption))
   (@ai _ _ _ _ _ (@az _ _ 11 _ _ _ _ cf.nd rfl (Or.inl rfl) (aU eY rfl B.b_list my (@aa _ _ _ _ _ (pv 4) ah rfl)) rfl (by first | exact .inl rfl | exact .inr rfl | assumption))
   (@ai _ _ _ _ _ (@bL _ _ _ _ _ _ _ _ wA rfl (@dA _ _ _ _ (@ba _ _ _ _ _ (@aa _ _ _ _ _ (pv 10) (@aa _ _ _ _ _ (aU bD rfl B.b_tuple cb (@aa _ _ _ _ _ (pv 5) ah rfl)) (@aa _ _ _ _ _ (pv 10) ah rfl) rfl) rfl))) (av (i:=12) cf.nd rfl (Or.inl rfl))
    (@ai _ _ _ _ _ (@az _ _ 13 _ _ _ _ cf.nd rfl (Or.inl rfl) (aH cTableShows hr (by decide) rfl (@aa _ _ _ _ _ (pv 3) (@aa _ _ _ _ _ (pv 11) (@aa _ _ _ _ _ (pv 6) (@aa _ _ _ _ _ (pv 12) ah rfl) rfl) rfl) rfl)) rfl (by first | exact .inl rfl | exact .inr rfl | assumption))
    (@aj _ _ _ (@bo _ _ _ _ _ _ _ _ (PW.pt (oI (sd (kP (aS jX rfl B.b_isinstance iE (@aa _ _ _ _ _ (pv 13) (@aa _ _ _ _ _ (qy (v :=.ty "bool") rfl B.b_bool rk rfl) ah rfl) rfl)))) (kQ (aA jQ (pv 13) (pv 9) (aB _))))) fH aP))) (λ_=>rfl))
   (@aj _ _ _ (@bo _ _ _ _ _ _ _ _ (PW.pt (oI (aA (sI hr) (pv 10) (pv 5) (aB _)) (kQ (aA (qZ hr) (pv 11) (pv 4) (aB _))))) fH aP)))))))))))))) (λ_=>rfl))
  (@aj _ _ _ (@aO _ _ _ _ oG))),?_⟩
 refine ⟨_,rfl,a,_,rfl,.inl hS,_,_,rfl,_,_,rfl,?_⟩
 obtain ⟨N,hN,N0,N1⟩:∃N:Int,(if (if (8:Int)<((ns.map V.int).length:Int) then (8:Int) else ((ns.map V.int).length:Int))>1 then (if (8:Int)<((ns.map V.int).length:Int) then (8:Int) else ((ns.map V.int).length:Int)) else 1)=N/\0<=N/\N<=63:=⟨_,rfl,by split <;> (try split) <;> omega,by rw[uT];split <;> (try split) <;> omega⟩
 rw[hN]
 refine ⟨N,rfl,by omega,by omega,cR (λ_ σ H'=>(∃c1 c2 c3 c4 c5 c6 c7 c8 c9 c10 c11 c12 c13,σ=[some (.ref a),c1,c2,c3,c4,c5,c6,c7,c8,c9,c10,c11,c12,c13])/\aD H H') ⟨⟨_,_,_,_,_,_,_,_,_,_,_,_,_,rfl⟩,aD.refl _⟩ ?_ (λσ H' _=>q _)⟩
 rintro k σ H0 hk ⟨⟨c1,c2,c3,c4,c5,c6,c7,c8,c9,c10,c11,c12,c13,rfl⟩,s0⟩
 have hk':(k:Int)<63:=by omega
 refine ⟨_,rfl,_,rfl,eO.mpr ⟨a,ns,0+(k:Int),rfl,s0.seq hS,by omega,by omega,λx y p hp =>?_⟩⟩
 have p0:Pt 2 (upd H0 p (.lst ([x,y].map V.int))) p:=⟨[x,y],rfl,af⟩
 have b0:=Bu.refl p0
 refine ⟨_,rfl,dh.mpr ⟨p,5,rfl,p0,by decide,by decide,λb m ts H3 b3' W3 hm lt ri =>?_⟩⟩
 have b3:=b0.trans b3'
 have m5:m<=5:=by omega
 refine ⟨_,rfl,_,rfl,df.mpr ⟨p,b,m,ts,rfl,b3.pot,W3,by omega,λwa Ws H4 b4' hwa nwp ew lw =>?_⟩⟩
 have b4:=b3.trans b4'
 have W4:=W3.bu b4' b3.pot
 refine ⟨wa,rfl,⟨_,SqL.of ew⟩,bT (xs:=Ws.map V.int) (λi ys H'=>H'=H4/\∃os:List Int,ys=os.map V.int/\os.length=i) ⟨rfl,[],rfl,rfl⟩ (by rw[uT];exact small (by omega)) (λi ys H' _ h=>by rw[h.1];exact SqL.of ew) ?_ ?_⟩
 ·rintro i v ys H' hx hy ⟨rfl,os,rfl,lo⟩ R1 R0 r1 r0
  obtain ⟨wv,ev,rfl⟩:=eD hx
  exact gh ⟨_,rfl,_,_,rfl,rfl,⟨by decide,by decide,by decide⟩,_,_,rfl,r1 _ _ ⟨rfl,os++[_],by rw[vj];rfl,by rw[u9,lo];rfl⟩⟩
 rintro ys H' hy ⟨rfl,os,rfl,lo⟩ l5 hl5
 rw[uT] at lo
 have lo:os.length=ts.length:=by omega
 have n5:l5≠p:=b4.pot.ne hl5
 have g5:=ae hl5 (.lst (os.map V.int))
 have e5:upd H' l5 (.lst (os.map V.int)) l5=some (.lst (os.map V.int)):=af
 generalize upd H' l5 (.lst (os.map V.int))=H5 at g5 e5
 have b5:=b4.same g5
 have W5:=W4.same g5
 refine ⟨_,rfl,_,rfl,fW.mpr ⟨b,l5,m,ts,os,rfl,W5,m5,lt,e5,lo,λl6 us H6 s6 e6 en6 pm =>?_⟩⟩
 have b6:=b5.same s6
 have W6:=W5.same s6
 obtain ⟨t6,f1,f2⟩:=W6.at'
 have lus0:us.length=2 ^ m:=by
  have:=pm.length_eq
  unfold cn at this
  rwa [uT,uT,fD,aV] at this
 have lus:us.length<=32:=by
  have:2 ^ m<=2 ^ 5:=xJ (by decide) m5
  omega
 have une:us≠[]:=λe=>by
  have h0:0<2 ^ m:=Nat.two_pow_pos m
  rw[e,yw] at lus0
  omega
 have kl:∀u∈us,u.2.1.2.length<=9:=λu hu=>by
  have h:=pm.mem_iff.mp (xR hu)
  obtain ⟨S,hS',eS⟩:=wq.mp h
  have:S=u.2.1.2:=congrArg Prod.fst eS
  have:=fE _ _ hS'
  rw[aV] at this
  simp_all
  omega
 have n6:l6≠p:=λh=>by
  obtain ⟨xs,_,ex⟩:=b6.pot
  rw[<- h,e6] at ex
  have ex:=HO.lst.inj (vR ex)
  cases us with
  | nil=>exact une rfl
  | cons u v =>
   cases xs with
   | nil=>cases ex
   | cons i r=>cases (zM ex).1
 obtain ⟨ui,ul,eul⟩:∃ui ul,us=ui++[ul]:=⟨us.dropLast,us.getLast une,(List.dropLast_concat_getLast une).symm⟩
 have mul:ul∈us:=by rw[eul];exact vN _ vC
 refine ⟨_,rfl,_,rfl,l6,_,(-1),_,rfl,rfl,SqL.of e6,(by rw[eul,vj];exact oT _ _),ul.1,_,1,_,rfl,rfl,SqT.of (en6 ul mul).1,rfl,?_⟩
 refine ⟨_,rfl,l6,rfl,⟨_,SqL.of e6⟩,eU (xs:=us.map λu =>.ref u.1) (λi σ H'=>(∃wt c7 c8,σ=[some (.ref a),some (.int (0+(k:Int))),some (.ref p),some (.ref b),some (.ref l5),some (.ref l6),some (.int wt),c7,c8,c9,c10,c11,c12,c13])/\H'=H6) ⟨⟨_,_,_,rfl⟩,rfl⟩ (λi σ H' _ h=>by rw[h.2];exact SqL.of e6) ?_ ?_⟩
 ·rintro i v σ H' hx ⟨⟨wt,c7,c8,rfl⟩,rfl⟩
  obtain ⟨u,eu,rfl⟩:=dq hx
  obtain ⟨h1,h2⟩:=en6 u (vf eu)
  refine ⟨u.1,_,rfl,SqT.of h1,rfl,_,_,rfl,_,_,rfl,rfl,?_⟩
  exact ⟨_,rfl,u.2.1.1,_,rfl,.inr (SqT.of h2),_,rfl,b,_,0,_,rfl,rfl,SqT.of f1,rfl,rfl,_,rfl,bz (λz=>⟨_,rfl,⟨_,_,_,rfl⟩,rfl⟩) (λz=>⟨⟨_,_,_,rfl⟩,rfl⟩)⟩
 rintro σ H' ⟨⟨wt,c7,c8,rfl⟩,rfl⟩
 refine ⟨_,rfl,_,rfl,(by show 5<=vm;decide),λtq htq =>?_⟩
 refine ⟨_,rfl,aE.mpr ⟨p,5,rfl,b6.pot.same (ae htq _),by decide,aZ (by decide) (by decide),λd H7 d0 d1 u7' =>?_⟩⟩
 have b7:=(b6.same (ae htq _)).trans u7'
 have etq:=u7'.tup (b6.pot.same (ae htq _)) af
 have st67:∀{c:Addr} {o:HO},c≠p->H' c=some o->H7 c=some o:=λn e=>u7'.st _ _ n ((ae htq _) _ _ e)
 have tu67:∀{c:Addr} {o:List V},H' c=some (.tup o)->H7 c=some (.tup o):=λe=>u7'.tup (b6.pot.same (ae htq _)) ((ae htq _) _ _ e)
 obtain ⟨nn,enn⟩:∃nn:Int,atI [V.int 0,V.int 0,V.int 0,V.int 1,V.int (-1)] d=some (.int nn):=by
  rcases (show d=0\/d=1\/d=2\/d=3\/d=4 by omega) with z | z | z | z | z <;> subst z <;> exact ⟨_,rfl⟩
 refine ⟨tq,_,d,_,rfl,rfl,SqT.of etq,enn,_,_,rfl,rfl,?_⟩
 have en7:cV H7 us:=λu hu=>⟨tu67 (en6 u hu).1,tu67 (en6 u hu).2⟩
 have W7:Ow H7 b (m:Int) ts:=⟨⟨t6,tu67 f1,tu67 f2⟩,λu hu=>tu67 (W6.tup u hu),W6.rng⟩
 refine ⟨_,rfl,_,rfl,fX.mpr ⟨p,l6,us,rfl,b7.pot,n6,st67 n6 e6,en7,une,by omega,kl,λl8 H8 zs u8' e8 en8 lz n8 =>?_⟩⟩
 have b8:=b7.trans u8'
 have W8:=W7.bu u8' b7.pot
 have e58:=u8'.st _ _ n5 (st67 n5 (s6 _ _ e5))
 refine ⟨_,rfl,_,rfl,_,rfl,_,rfl,dH.mpr ⟨b,l5,l8,m,ts,os,(wt+nn),zs,rfl,W8,m5,lt,e58,lo,e8,en8,lz,λdue H9 s9 hdue =>?_⟩⟩
 have b9:=b8.same s9
 refine ⟨_,rfl,l8,_,rfl,.inl (SqL.of (s9 _ _ e8)),λh1 hh1 =>?_⟩
 have g10:=ae hh1 (.lst (zs.map λu=>V.ref u.1))
 have e10:upd H9 h1 (.lst (zs.map λu=>V.ref u.1)) h1=some (.lst (zs.map λu=>V.ref u.1)):=af
 generalize upd H9 h1 (.lst (zs.map λu=>V.ref u.1))=H10 at g10 e10
 refine ⟨_,rfl,l5,_,rfl,.inl (SqL.of (g10 _ _ (s9 _ _ e58))),λh2 hh2 =>?_⟩
 have g11:=ae hh2 (.lst (os.map V.int))
 have e11:upd H10 h2 (.lst (os.map V.int)) h2=some (.lst (os.map V.int)):=af
 generalize upd H10 h2 (.lst (os.map V.int))=H11 at g11 e11
 have s81:=s9.trans (g10.trans g11)
 refine ⟨_,rfl,_,rfl,l8,_,rfl,.inl ⟨SqL.of (s81 _ _ e8),λt3 ht3 =>?_⟩⟩
 have g12:=ae ht3 (.tup (zs.map λu=>V.ref u.1))
 have e12:upd H11 t3 (.tup (zs.map λu=>V.ref u.1)) t3=some (.tup (zs.map λu=>V.ref u.1)):=af
 generalize upd H11 t3 (.tup (zs.map λu=>V.ref u.1))=H12 at g12 e12
 refine ⟨_,rfl,(by show 3<=vm;decide),λt4 ht4 =>?_⟩
 have g13:=ae ht4 (.tup [.ref h1,.ref t3,.ref h1])
 have e13:upd H12 t4 (.tup [.ref h1,.ref t3,.ref h1]) t4=some (.tup [.ref h1,.ref t3,.ref h1]):=af
 generalize upd H12 t4 (.tup [.ref h1,.ref t3,.ref h1])=H13 at g13 e13
 have s83:=s81.trans (g12.trans g13)
 have W13:=W8.same s83
 have en13:=aF en8 s83
 have eh1:=g13 _ _ (g12 _ _ (g11 _ _ e10))
 have eh2:=g13 _ _ (g12 _ _ e11)
 have et3:=g13 _ _ e12
 have b13:=b8.same s83
 have s013:aD H0 H13:=λc o e=>b13.st c o (λz=>by subst z;rw[hp] at e;cases e) ((ae hp _) _ _ e)
 refine ⟨t4,rfl,⟨_,SqT.of e13⟩,gn (xs:=[.ref h1,.ref t3,.ref h1]) (λi σ H'=>(∃c12 c13 d7 d8,σ=[some (.ref a),some (.int (0+(k:Int))),some (.ref p),some (.ref b),some (.ref l5),some (.ref l8),some (.int (wt+nn)),d7,d8,some (.bl due),some (.ref h1),some (.ref h2),c12,c13])/\aD H13 H') ⟨⟨_,_,_,_,rfl⟩,aD.refl _⟩ (λi σ H' _ h=>SqT.of (h.2 _ _ e13)) ?_ ?_⟩
 ·rintro i v σ H' hx ⟨⟨c12,c13,d7,d8,rfl⟩,s14⟩
  obtain ⟨tt,rfl,ett⟩:∃tt,v = .ref tt/\(H' tt=some (.lst (zs.map λu=>V.ref u.1))\/H' tt=some (.tup (zs.map λu=>V.ref u.1))):=by
   match i,hx with
   | 0,hx=>cases hx;exact ⟨h1,rfl,.inl (s14 _ _ eh1)⟩
   | 1,hx=>cases hx;exact ⟨t3,rfl,.inr (s14 _ _ et3)⟩
   | 2,hx=>cases hx;exact ⟨h1,rfl,.inl (s14 _ _ eh1)⟩
  refine ⟨_,rfl,_,rfl,_,rfl,_,rfl,ip.mpr ⟨b,h2,tt,m,ts,os,(wt+nn),zs,rfl,W13.same s14,m5,lt,uQ ri,s14 _ _ eh2,lo,ett,aF en13 s14,lz,λfb H15 s15 hfb =>?_⟩⟩
  have efb:fb=due:=by
   have:=hfb.trans hdue.symm
   cases fb <;> cases due <;> simp_all
  subst efb
  refine ⟨_,rfl,.bl fb, "bool",_,true,rfl,.bl fb,rfl,_,rfl,ni ⟨_,rfl,_,rfl,rfl,_,rfl,bz (λz =>?_) (λz=>⟨⟨_,_,_,_,rfl⟩,s14.trans s15⟩)⟩⟩
  exfalso
  simp at z
 ·rintro σ H' ⟨⟨c12,c13,d7,d8,rfl⟩,s14⟩
  have s84:=s83.trans s14
  refine ⟨_,rfl,_,rfl,h1,l8,_,_,rfl,rfl,SqL.of (s14 _ _ eh1),SqL.of (s84 _ _ e8),.inr ⟨mn (λu=>q4 _) _,_,rfl,ni ⟨_,rfl,_,rfl,h2,l5,os,os,rfl,rfl,SqL.of (s14 _ _ eh2),SqL.of (s84 _ _ e58),_,rfl,bz (λz =>?_) (λz=>⟨⟨_,_,_,_,_,_,_,_,_,_,_,_,_,rfl⟩,s0.trans (s013.trans s14)⟩)⟩⟩⟩
  exfalso
  simp at z
end
open PySem L2
theorem all_mk {l:PySem.W.OpenLaw}{w:wc}{K:u6}{h:Heap}{mg:Str->Option uW}{fa:Addr}(X:K.In h)(G:h.Ns v5 mg)(hfa:mg "law" = some (.ref fa))
  (h1:cy K "without_place" cM) (h2:cy K "all_sets" gW) (h3:cy K "worth_rows" eN) (h4:cy K "last_weight" cE) (h5:cy K "set_weights" cF) (h6:cy K "look_few" gX) (h7:cy K "table_shows" cG) (h8:cy K "_law_deal" gY) (h9:cy K "_law_pick" lI) (h10:cy K "_law_oneway" gZ) (h11:cy K "_law_worths" g9) (h12:cy K "_law_sets" lJ) (h13:cy K "_law_led" qb) (h14:cy K "_law_row_due" fz) (h15:cy K "_law_table" gs) (h16:cy K "_law_shows" gu) (h17:cy K "_law_spoilt" hJ) (h18:cy K "law" om)
  (y_any:wV K v5 "any" = some none) (y_bool:wV K v5 "bool" = some none) (y_int:wV K v5 "int" = some none) (y_isinstance:wV K v5 "isinstance" = some none) (y_len:wV K v5 "len" = some none) (y_list:wV K v5 "list" = some none) (y_max:wV K v5 "max" = some none) (y_min:wV K v5 "min" = some none) (y_range:wV K v5 "range" = some none) (y_reversed:wV K v5 "reversed" = some none) (y_sorted:wV K v5 "sorted" = some none) (y_sum:wV K v5 "sum" = some none) (y_tuple:wV K v5 "tuple" = some none) (y_zip:wV K v5 "zip" = some none)
  {t_MOST_ORDERED:Nat} (q_MOST_ORDERED:wV K v5 "MOST_ORDERED" = some (some (.int 7 t_MOST_ORDERED)))
  : ∃fd:wO,(∀(s:uZ) (v:uW),BindsTo s fd ⟨[v],[]⟩ [("script",v)])/\∀base:Heap,K.In base->base.Ns v5 mg->bO l.prog w K mg base CX0 5 fa fd ["script"] (kN K):=by
 obtain ⟨fl,od,an,sl,oc,kV,dc,pm,cd,ct,al,ll,cl,kl⟩:=h18
 have e:=hfa.symm.trans (Bp X G al)
 cases e
 have F18:=oY ll cl kl
 have z_any:=wb X G y_any
 have z_bool:=wb X G y_bool
 have z_int:=wb X G y_int
 have z_isinstance:=wb X G y_isinstance
 have z_len:=wb X G y_len
 have z_list:=wb X G y_list
 have z_max:=wb X G y_max
 have z_min:=wb X G y_min
 have z_range:=wb X G y_range
 have z_reversed:=wb X G y_reversed
 have z_sorted:=wb X G y_sorted
 have z_sum:=wb X G y_sum
 have z_tuple:=wb X G y_tuple
 have z_zip:=wb X G y_zip
 have w_MOST_ORDERED:=Bp X G q_MOST_ORDERED
 refine ⟨PySem.W.fnOf "law" "law" (cC om) (bX om) (ao om) .none kV dc pm an cd ct,λs v =>.of_eq rfl,λbase kb nb =>?_⟩
 have B:Blt mg:=⟨z_any,z_bool,z_int,z_isinstance,z_len,z_list,z_max,z_min,z_range,z_reversed,z_sorted,z_sum,z_tuple,z_zip⟩
 have C:Cst mg:=⟨⟨_,w_MOST_ORDERED⟩⟩
 have cLDeal:=h8.cal l.prog w base X G (λF=>rm F B C) λ_ _ _ _ _ _ us hl=>match us,hl with | [_,_],_=>rfl
 have cLPick:=h9.cal l.prog w base X G (λF=>rn F B C) λ_ _ _ _ _ _ us hl=>match us,hl with | [_,_],_=>rfl
 have cLOneway:=h10.cal l.prog w base X G (λF=>ou F B cLPick C) λ_ _ _ _ _ _ us hl=>match us,hl with | [_,_],_=>rfl
 have cLSets:=h12.cal l.prog w base X G (λF=>rC F B C) λ_ _ _ _ _ _ us hl=>match us,hl with | [_],_=>rfl
 have cLLed:=h13.cal l.prog w base X G (λF=>tS F B C) λ_ _ _ _ _ _ us hl=>match us,hl with | [_,_,_,_],_=>rfl
 have cLRowDue:=h14.cal l.prog w base X G (λF=>oA F B cLLed C) λ_ _ _ _ _ _ us hl=>match us,hl with | [_,_,_,_],_=>rfl
 have cLTable:=h15.cal l.prog w base X G (λF=>ql F B cLSets cLRowDue C) λ_ _ _ _ _ _ us hl=>match us,hl with | [_,_],_=>rfl
 have cLSpoilt:=h17.cal l.prog w base X G (λF=>oE F B cLPick C) λ_ _ _ _ _ _ us hl=>match us,hl with | [_,_],_=>rfl
 have cLShows:=h16.cal l.prog w base X G (λF=>qr F B cLSets cLRowDue C) λ_ _ _ _ _ _ us hl=>match us,hl with | [_,_,_,_],_=>rfl
 have cLookFew:=h6.cal l.prog w base X G (λF=>oy F B C) λ_ _ _ _ _ _ us hl=>match us,hl with | [_],_=>rfl
 have cAllSets:=h2.cal l.prog w base X G (λF=>ow F B C) λ_ _ _ _ _ _ us hl=>match us,hl with | [_],_=>rfl
 have cWithoutPlace:=h1.cal l.prog w base X G (λF=>ib F B C) λ_ _ _ _ _ _ us hl=>match us,hl with | [_,_],_=>rfl
 have cLastWeight:=h4.cal l.prog w base X G (λF=>jF F B cWithoutPlace C) λ_ _ _ _ _ _ us hl=>match us,hl with | [_,_,_,_],_=>rfl
 have cSetWeights:=h5.cal l.prog w base X G (λF=>jG F B cAllSets cLastWeight C) λ_ _ _ _ _ _ us hl=>match us,hl with | [_,_],_=>rfl
 have cWorthRows:=h3.cal l.prog w base X G (λF=>kG F B C) λ_ _ _ _ _ _ us hl=>match us,hl with | [_,_],_=>rfl
 have cTableShows:=h7.cal l.prog w base X G (λF=>jH F B cLookFew cSetWeights cWorthRows C) λ_ _ _ _ _ _ us hl=>match us,hl with | [_,_,_,_],_=>rfl
 have cLWorths:=h11.cal l.prog w base X G (λF=>oq F B cLPick C) λ_ _ _ _ _ _ us hl=>match us,hl with | [_,_],_=>rfl
 exact uS F18 B cLDeal cLOneway cLTable cLSpoilt cLShows cTableShows cLWorths cLPick C
theorem walk {l:PySem.W.OpenLaw}{q:vI}{loose:List Str}{XP:(Str->Option uW)->Heap->Prop}{YP:wc->Heap->Prop}{d:DefRec}{K:Params->u6}(hn:l.most=some 63)(hdf:d.params.defaults=[])
  (hY:∀(w:wc) (h:Heap),YP w h->(K w.params).In h)
  (F:∀(w:wc) (mg:Str->Option uW) (fa:Addr) (h:Heap),(K w.params).In h->h.Ns v5 mg->mg d.name=some (.ref fa) →
   ∃fd:wO,(∀(s:uZ) (u:uW),BindsTo s fd ⟨[u],[]⟩ [("script",u)])/\∀base:Heap,(K w.params).In base->base.Ns v5 mg->bO l.prog w (K w.params) mg base CX0 5 fa fd ["script"] (kN (K w.params))) :
  PySem.W.WalkO q loose XP YP l.row.toRowW d [] (λf vs=>PySem.call f vs) :=
 L2.qI (n:=63) (k:=5) (x := "script") (CX:=λ_=>CX0) (sp:=λw=>kN (K w.params)) hn (by decide) hdf ⟨rfl,by decide,by decide⟩ hY F (λ_ _ a ns hl _ hS=>⟨a,ns,rfl,hS,hl,λ_=>rfl⟩) λ_ _ _ _ _ z=>z
end K69
def PySem.W.Fast.tw12667453637457744180:Nat:=0
def PySem.W.Fast.tw11834901744437440921:Nat:=0
def PySem.W.Fast.tw17127777726006708614:Nat:=0
def PySem.W.Fast.tw8039323110180001682:Nat:=0
def PySem.W.Fast.tw1928376962645327034:Nat:=0
def PySem.W.Fast.tw17756955485550905857:Nat:=0
def PySem.W.Fast.tw11851730279482732970:Nat:=0
def PySem.W.Fast.tw4513812283386350198:Nat:=0
def PySem.W.Fast.tw9855785800380279755:Nat:=0
def PySem.W.Fast.tw10756251341879630848:Nat:=0
def PySem.W.Fast.tw12248385740411735920:Nat:=0
def PySem.W.Fast.tw1649224707089520184:Nat:=0
def PySem.W.Fast.tw12204924748079852391:Nat:=0
def PySem.W.Fast.tw14580736905405630393:Nat:=0
def PySem.W.Fast.tw5406798827722027583:Nat:=0
def PySem.W.Fast.tw17404197206492276024:Nat:=0
def PySem.W.Fast.tw6475440787913009729:Nat:=0
def PySem.W.Fast.tw1032048216668119256:Nat:=0
def PySem.W.Fast.tw15820747041530069757:Nat:=0
def PySem.W.Fast.tw2156256439891112125:Nat:=0
def PySem.W.Fast.tw10040454258912797898:Nat:=0
def PySem.W.Fast.tw5517373666075097323:Nat:=0
def PySem.W.Fast.tw7581806915192053949:Nat:=0
def PySem.W.Fast.tw2724335101393664950:Nat:=0
def PySem.W.Fast.tw13170957018103790110:Nat:=0
def PySem.W.Fast.tw10073700942271121253:Nat:=0
def PySem.W.Fast.tw18287601410811165987:Nat:=0
def PySem.W.Fast.tw14023761908928814520:Nat:=0
def PySem.W.Fast.tw17079331291759500480:Nat:=0
def PySem.W.Fast.tw4599088918261027996:Nat:=0
def PySem.W.Fast.tw12190612472338602570:Nat:=0
def PySem.W.Fast.tw2905062676022996866:Nat:=0
def PySem.W.Fast.tw15645632538312831664:Nat:=0
def PySem.W.Fast.tw166204526579252654:Nat:=0
def PySem.W.Fast.tw7786407834336260613:Nat:=0
def PySem.W.Fast.tw10203782211902712744:Nat:=0
def PySem.W.Fast.tw5239441641780631085:Nat:=0
def PySem.W.Fast.tw9249883447169589618:Nat:=0
def PySem.W.Fast.tw5823893831381018923:Nat:=0
def PySem.W.Fast.tw15659441159831159472:Nat:=0
def PySem.W.Fast.tw15092121557917709910:Nat:=0
def PySem.W.Fast.tw13405428631408165638:Nat:=0
def PySem.W.Fast.tw3067483243900348961:Nat:=0
def PySem.W.Fast.tw2904298601163105096:Nat:=0
def PySem.W.Fast.tw12683365748072033898:Nat:=0
def PySem.W.Fast.tw13487188931498428022:Nat:=0
def PySem.W.Fast.tw17453671589483332853:Nat:=0
def PySem.W.Fast.tw5352845758271704067:Nat:=0
def PySem.W.Fast.tw770177227141889695:Nat:=0
def PySem.W.Fast.tw16550818552382932779:Nat:=0
def PySem.W.Fast.tw3633892081898131064:Nat:=0
def PySem.W.Fast.tw6826513315527270979:Nat:=0
def PySem.W.Fast.tw10852164095613173425:Nat:=0
def PySem.W.Fast.tw11941541954920226953:Nat:=0
def PySem.W.Fast.tw8169840062041417088:Nat:=0
def PySem.W.Fast.tw8082443360425750772:Nat:=0
def PySem.W.Fast.tw2750292049700013536:Nat:=0
def PySem.W.Fast.tw13897188760612377412:Nat:=0
def PySem.W.Fast.tw4644306708237435169:Nat:=0
def PySem.W.Fast.tw12050286373485148492:Nat:=0
def PySem.W.Fast.tw13440436501660527506:Nat:=0
def PySem.W.Fast.tw15300765789319615518:Nat:=0
def PySem.W.Fast.tw2244123535845279398:Nat:=0
def PySem.W.Fast.tw10311469048830525427:Nat:=0
def PySem.W.Fast.tw16008865245226068384:Nat:=0
def PySem.W.Fast.tw9295622368558761156:Nat:=0
def PySem.W.Fast.tw1857047543153208217:Nat:=0
def PySem.W.Fast.tw14118557586586285626:Nat:=0
def PySem.W.Fast.tw8175736730926913225:Nat:=0
def PySem.W.Fast.tw12950460023619747587:Nat:=0
def PySem.W.Fast.tw10089192497941972394:Nat:=0
def PySem.W.Fast.tw1445847493059491691:Nat:=0
def PySem.W.Fast.tw9766837384129986412:Nat:=0
def PySem.W.Fast.tw8412804744898717373:Nat:=0
def PySem.W.Fast.tw18222820460369684633:Nat:=0
def PySem.W.Fast.tw500068450334016123:Nat:=0
def PySem.W.Fast.tw16572827841292575996:Nat:=0
def PySem.W.Fast.tw18426904530704758270:Nat:=0
def PySem.W.Fast.tw13854664911719508363:Nat:=0
def PySem.W.Fast.tw14652907401555622892:Nat:=0
def PySem.W.Fast.tw5237438680907614698:Nat:=0
def PySem.W.Fast.tw6982528089442697010:Nat:=0
open PySem PySem.W PyProof.Rows
set_option maxRecDepth 100000 in
set_option maxHeartbeats 0 in
theorem PySem.Challenge.cw_ringfell_k69_tables_judged_holds : PySem.Challenge.rw_ringfell_k69_tables_judged.Holds := by
 w_on;o_law;k_head;(case hw=>w_witness2)
 k_fill
 refine K69.walk (l:=PySem.Challenge.rw_ringfell_k69_tables_judged) rfl rfl (λw h Y=>PySem.W.kIn_of Y) ?F
 case F =>
  intro w mg fa h KX G hmg
  refine' K69.all_mk KX G hmg ?_ ?_ ?_ ?_ ?_ ?_ ?_ ?_ ?_ ?_ ?_ ?_ ?_ ?_ ?_ ?_ ?_ ?_ ?_ ?_ ?_ ?_ ?_ ?_ ?_ ?_ ?_ ?_ ?_ ?_ ?_ ?_ ?_
  any_goals k_is
  all_goals (refine' L2.cy.mk ?a ?l ?c ?k;(case a=>k_is);(case l=>k_is);(case c=>k_is);(case k=>k_is))
