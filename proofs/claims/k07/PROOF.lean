import PyProof.Rows.All
import Wide.All
import OpenK.AllK
import Wide.FinOn
import Lean
import PyProof.EqAt
import PyProof.EqKinds
import PyProof.TupleCall
import KE.KRevIter
import PyProof.MinMaxWalk
import PySem.Challenge.RW_ringfell_k07_rings_judged
open List renaming length_map → vM,length_append → vQ,size_toArray → vT,getElem?_eq_getElem → vU,mem_append → vY,getD_eq_getElem?_getD → v5,getElem?_eq_some_iff → v7,map_append → wb,mem_singleton → wc,mem_of_getElem? → we,mem_cons → wj,getElem?_map → wm,mem_append_right → wC,mem_cons_of_mem → wD,append_assoc → wF,mem_cons_self → wJ,length_take → wN,length_cons → wO,map_cons → wQ,getElem?_toArray → wW,length_drop → wX,replicate → w9,mem_map → xc,mem_range → xh,mem_iff_getElem? → xt,take_of_length_le → xv,length_singleton → xC,drop_sublist → xE,getElem?_append_right → xI,range → xJ,length_reverse → xK,mem_map_of_mem → xM,append_nil → xN,take_sublist → xQ,pairwise_append → xT,take_append_drop → xX,length_pos_iff → xZ,mem_append_left → yb,getElem?_append_left → ye,extract_eq_take_drop → yf,getElem?_take → yh,replicate_succ → yq,flatten_cons → yr,all_eq_true → yG,getElem_mem → yH,pairwise_singleton → yK,pairwise_map → yN,nodup_cons → yR,length_nil → yT,reverse_append → yU,perm_append_comm → zf,map_drop → zg,idxOf_lt_length_iff → zj,map_take → zx,getElem?_drop → zD,nil_append → zF,getElem?_eq_none → zK,find?_cons → zL,map_map → zM,take_add_one → zS,length_range → zV,mem_of_mem_drop → zX,mem_of_mem_take → zY,getElem?_eq_none_iff → zZ,pairwise_iff_getElem → z9,lookup_cons → Ab,mem_of_mem_eraseIdx → Al,zip_cons_cons → An,any_cons → Ap,length_eq_zero_iff → Aq,getElem?_cons_succ → Ar,getElem?_set_self → Ax,eraseIdxIfInBounds_toArray → AB,ext_getElem? → AE,drop_left → AI,length_replicate → AK,set_set → AL,drop_append_of_le_length → AR,take_append_of_le_length → AS,not_mem_nil → AV,map_reverse → AX,reverse_reverse → A0,length_eraseIdx → A2,filterMap_cons → A8,map_eq_nil_iff → Ba,getElem_of_mem → Bb,perm_ext_iff_of_nodup → Bi,mem_filterMap → Bm,getElem_idxOf → Bo,getElem?_zip_eq_some → Bq,drop_eq_getElem_cons → Br,drop_zero → Bt,take_zero → Bu,find?_range_eq_none → BC,reverse_cons → BE,eq_of_mem_replicate → BG,eraseIdx_cons_succ → BJ,ext_getElem → BV,mem_flatMap → BW,drop_eq_nil_of_le → B1,of_mem_zip → B6,foldl_cons → B7,singleton_append → B9,contains_iff_mem → Ce,getElem?_reverse → Cf,getElem?_set_ne → Cs,map_congr_left → Cz,all_cons → CG,pairwise_cons → CH,nodup_append → C4,map_nil → C7,getElem_inj → Dg,perm_middle → Dk,cons_append → Dl,nodup_range → Dn,range'_succ → Dt,mem_filter → Dv,length_zip → Dz,drop_drop → DK,take_left → DL,nodup_nil → DM
open PySem renaming wpAny_bind → vN,Value → vP,Shared → vR,wpAny_pure → vW,sizeLine → vZ,Program → wu,wpAny → wA,model → wI,World → w4,mainGlobals → w5,Around → w6,starEach → xb,wpAny_newObj_type → xo,bootBuiltins → xA,wpAny_ite_split → xD,wpAny_call_entry → xP,codeAny_builtin → x3,builtinLookup_eq_fast → x4,wpAny_callSpecial?_slot → x6,FuncData → x8,wpAny_field → yj,wpAny_of_eq → yl,plainId_quiet → yn,compareOp → yp,wpAny_mono → yt,wpAny_holding → yx,wpAny_pyIter_tuple → yD,wpAny_Call_Name_kw → yE,isSubtype_type → yL,wpAny_truthy_bool → yO,mem_of_lookup → yS,wpAny_specialOf → yW,typeLookup_type → yX,intItems → y9,wpAny_rule → zd,wpAny_passesOwn → zq,wpAny_typeOf → zN,wpAny_updateSeq → zO,wpAny_seqItems → Aa,wpAny_isInstance → Ad,codeAny_mono → Am,wpAny_attempt → Au,tupleKind_room_in1 → Av,backTo → Aw,richCompare_meets_room → AA,wpAny_pyIter_list → AF,sizeLine_eq → AG,call_meets → AH,wpAny_setField → AJ,codeAny → AZ,codeAny_extend_loopS → A3,wpAny_execs_nil → Bc,wpAny_letOwnedTupleGo_enum → Bk,rawInt → Bp,wpAny_runValue → Bw,wpAny_tryCatch → Bx,wpAny_pyIter_slot → BI,wpAny_letGo → BS,noFill_tuple_add → BX,wpAny_Call_method_late → B5,wpAny_isTrue_Compare1 → Cj,concat_meets → Ck,codeAny_of_tree → Cm,weight_type_call_type → Cn,intKind_is → Cq,codeAny_call_builtin → Cu,boot_len → Cv,intItems_at → CB,seq_tuple_add → CL,wpAny_newList → CO,signature?_of → CP,call_function_tree → CQ,wpAny_sequenceKey → C5,wpAny_Call_method → C6,callType_new → Dd,call_meetsIn → Df,seqIndex_of → DD,wpAny_mkInt → DE,wpAny_Name → DT,wpAny_load → DU,wpAny_call → DV,typeIs_int → DW,numAt_eq → D5
open PySem.Heap renaming get?_push_of_some → vO,lt_size → v3,get?_push_size → v9,get?_update_other → xp,get?_update_self → xG,size_push → yw,get?_update_ne → Cy
open Nat renaming le_refl → vS,ne_of_lt → wg,lt_of_lt_of_le → wq,le_trans → wL,zero_le → wM,lt_irrefl → xq,lt_succ_of_lt → xB,lt_succ_self → xO,le_sub_one_of_lt → yJ,le_succ → zv,add_sub_cancel_left → zw,le_add_right → zz,eq_zero_of_not_pos → zA,lt_of_le_of_lt → zC,le_of_lt → zE,zero_add → zJ,lt_of_succ_lt → zQ,le_of_lt_succ → zU,lt_of_not_le → Ac,add_le_add_left → Ae,succ_pos → Ai,le_succ_of_le → AD,sub_one_lt_of_lt → A1,mod_lt → A7,ne_of_gt → Bl,succ_le_succ → BU,le_antisymm → Ca,le_of_sub_eq_zero → Cb,min_self → Cc,not_lt_zero → Cg,lt_of_le_of_ne → CI,sub_pos_of_lt → CV,le_of_succ_le → CW,mul_comm → C8,sub_zero → C9,le_of_not_lt → Dj,add_assoc → DX
open PySem.W renaming Frag → vV,mg_none_of → xf,nsIn → xU,kia_one → yd,cellsFrom_some → BZ,kat_nil → Cd,kitx_list → CS,kitx_dict → CT,mg_of → D3
open Array renaming length_toList → vX,getElem?_toList → v8,toList_append → wU,mem_toList_iff → wV,getElem?_eq_getElem → wY,size_map → xS,getElem?_eq_some_iff → x9,getD_eq_getD_getElem? → yi,toList_extract → yI,getElem?_eq_none → y8,toList_reverse → zh,toList_push → zi,size_push → zI,size_append → zR,toList_map → AU,toList_setIfInBounds → Bg,perm_iff_toList_perm → Bh,size_setIfInBounds → BB,getElem?_replicate → BD,toList_inj → Dm
open Bool renaming false_ne_true → wa,false_eq_true → xW,and_eq_true → x5,eq_iff_iff → yQ,eq_false_iff → zT,not_true → BL,and_false → DJ,false_or → DY,or_false → D1
open PyProof.Rows renaming wpS_bind → wd,Keyed → wo,wpS_pure → wt,arrOf → wx,pendingOf → wH,SortSt → wK,slot_tuple_getitem → xg,callWith_type1 → xu,wpS_forRange → xH,wpS_mono → yz,wpS_modify → yP,IntsAre → yY,reverseSlice'_eq → AY,KeyOrd → A4,wpS_get → BR,subscriptTail_builtinR → B4,wpS_lift → Cp,getElem?_mirror_all → CA,args_tuple_getitem → CM,listUpdate_at → CN,listItems_at → De
open PySem.Value renaming ref → wz,int → yo,none → yv,type → yF,isInt_shape → Bz
open Option.some renaming inj → wB
open PySem.F renaming plainAttrs_list → wG,slot_list_append → xw,type_list_append → xx,plain_min_loop → xV,called_set → xY,slot_tuple_iterator_next → zc,slot_list_extend → zo,type_list_extend → zp,slot_enumerate_iter → zG,slot_enumerate_next → zH,args_tuple_add_2 → Ah,slot_tuple_count → Ak,entry_tuple_add → Ao,slot_tuple_add → Ay,entry_min_loop → Az,slot_dict_get → AN,slot_list_pop → AO,type_list_pop → AQ,args_tuple_iterator_next_1 → A5,slot_dict_setdefault → A6,entry_tuple_iterator_next → A9,args_object_init_2 → Bj,plain_extend_loop → Bv,slot_tuple_index → BF,type_tuple_count → BH,args_enumerate_iter_1 → BK,args_dict_get_3 → BO,plainAttrs_dict → BP,plain_list_iadd → BQ,entry_enumerate_iter → B0,typeCall_set_1 → B2,entry_dict_get → B3,mro_reversed → Ct,entry_type_call → CY,plain_min → C0,entry_min → C3,entry_list_pop → Di,entry_set_init → Dp,args_list_ne_2 → Dq,kind_min → Ds,slot_list_pop → Dw,slot_int_rmul → Dx,plain_set_new → DA,entry_list_ne → DB
open PyProof.Rows.KeyOrd renaming kle_trans → wR,kle_of_klt → xR,kle_refl → yg,kle_antisymm → Cw
open PySem.PassesOwn renaming never → wZ
open PySem.Builtin.List renaming listExtendWith → xn,listLengthHint → yZ,listSameRef → zr
open Ne renaming symm → xF
open PySem.Around renaming under_plainId → yc,under_plain → CJ
open List.Perm renaming append_left → yA,append_right → y7,refl → Bs
open PySem.Calls renaming spliced_cons → yB,callWith_builtin → y6,spliced_nil → zP,evalArgs_plain → zW,Name_function_global → Bd
open Int renaming emod_lt_of_pos → yC,toNat_natCast → yM,emod_nonneg → yV,fdiv_eq_ediv_of_nonneg → Be,fmod_eq_emod_of_nonneg → Bf,ediv_nonneg → Ci,zero_add → Dc
open PySem.Obj renaming data_mapFields → ze,mapSeq → zt,isFreed_of_fields → AM,cls_mapFields → CU
open List.Nodup renaming length_le_of_subset → zu
open PyProof.Rows.F renaming plain_set_update_loop → zy,entry_set_update_loop → BM
open PySem.SeqAt.EqAt renaming int_int → zB,int_str → CC,str_int → CD
open PySem.Heap.SameBut renaming update → Af
open PySem.Pv renaming boot_tuple → Ag
open List.Pairwise renaming imp_of_mem → Aj,imp → Ec
open Iff renaming rfl → As
open PySem.StrLaws renaming seqIndex_nonneg → AW
open PySem.Code renaming quiet_builtin → Bn
open Option renaming isSome_iff_exists → BA,map_some → B8,isSome_map → CZ,getD_none → Dh
open PySem.Walks renaming tuple → BN,list → DS
open Std.Legacy.Range renaming forIn_eq_forIn_range' → Co
open PySem.SeqAt renaming EqAt → Cr
open PySem.Paired renaming length → CF,snoc → Ea
open PySem.Moved renaming eq_with → CK,trans → D9
open PySem.Heap.ExtBut renaming push → Dr
open Prod renaming ext → Du
open PySem.ItemsOf renaming nil → DC
open PySem.EqMixed renaming eq_bool_str → DF,eq_str_bool → DG,ne_bool_str → DH,ne_str_bool → DI,eq_int_str → DN,eq_str_int → DP,ne_int_str → DQ,ne_str_int → DR
open PySem.CmpOf renaming ints_lt → DZ
open List.cons renaming inj → D4
open PySem.W.Looks renaming of_pure → D7
open PySem.W.KatTups renaming cons → D8
open PySem.Heap.IsSliceOf renaming new → Eb
set_option Elab.async false
set_option linter.all false
set_option maxRecDepth 100000
namespace L2
open PySem PySem.Spec PyProof.Rows
abbrev Key:=Sum Int Str
def iA:Key->vP->Bool
 | .inl k,v=>Value.isInt k v
 | .inr x,v=>Value.isStrOf x v
def keyH (w:w4):Key->Int
 | .inl k=>hashInt k
 | .inr x=>hashStr w x
theorem bD:∀{k:Key} {v:vP},iA k v=true->(∃i t,k=Sum.inl i/\v=yo i t)\/(∃x t,k=Sum.inr x/\v=Value.str x t)
 | .inl i,v,h=>by
  obtain ⟨t,e⟩:=Bz (k:=i) (v:=v) h
  exact .inl ⟨i,t,rfl,e⟩
 | .inr x,v,h=>by
  obtain ⟨t,e⟩:=Value.isStrOf_shape (x:=x) (v:=v) h
  exact .inr ⟨x,t,rfl,e⟩
theorem nA (i:Int)(t:Tok):iA (.inl i) (.int i t)=true:=by simp[iA,Value.isInt]
theorem nB (x:Str)(t:Tok):iA (.inr x) (.str x t)=true:=by simp[iA,Value.isStrOf]
theorem tL (a b:Int):decide ((Sum.inl a:Key)=Sum.inl b)=(a == b):=by
 by_cases e:a=b
 ·subst e;simp
 ·have h:¬ (Sum.inl a:Key)=Sum.inl b:=λq=>e (Sum.inl.inj q)
  rw[decide_eq_false h]
  exact (beq_eq_false_iff_ne.mpr e).symm
theorem tM (a b:Str):decide ((Sum.inr a:Key)=Sum.inr b)=decide (a=b):=by
 by_cases e:a=b
 ·subst e;simp
 ·have h:¬ (Sum.inr a:Key)=Sum.inr b:=λq=>e (Sum.inr.inj q)
  rw[decide_eq_false h,decide_eq_false e]
theorem tN (a:Int)(b:Str):decide ((Sum.inl a:Key)=Sum.inr b)=false:=decide_eq_false (λq=>nomatch q)
theorem tO (a:Str)(b:Int):decide ((Sum.inr a:Key)=Sum.inl b)=false:=decide_eq_false (λq=>nomatch q)
def bq (prog:wu)(w:w4):PySem.KeyKind prog w Key where
 is:=iA
 hash:=keyH w
 inj:=λv a b ha hb=>by
  rcases bD ha with ⟨i,t,rfl,rfl⟩ | ⟨x,t,rfl,rfl⟩
  ·rcases bD hb with ⟨j,u,rfl,e⟩ | ⟨y,u,rfl,e⟩
   ·injection e with e1 _;rw[e1]
   ·exact nomatch e
  ·rcases bD hb with ⟨j,u,rfl,e⟩ | ⟨y,u,rfl,e⟩
   ·exact nomatch e
   ·injection e with e1 _;rw[e1]
 byValue:=λk v h=>by
  rcases bD h with ⟨i,t,rfl,rfl⟩ | ⟨x,t,rfl,rfl⟩ <;> rfl
 pyHash:=λhv h=>by
  rcases bD hv with ⟨i,t,rfl,rfl⟩ | ⟨x,t,rfl,rfl⟩
  ·exact wpAny_pyHash_int h
  ·exact wpAny_pyHash_str h
 eqBool:=λhu hv h=>by
  rcases bD hu with ⟨i,t,rfl,rfl⟩ | ⟨x,t,rfl,rfl⟩
  ·rcases bD hv with ⟨j,u,rfl,rfl⟩ | ⟨y,u,rfl,rfl⟩
   ·rw[tL] at h;exact wpAny_eqBool_int h
   ·rw[tN] at h;exact CC i t y u _ _ _ _ h
  ·rcases bD hv with ⟨j,u,rfl,rfl⟩ | ⟨y,u,rfl,rfl⟩
   ·rw[tO] at h;exact CD x t j u _ _ _ _ h
   ·rw[tM] at h;exact wpAny_eqBool_str h
 «strs» := λk x t v h=>by
  rcases bD h with ⟨i,u,rfl,e⟩ | ⟨y,u,rfl,e⟩
  ·exact nomatch e
  ·injection e with e1 _
   subst e1
   cases v <;> rfl
theorem jX (prog:wu)(w:w4)(i:Int)(t:Tok):(bq prog w).is (.inl i) (.int i t)=true:=nA i t
theorem jY (prog:wu)(w:w4)(x:Str)(t:Tok):(bq prog w).is (.inr x) (.str x t)=true:=nB x t
open PySem PySem.Spec PyProof.Rows
inductive V where
 | non | bl (b:Bool) | int (i:Int) | str (x:Str) | byt (b:Array UInt8) | flt (b:UInt64) | ref (a:Addr) | ty (n:String)
 deriving DecidableEq
def RelV:V->vP->Prop
 | .non,u=>u=yv
 | .bl b,u=>u=Value.bool b
 | .int i,u=>∃t,u=yo i t
 | .str x,u=>∃t,u=Value.str x t
 | .byt b,u=>∃t,u=Value.bytes b t
 | .flt b,u=>∃t,u=Value.float b t
 | .ref a,u=>u=wz a
 | .ty n,u=>u=yF n
abbrev Vals:List V->List vP->Prop:=Paired RelV
theorem Vals.length {xs:List V}{us:List vP}(r:Vals xs us):xs.length=us.length:=CF r
theorem Vals.get:∀{xs:List V} {us:List vP} {i:Nat} {x:V},Vals xs us->xs[i]? = some x->∃u,us[i]? = some u/\RelV x u
 | _,_,_,_,.nil,e=>by simp at e
 | _,_,0,_,.cons r _,e=>by simp at e;subst e;exact ⟨_,rfl,r⟩
 | _,_,i+1,x,.cons _ t,e=>by
  obtain ⟨u,h1,h2⟩:=Vals.get (i:=i) (x:=x) t (by simpa using e)
  exact ⟨u,by simpa using h1,h2⟩
theorem Vals.set {x:V}{u:vP}(r:RelV x u):∀{xs:List V} {us:List vP} (i:Nat),Vals xs us->Vals (xs.set i x) (us.set i u)
 | _,_,_,.nil =>.nil
 | _,_,0,.cons _ t =>.cons r t
 | _,_,i+1,.cons q t =>.cons q (Vals.set r i t)
theorem Vals.append:∀{xs ys:List V} {us ws:List vP},Vals xs us->Vals ys ws->Vals (xs++ys) (us++ws)
 | _,_,_,_,.nil,s=>s
 | _,_,_,_,.cons r t,s =>.cons r (Vals.append t s)
theorem Vals.take:∀{xs:List V} {us:List vP} (n:Nat),Vals xs us->Vals (xs.take n) (us.take n)
 | _,_,0,_ =>.nil
 | _,_,_+1,.nil =>.nil
 | _,_,n+1,.cons r t =>.cons r (Vals.take n t)
theorem Vals.drop:∀{xs:List V} {us:List vP} (n:Nat),Vals xs us->Vals (xs.drop n) (us.drop n)
 | _,_,0,r=>r
 | _,_,_+1,.nil =>.nil
 | _,_,n+1,.cons _ t=>Vals.drop n t
def fH:Option V->Option vP->Prop
 | some v,some u=>RelV v u
 | none,none=>True
 | _,_=>False
def KV {κ:Type}:List (κ×V)->List (κ×vP)->Prop:=Paired λ(p:κ×V) (q:κ×vP)=>p.1=q.1/\RelV p.2 q.2
def kV:Key->V
 | .inl i =>.int i
 | .inr x =>.str x
inductive HO where
  | lst (xs:List V)
  | tup (xs:List V)
  | dK (kvs:List (Key×V)) | dT (kvs:List (List Key×V))
  | set (S:Int->Bool) (n:Nat)
  | ins (C dx:Addr) (fs:List (Str×V))
  | own (x:Addr)
  | xd (fs:List (Str×V))
  | met (f x:Addr)
  | rng (lo hi:Int)
  | frz (o:Obj) (u:HO)
  | tbl (ps:Array vP)
  | ext (φ:Heap->Prop)
abbrev Hp:=Addr->Option HO
def upd (H:Hp)(a:Addr)(o:HO):Hp:=λb=>if b=a then some o else H b
theorem ah {H:Hp}{a:Addr}{o:HO}:upd H a o a=some o:=by unfold upd;rw[if_pos rfl]
theorem aA {H:Hp}{a b:Addr}{o:HO}(h:b≠a):upd H a o b=H b:=by unfold upd;rw[if_neg h]
theorem ck {H:Hp}{a b:Addr}{o u:HO}(h:H a=some o)(h':H b=some u)(d:o≠u):a≠b:=by
 intro e;subst e;rw[h] at h';exact d (wB h')
theorem aF {H:Hp}{a b:Addr}{o:HO}(h:H a=some o)(h':H b=none):a≠b:=by
 intro e;subst e;rw[h] at h';cases h'
def cQ (h:Heap)(a:Addr)(items:Array vP):Prop:=∃o,h.get? a=some o/\(o.cls = .type "tuple" /\ o.dict=none)/\∃n,o.data = .seq items n
theorem cQ.tup {h:Heap}{a:Addr}{items:Array vP}(x:cQ h a items):IsTup h a items:=let ⟨o,e,c,n,d⟩:=x;⟨o,e,c.1,n,d⟩
theorem cQ.new (h:Heap)(items:Array vP):cQ (h.push { cls :=.type "tuple",data :=.seq items }) h.objs.size items:=⟨_,v9 _ rfl,⟨rfl,rfl⟩,_,rfl⟩
section
variable  (P:wu)(w:w4)
def a6 (H:Hp)(h:Heap)(a:Addr):HO->Prop
 | .lst xs=>xs.length<=vZ/\∃(its:List vP) (n:Nat),Vals xs its/\h.get? a=some { cls :=.type "list",data :=.seq its.toArray n }
 | .tup xs=>xs.length<=vZ/\∃its:List vP,Vals xs its/\cQ h a its.toArray
 | .dK kvs=>kvs.length<=vZ/\(a == sysModules)=false/\∃vs,KV kvs vs/\h.DictOf (bq P w) a vs
 | .dT kvs=>kvs.length<=vZ/\(a == sysModules)=false/\∃xs:List (List Key×Addr×vP),
   Paired (λ(p:List Key×V) (q:List Key×Addr×vP)=>p.1=q.1/\H q.2.1=some (.tup (p.1.map kV))/\RelV p.2 q.2.2) kvs xs ∧
   ∃o es ep,h.get? a=some o/\o.ExactDict/\o.data = .dict es ep/\es.toList=xs.map (entryOfKey (tupleKind (bq P w)))/\(xs.map (·.1)).Nodup
 | .set S n=>h.SetOf (intKind P w) a S n
 | .ins C dx fs=>H dx=some (.own a)/\fs.length<=1000/\dx≠a/\h.get? a=some (PySem.W.instObj C dx) ∧
   ∃mA,h.Ns1 dx mA/\(∀f,fH (fs.lookup f) (mA f))/\PySem.Within mA (fs.map (·.1))
 | .own _=>∃o,h.get? a=some o
 | .xd fs=>∃mA,h.Ns1 a mA/\∀f,fH (fs.lookup f) (mA f)
 | .rng lo hi=>∃t u v,h.get? a=some { cls :=.type "range",data :=.fields #[.int lo t,.int hi u,.int 1 v] }
 | .frz o u=>h.get? a=some o/\a6 H h a u
 | .tbl ps=>h.get? a=some { cls :=.none,data :=.fields ps }
 | .met f x=>h.get? a=some (PySem.W.methodObj (.ref f) (.ref x))
 | .ext φ=>φ h/\(∃o,h.get? a=some o)/\∀h1 h2:Heap, φ h1->(∀o,h1.get? a=some o->h2.get? a=some o) -> φ h2
def HOk (H:Hp)(h:Heap):Prop:=∀a o,H a=some o->a6 P w H h a o
end
section
variable  {P:wu}{w:w4}{H H':Hp}{h h':Heap}{a:Addr}{o:HO}
theorem a6.lt (x:a6 P w H h a o):a<h.objs.size:=by
 cases o with
 | lst xs=>obtain ⟨_,_,_,_,e⟩:=x;exact v3 e
 | tup xs=>obtain ⟨_,_,_,p⟩:=x;exact (cQ.tup p).lt
 | dK kvs=>obtain ⟨_,_,_,_,o,_,_,e,_⟩:=x;exact v3 e
 | dT kvs=>obtain ⟨_,_,_,_,o,_,_,e,_⟩:=x;exact v3 e
 | set S n=>obtain ⟨o,_,_,_,e,_⟩:=x;exact v3 e
 | ins C dx fs=>obtain ⟨_,_,_,e,_⟩:=x;exact v3 e
 | own y=>obtain ⟨_,e⟩:=x;exact v3 e
 | xd fs=>obtain ⟨_,⟨_,_,_,e,_⟩,_⟩:=x;exact v3 e
 | rng lo hi=>obtain ⟨_,_,_,e⟩:=x;exact v3 e
 | frz ob u=>obtain ⟨e,_⟩:=x;exact v3 e
 | tbl ps=>exact v3 (show h.get? a=some _ from x)
 | met f y=>exact v3 (show h.get? a=some _ from x)
 | ext φ=>obtain ⟨_,⟨_,e⟩,_⟩:=x;exact v3 e
theorem Paired.tP {α β:Type}{F G:α -> β -> Prop}:∀{l₁:List α} {l₂:List β},Paired F l₁ l₂->(∀a b,F a b->G a b)->Paired G l₁ l₂
 | _,_,.nil,_ =>.nil
 | _,_,.cons r t,f =>.cons (f _ _ r) (Paired.tP t f)
theorem a6.jZ (x:a6 P w H h a o)(k:∀b u,(b=a\/H b=some (.own a))->h.get? b=some u->h'.get? b=some u)
  (ho:∀b,H b=some (.own a)->H' b=some (.own a)) (ht:∀b xs,H b=some (.tup xs)->H' b=some (.tup xs)):a6 P w H' h' a o:=by
 induction o with
 | lst xs=>obtain ⟨z,its,n,r,e⟩:=x;exact ⟨z,its,n,r,k _ _ (.inl rfl) e⟩
 | tup xs=>obtain ⟨z,its,r,ob,e,c⟩:=x;exact ⟨z,its,r,ob,k _ _ (.inl rfl) e,c⟩
 | dK kvs=>obtain ⟨z,y,vs,r,ob,es,ep,e,c⟩:=x;exact ⟨z,y,vs,r,ob,es,ep,k _ _ (.inl rfl) e,c⟩
 | dT kvs =>
  obtain ⟨z,y,xs,r,ob,es,ep,e,c⟩:=x
  exact ⟨z,y,xs,Paired.tP r λp q z=>⟨z.1,ht _ _ z.2.1,z.2.2⟩,ob,es,ep,k _ _ (.inl rfl) e,c⟩
 | set S n=>obtain ⟨ob,es,ep,t,e,c⟩:=x;exact ⟨ob,es,ep,t,k _ _ (.inl rfl) e,c⟩
 | ins C dx fs =>
  obtain ⟨d,z,ne,e,mA,⟨od,es,ep,e2,c⟩,r⟩:=x
  exact ⟨ho _ d,z,ne,k _ _ (.inl rfl) e,mA,⟨od,es,ep,k _ _ (.inr d) e2,c⟩,r⟩
 | own y=>obtain ⟨ob,e⟩:=x;exact ⟨ob,k _ _ (.inl rfl) e⟩
 | xd fs=>obtain ⟨mA,⟨od,es,ep,e,c⟩,r⟩:=x;exact ⟨mA,⟨od,es,ep,k _ _ (.inl rfl) e,c⟩,r⟩
 | rng lo hi=>obtain ⟨t,u,v,e⟩:=x;exact ⟨t,u,v,k _ _ (.inl rfl) e⟩
 | frz ob u ih=>obtain ⟨e,q⟩:=x;exact ⟨k _ _ (.inl rfl) e,ih q⟩
 | tbl ps =>
  have e:h.get? a=some { cls :=.none,data :=.fields ps }:=x
  show h'.get? a=some { cls :=.none,data :=.fields ps }
  exact k a _ (.inl rfl) e
 | met f y =>
  have e:h.get? a=some (PySem.W.methodObj (.ref f) (.ref y)):=x
  show h'.get? a=some (PySem.W.methodObj (.ref f) (.ref y))
  exact k a _ (.inl rfl) e
 | ext φ=>obtain ⟨p,⟨o,e⟩,st⟩:=x;exact ⟨st _ _ p λo q=>k _ _ (.inl rfl) q,⟨o,k _ _ (.inl rfl) e⟩,st⟩
theorem HOk.lt (x:HOk P w H h)(e:H a=some o):a<h.objs.size:=(x a o e).lt
theorem HOk.fresh (x:HOk P w H h)(e:h.objs.size<=a):H a=none:=by
 cases q:H a with
 | none=>rfl
 | some u=>exact absurd (wq (x.lt q) e) (xq _)
theorem HOk.kept (x:HOk P w H h)(k:∀b u,h.get? b=some u->h'.get? b=some u):HOk P w H h':=λa o e =>
 (x a o e).jZ (λb u _ q=>k b u q) (λ_ q=>q) λ_ _ q=>q
theorem HOk.laid (x:HOk P w H h)(k:∀b u,h.get? b=some u->h'.get? b=some u)(hp:h.objs.size<=a)(new:a6 P w (upd H a o) h' a o):HOk P w (upd H a o) h':=λb u e=>by
 have hn:=x.fresh hp
 by_cases hb:b=a
 ·subst hb;rw[ah] at e;cases e;exact new
 ·rw[aA hb] at e
  exact (x b u e).jZ (λc v _ q=>k c v q) (λc q=>by rw[aA (aF q hn)];exact q) λc xs q=>by rw[aA (aF q hn)];exact q
end
def Rd (H:Hp)(a:Addr)(u:HO):Prop:=H a=some u\/∃o,H a=some (.frz o u)
theorem Rd.ok {P:wu}{w:w4}{H:Hp}{h:Heap}{a:Addr}{u:HO}(r:Rd H a u)(x:HOk P w H h):a6 P w H h a u:=by
 rcases r with r | ⟨o,r⟩
 ·exact x a u r
 ·obtain ⟨_,q⟩:=x a _ r
  exact q
def Mut:Option HO->Prop
 | some (.lst _)=>True
 | some (.dK _)=>True
 | some (.dT _)=>True
 | some (.set _ _)=>True
 | some (.ins _ _ _)=>True
 | some (.ext _)=>True
 | _=>False
section
variable  {P:wu}{w:w4}{H:Hp}{h h':Heap}{x e:Addr}{o':HO}
theorem HOk.write (ok:HOk P w H h)(mu:Mut (H x))(he:e=x\/H e=some (.own x))(k:∀b u,b≠e->h.get? b=some u->h'.get? b=some u)(heo:∃u,h'.get? e=some u)
  (new:a6 P w (upd H x o') h' x o'):HOk P w (upd H x o') h':=λb u q=>by
 have nown:∀c y,H c=some (.own y)->c≠x:=λc y r z=>by subst z;rw[r] at mu;exact mu
 have ntup:∀c xs,H c=some (.tup xs)->c≠x:=λc xs r z=>by subst z;rw[r] at mu;exact mu
 by_cases hb:b=x
 ·subst hb;rw[ah] at q;cases q;exact new
 ·rw[aA hb] at q
  by_cases hbe:b=e
  ·have q':H b=some (.own x):=by
    rcases he with z | z
    ·exact absurd (hbe.trans z) hb
    ·rw[hbe];exact z
   rw[q] at q';cases q'
   obtain ⟨v,hv⟩:=heo
   exact ⟨v,by rw[hbe];exact hv⟩
  ·refine (ok b u q).jZ (λc v hc r=>k c v ?_ r) (λc r=>by rw[aA (nown c b r)];exact r) λc xs r=>by rw[aA (ntup c xs r)];exact r
   rcases hc with rfl | hc
   ·exact hbe
   ·rintro rfl
    rcases he with z | z
    ·exact nown c b hc z
    ·rw[hc] at z;cases z;exact hb rfl
end
structure Un (fs ex:List Addr)(H H':Hp)(h h':Heap):Prop where
 keep:∀b o,h.get? b=some o->H b=none->b∉fs->b∉ex->h'.get? b=some o
 slot:∀b o,h.get? b=some o->H b=none->b∈fs->b∉ex->∃sl,h'.get? b=some { o with slots:=sl }
 free:∀b o,h.get? b=some o->H b=none->b∉ex->H' b=none
 there:∀b o,h.get? b=some o->b∉ex->∃o',h'.get? b=some o'
 tups:∀b xs,H b=some (.tup xs)->H' b=some (.tup xs)
 frzs:∀b o u,H b=some (.frz o u)->H' b=some (.frz o u)
 tbls:∀b ps,H b=some (.tbl ps)->∃more,H' b=some (.tbl (ps++more))
section
variable  {fs fs' ex ex':List Addr}{H H1 H2:Hp}{h h1 h2 h':Heap}{a x e:Addr}{o:HO}
theorem Un.any (u:Un fs ex H H1 h h1){b:Addr}{ob:Obj}(q:h.get? b=some ob)(n:H b=none)(hx:b∉ex):∃sl,h1.get? b=some { ob with slots:=sl }:=by
 by_cases hb:b∈fs
 ·exact u.slot b ob q n hb hx
 ·exact ⟨ob.slots,u.keep b ob q n hb hx⟩
theorem Un.kept (k:∀b u,h.get? b=some u->h'.get? b=some u):Un fs ex H H h h' :=
 ⟨λb ob q _ _ _=>k b ob q,λb ob q _ _ _=>⟨ob.slots,k b ob q⟩,λ_ _ _ n _=>n,λb ob q _=>⟨ob,k b ob q⟩,λ_ _ q=>q,λ_ _ _ q=>q,λ_ ps q=>⟨#[],by rw[q];simp⟩⟩
theorem Un.refl:Un fs ex H H h h:=Un.kept λ_ _ q=>q
theorem Un.laid (k:∀b u,h.get? b=some u->h'.get? b=some u)(hp:h.objs.size<=a)(hn:H a=none):Un fs ex H (upd H a o) h h' where
 keep:=λb u q _ _ _=>k b u q
 slot:=λb u q _ _ _=>⟨u.slots,k b u q⟩
 free:=λb u q n _=>by rw[aA (wg (wq (v3 q) hp))];exact n
 there:=λb u q _=>⟨u,k b u q⟩
 tups:=λb xs q=>by rw[aA (aF q hn)];exact q
 frzs:=λb u xs q=>by rw[aA (aF q hn)];exact q
 tbls:=λb ps q=>⟨#[],by rw[aA (aF q hn),q];simp⟩
theorem Un.write (mu:Mut (H x))(he:e=x\/H e=some (.own x))(k:∀b u,b≠e->h.get? b=some u->h'.get? b=some u)(heo:∃u,h'.get? e=some u):Un fs ex H (upd H x o) h h':=by
 have hx:∀b,H b=none->b≠x:=λb n z=>by subst z;rw[n] at mu;exact mu
 have hb:∀b,H b=none->b≠e:=λb n z=>by
  subst z
  rcases he with r | r
  ·exact hx b n r
  ·rw[n] at r;cases r
 have hm:∀b u,H b=some u->¬ Mut (some u)->b≠x:=λb u q nm z=>by subst z;rw[q] at mu;exact nm mu
 refine ⟨λb u q n _ _=>k b u (hb b n) q,λb u q n _ _=>⟨u.slots,k b u (hb b n) q⟩,λb u q n _=>by rw[aA (hx b n)];exact n,λb u q _ =>?_,
  λb xs q=>by rw[aA (hm b _ q λz=>z)];exact q,λb u xs q=>by rw[aA (hm b _ q λz=>z)];exact q,λb ps q=>⟨#[],by rw[aA (hm b _ q λz=>z),q];simp⟩⟩
 by_cases hbe:b=e
 ·subst hbe;exact heo
 ·exact ⟨u,k b u hbe q⟩
end
def trk (h:Heap)(H:Hp):List Addr:=(xJ h.objs.size).filter λa=>(H a).isSome
def jq (h:Heap)(H:Hp):Heap:=PySem.W.hideAll h (trk h H)
theorem nC (h:Heap)(H:Hp):(jq h H).objs.size=h.objs.size:=PySem.W.hideAll_size _ _
theorem oT {h:Heap}{H:Hp}{b:Addr}{o:Obj}(e:h.get? b=some o)(n:H b=none):(jq h H).get? b=some o :=
 PySem.W.hideAll_get _ e λhm=>by
  have q:(H b).isSome=true:=(Dv.mp hm).2
  rw[n] at q;simp at q
theorem rb {h:Heap}{H:Hp}{b:Addr}{o:Obj}(e:(jq h H).get? b=some o):h.get? b=some o/\H b=none:=by
 have e':h.get? b=some o:=PySem.W.of_hideAll (trk h H) e
 refine ⟨e',?_⟩
 cases q:H b with
 | none=>rfl
 | some x =>
  have hm:b∈trk h H:=Dv.mpr ⟨xh.mpr (v3 e'),by simp[q]⟩
  have z:(jq h H).get? b=none:=PySem.W.hideAll_none (trk h H) hm
  rw[z] at e;cases e
def rf (g h:Heap)(L:Addr):List (Addr×Obj):=(xJ h.objs.size).filterMap λa=>if a=L\/(g.get? a).isSome=true then none else (h.get? a).map λo=>(a,o)
def rest (g h:Heap)(L d:Addr):List (Addr×Obj):=(rf g h L).filter λp=>decide (p.1≠d)
open PySem PySem.Spec PyProof.Rows
structure Mod (K:vV)(mg:Str->Option vP)(base:Heap):Prop where
 kin:K.In base
 glob:base.Ns w5 mg
 blt:∃mb,base.Ns builtinsNs mb/\∀x:Str,x ≠ "__name__" -> mb x=xA x
 nolimit:base.NoLimit
structure Cx where
 prog:wu
 w:w4
 K:vV
 mg:Str->Option vP
 base:Heap
 A:w6
 N:List Str
 s₀:vR
 H₀:Hp
 env:Env
 outer:List Env
 stack:List Env
 ex:List Addr
 fn:Str->Bool
 calm:Bool
 pn:List (Addr×Obj)
 xe:vP->vR->Prop
def frs (l:List Env):List Addr:=l.filterMap (·.frame)
abbrev Cx.fs (X:Cx):List Addr:=frs X.outer
def Vis (sc:Scope)(x:Str):Prop:=sc.names.lookup x=some .local\/sc.names.lookup x=some .cell\/sc.names.lookup x=some .free
def Loc (sc:Scope)(x:Str):Prop:=sc.names.lookup x=some .local\/sc.names.lookup x=some .cell
def Look (env:Env)(h:Heap)(m:Str->Option vP)(x:Str)(u:vP):Prop :=
 (env.kindOf x=some .local/\m x=some u)\/((env.kindOf x=some .cell\/env.kindOf x=some .free)/\∃c,env.cells.lookup x=some c/\h.IsCell c (some u))
structure Cx.Ok (X:Cx):Prop where
 mod:Mod X.K X.mg X.base
 kind:X.env.scope.kind = .function
 glob:X.env.globals=w5
 blt:X.env.builtins=builtinsNs
 above:X.s₀.heap.objs.size<=X.env.locals
 inj:∀x y c,X.env.cells.lookup x=some c->X.env.cells.lookup y=some c->x=y
 has:∀x,(X.env.kindOf x=some .cell\/X.env.kindOf x=some .free)->∃c,X.env.cells.lookup x=some c
 cab:∀x c,X.fn x=true->X.env.cells.lookup x=some c->X.s₀.heap.objs.size<=c
 hd:X.calm=true->X.A.handled=none
 frames:X.A.frames=some X.stack
 stk:X.stack=X.outer\/(X.stack=X.env :: X.outer/\X.env.frame=some X.env.locals)
 exf:∀b∈X.ex,b≠X.env.locals/\∀x c,X.env.cells.lookup x=some c->c≠b
 bs:∀b o,X.base.get? b=some o->X.s₀.heap.get? b=some o/\X.H₀ b=none
 bsz:X.base.objs.size<=X.s₀.heap.objs.size
 noex:∀b o,X.base.get? b=some o->b∉X.ex
 exfs:∀b∈X.ex,b∉X.fs
 funs:X.s₀.heap.FunFrames X.base X.outer
 frf:∀b∈X.fs,X.H₀ b=none
structure Inv (X:Cx)(pins:List (Addr×Obj))(σ:List (Option V))(H:Hp)(s:vR):Prop where
 ok:X.Ok
 os:s.os=X.s₀.os
 bare:AllBare s.gens
 base:Un X.fs X.ex X.H₀ H X.s₀.heap s.heap
 loc:∃m,s.heap.Ns X.env.locals m/\∀(i:Nat) (x:Str) (v:V),X.N[i]? = some x->σ[i]? = some (some v)->Vis X.env.scope x->∃u,RelV v u/\Look X.env s.heap m x u
 cell:∀x c,X.env.cells.lookup x=some c->∃v,s.heap.IsCell c v
 free:H X.env.locals=none
 freeC:∀x c,X.env.cells.lookup x=some c->H c=none
 pin:∀p∈X.pn++pins,s.heap.get? p.1=some p.2/\H p.1=none/\p.1≠X.env.locals/\p.1∉X.fs/\∀v,p.2.data ≠ .cell v
 hok:HOk X.prog X.w H s.heap
 len:σ.length=X.N.length
section
variable  {X:Cx}{pins:List (Addr×Obj)}{σ:List (Option V)}{H H':Hp}{s:vR}{h':Heap}
theorem Cx.Ok.nofr (ok:X.Ok){b:Addr}{o:Obj}(e:X.base.get? b=some o):b∉X.fs:=λhb=>by
 have:=(ok.funs.mem hb).1
 rw[e] at this;cases this
theorem Inv.bs (I:Inv X pins σ H s):∀b o,X.base.get? b=some o->s.heap.get? b=some o/\H b=none:=λb o e =>
 ⟨I.base.keep b o (I.ok.bs b o e).1 (I.ok.bs b o e).2 (I.ok.nofr e) (I.ok.noex b o e),I.base.free b o (I.ok.bs b o e).1 (I.ok.bs b o e).2 (I.ok.noex b o e)⟩
theorem Inv.bk (I:Inv X pins σ H s):∀b o,X.base.get? b=some o->s.heap.get? b=some o:=λb o e=>(I.bs b o e).1
theorem Inv.mod (I:Inv X pins σ H s):Mod X.K X.mg X.base:=I.ok.mod
theorem Inv.kIn (I:Inv X pins σ H s):X.K.In s.heap:=I.ok.mod.kin.keeps I.bk
theorem Inv.lt (I:Inv X pins σ H s):X.env.locals<s.heap.objs.size:=let ⟨_,hn,_⟩:=I.loc;hn.lt
theorem Inv.sz (I:Inv X pins σ H s):X.s₀.heap.objs.size<=s.heap.objs.size:=wL I.ok.above (zE I.lt)
theorem Inv.tQ (I:Inv X pins σ H s){a:Addr}(h:s.heap.objs.size<=a):a∉X.fs:=λhb=>by
 obtain ⟨_,o,ho,_⟩:=I.ok.funs.mem hb
 exact absurd (wq (v3 ho) (wL I.sz h)) (xq _)
theorem Inv.cne (I:Inv X pins σ H s):∀x c,X.env.cells.lookup x=some c->c≠X.env.locals:=λx c e z=>by
 obtain ⟨v,o,ho,hd⟩:=I.cell x c e
 obtain ⟨m,⟨o',es,ep,ho',hd',_⟩,_⟩:=I.loc
 rw[z,ho'] at ho;cases ho;rw[hd'] at hd;cases hd
theorem Inv.funs (I:Inv X pins σ H s):s.heap.FunFrames X.base X.outer:=by
 have all:∀(l:List Env),(∀b∈frs l,b∈X.fs)->X.s₀.heap.FunFrames X.base l->s.heap.FunFrames X.base l:=by
  intro l
  induction l with
  | nil=>intro _ _;trivial
  | cons env r ih =>
   intro hs hl
   obtain ⟨hk,⟨L,o,hf,hn,ho,hd⟩,hr⟩:=hl
   have hL:L∈X.fs:=hs L (by unfold frs;rw[A8,hf];exact wJ)
   obtain ⟨sl,e⟩:=I.base.slot L o ho (I.ok.frf L hL) hL λz=>I.ok.exfs L z hL
   exact ⟨hk,⟨L,_,hf,hn,e,hd⟩,ih (λb hb=>hs b (by unfold frs;rw[A8,hf];exact wD _ hb)) hr⟩
 exact all X.outer (λ_ hb=>hb) I.ok.funs
theorem Inv.stack (I:Inv X pins σ H s):s.heap.FunFrames X.base X.stack:=by
 rcases I.ok.stk with e | ⟨e,hf⟩
 ·rw[e];exact I.funs
 ·rw[e]
  obtain ⟨m,hn,_⟩:=I.loc
  refine .cons (by rw[I.ok.kind];decide) hf hn ?_ I.funs
  exact Heap.get?_none_of_le (wL I.ok.bsz I.ok.above)
theorem Inv.js (I:Inv X pins σ H s):∀b∈frs X.stack,b∈X.env.locals :: X.fs:=λb hb=>by
 rcases I.ok.stk with e | ⟨e,hf⟩
 ·rw[e] at hb;exact wD _ hb
 ·rw[e] at hb
  unfold frs at hb
  rw[A8,hf] at hb
  exact hb
theorem Inv.mj (I:Inv X pins σ H s):∀b∈frs X.stack,H b=none:=λb hb=>by
 rcases wj.mp (I.js b hb) with e | hb
 ·rw[e];exact I.free
 ·obtain ⟨_,o,ho,_⟩:=I.ok.funs.mem hb
  exact I.base.free b o ho (I.ok.frf b hb) λz=>I.ok.exfs b z hb
theorem Inv.step {g':Array GenState}{t':Nat}{d':Drawn}{ch:List Addr}(I:Inv X pins σ H s)
  (hch:∀b∈ch,(b∈X.ex\/X.s₀.heap.objs.size<=b)/\b≠X.env.locals/\(∀x c,X.env.cells.lookup x=some c->c≠b)/\∀p∈X.pn++pins,p.1≠b)
  (keep:∀b o,b≠X.env.locals->b∉X.fs->b∉ch->s.heap.get? b=some o->H b=none->h'.get? b=some o)
  (slot:∀b o,b≠X.env.locals->b∈X.fs->b∉ch->s.heap.get? b=some o->H b=none->∃sl,h'.get? b=some { o with slots:=sl }) (free:∀b o,b∉ch->s.heap.get? b=some o->H b=none->H' b=none)
  (there:∀b o,b∉ch->s.heap.get? b=some o->∃o',h'.get? b=some o')
  (tups:∀b xs,H b=some (.tup xs)->H' b=some (.tup xs)) (frzs:∀b o u,H b=some (.frz o u)->H' b=some (.frz o u)) (tbls:∀b ps,H b=some (.tbl ps)->∃more,H' b=some (.tbl (ps++more)))
  (ns:∀m,s.heap.Ns X.env.locals m->h'.Ns X.env.locals m) (hok:HOk X.prog X.w H' h') (hg:AllBare g') :
  Inv X pins σ H' { s with heap:=h',gens:=g',drawn:=d',toks:=t' }:=by
 have neL:∀b o,X.s₀.heap.get? b=some o->b≠X.env.locals:=λb o e=>wg (wq (v3 e) I.ok.above)
 have neC:∀b o,X.s₀.heap.get? b=some o->b∉X.ex->b∉ch:=λb o e hx hb=>by
  rcases (hch b hb).1 with z | z
  ·exact hx z
  ·exact absurd (wq (v3 e) z) (xq _)
 have cellK:∀x c,X.env.cells.lookup x=some c->∀v,s.heap.IsCell c v->h'.IsCell c v:=λx c e v ⟨o,ho,hd⟩=>by
  have nch:c∉ch:=λz=>(hch c z).2.2.1 x c e rfl
  by_cases hc:c∈X.fs
  ·obtain ⟨sl,q⟩:=slot c o (I.cne x c e) hc nch ho (I.freeC x c e)
   exact ⟨_,q,hd⟩
  ·exact ⟨o,keep c o (I.cne x c e) hc nch ho (I.freeC x c e),hd⟩
 refine ⟨I.ok,I.os,hg,⟨λb o e n hb hx =>?_,λb o e n hb hx =>?_,λb o e n hx =>?_,λb o e hx =>?_,λb xs e=>tups b xs (I.base.tups b xs e),λb o xs e=>frzs b o xs (I.base.frzs b o xs e),λb ps e =>?_⟩,?_,λx c e =>?_,?_,λx c e =>?_,λp hp =>?_,hok,I.len⟩
 ·exact keep b o (neL b o e) hb (neC b o e hx) (I.base.keep b o e n hb hx) (I.base.free b o e n hx)
 ·obtain ⟨sl,e1⟩:=I.base.slot b o e n hb hx
  obtain ⟨sl',e2⟩:=slot b _ (neL b o e) hb (neC b o e hx) e1 (I.base.free b o e n hx)
  exact ⟨sl',e2⟩
 ·obtain ⟨o',e1⟩:=I.base.there b o e hx
  exact free b o' (neC b o e hx) e1 (I.base.free b o e n hx)
 ·obtain ⟨o',e1⟩:=I.base.there b o e hx
  exact there b o' (neC b o e hx) e1
 ·obtain ⟨m1,e1⟩:=I.base.tbls b ps e
  obtain ⟨m2,e2⟩:=tbls b _ e1
  exact ⟨m1++m2,by rw[e2,Array.append_assoc]⟩
 ·obtain ⟨m,hn,hl⟩:=I.loc
  refine ⟨m,ns m hn,λi x v e1 e2 e3 =>?_⟩
  obtain ⟨u,r,l⟩:=hl i x v e1 e2 e3
  refine ⟨u,r,?_⟩
  rcases l with l | ⟨k,c,e,z⟩
  ·exact .inl l
  ·exact .inr ⟨k,c,e,cellK x c e _ z⟩
 ·obtain ⟨v,z⟩:=I.cell x c e
  exact ⟨v,cellK x c e v z⟩
 ·obtain ⟨m,⟨o,_,_,ho,_⟩,_⟩:=I.loc
  exact free _ o (λz=>(hch _ z).2.1 rfl) ho I.free
 ·obtain ⟨v,o,ho,hd⟩:=I.cell x c e
  exact free c o (λz=>(hch c z).2.2.1 x c e rfl) ho (I.freeC x c e)
 ·obtain ⟨e,n,ne,nf,d⟩:=I.pin p hp
  have nch:p.1∉ch:=λz=>(hch p.1 z).2.2.2 p hp rfl
  exact ⟨keep p.1 p.2 ne nf nch e n,free p.1 p.2 nch e n,ne,nf,d⟩
theorem Inv.un {t':Nat}(I:Inv X pins σ H s)(u:Un X.fs [] H H' s.heap h')(hok:HOk X.prog X.w H' h'):Inv X pins σ H' { s with heap:=h',toks:=t' }:=by
 obtain ⟨m,⟨o,es,ep,ho,r⟩,_⟩:=id I.loc
 obtain ⟨sl,hL⟩:=u.any ho I.free (by simp)
 exact I.step (g':=s.gens) (d':=s.drawn) (ch:=[]) (λ_ z=>nomatch z) (λb o _ hb _ e n=>u.keep b o e n hb (by simp)) (λb o _ hb _ e n=>u.slot b o e n hb (by simp)) (λb o _ e n=>u.free b o e n (by simp)) (λb o _ e=>u.there b o e (by simp)) u.tups u.frzs u.tbls (λm' hm=>by
  obtain ⟨o',es',ep',ho',r'⟩:=hm
  rw[ho] at ho';cases ho'
  exact ⟨_,es',ep',hL,r'⟩) hok I.bare
theorem Inv.call {g':Array GenState}{t':Nat}{d':Drawn}{ch:List Addr}(I:Inv X pins σ H s)(u:Un (frs X.stack) ch H H' s.heap h')(hok:HOk X.prog X.w H' h')(hg:AllBare g')
  (hch:∀b∈ch,(b∈X.ex\/X.s₀.heap.objs.size<=b)/\b≠X.env.locals/\(∀x c,X.env.cells.lookup x=some c->c≠b)/\∀p∈X.pn++pins,p.1≠b) :
  Inv X pins σ H' { s with heap:=h',gens:=g',drawn:=d',toks:=t' }:=by
 obtain ⟨m,⟨o,es,ep,ho,r⟩,_⟩:=id I.loc
 obtain ⟨sl,hL⟩:=u.any ho I.free λz=>(hch _ z).2.1 rfl
 exact I.step (ch:=ch) hch (λb o hL hb hc e n=>u.keep b o e n (λz=>(wj.mp (I.js b z)).elim hL hb) hc) (λb o _ _ hc e n=>u.any e n hc) (λb o hc e n=>u.free b o e n hc) (λb o hc e=>u.there b o e hc) u.tups u.frzs u.tbls (λm' hm=>by
  obtain ⟨o',es',ep',ho',r'⟩:=hm
  rw[ho] at ho';cases ho'
  exact ⟨_,es',ep',hL,r'⟩) hok hg
theorem Inv.turned {t':Nat}{it:Addr}(I:Inv X pins σ H s)(k:∀b o,b≠it->s.heap.get? b=some o->h'.get? b=some o)(hn:H it=none)(hL:it≠X.env.locals)
  (h1:it∈X.ex\/X.s₀.heap.objs.size<=it) (h2:∀x c,X.env.cells.lookup x=some c->c≠it) (h3:∀p∈X.pn++pins,p.1≠it):Inv X pins σ H { s with heap:=h',toks:=t' }:=by
 have nit:∀b u,H b=some u->b≠it:=λb u e z=>by rw[z,hn] at e;cases e
 refine I.step (g':=s.gens) (d':=s.drawn) (ch:=[it]) (λb hb =>?_) (λb o _ _ hc e _=>k b o (λz=>hc (by simp[z])) e) (λb o _ _ hc e _=>⟨o.slots,k b o (λz=>hc (by simp[z])) e⟩) (λ_ _ _ _ n=>n)
  (λb o hc e=>⟨o,k b o (λz=>hc (by simp[z])) e⟩) (λ_ _ e=>e) (λ_ _ _ e=>e) (λb ps e=>⟨#[],by rw[e];simp⟩) (λm hm =>?_) (λb u e =>?_) I.bare
 ·have e:b=it:=by simpa using hb
  subst e
  exact ⟨h1,hL,h2,h3⟩
 ·obtain ⟨o,es,ep,ho,r⟩:=hm
  exact ⟨o,es,ep,k _ o (xF hL) ho,r⟩
 ·refine (I.hok b u e).jZ (λc v hc q=>k c v ?_ q) (λ_ q=>q) λ_ _ q=>q
  rcases hc with z | z
  ·rw[z];exact nit b u e
  ·exact nit c _ z
theorem Inv.tok (I:Inv X pins σ H s)(t:Nat):Inv X pins σ H { s with toks:=t }:=I.un (h':=s.heap) (t':=t) Un.refl I.hok
theorem Inv.kept {t':Nat}(I:Inv X pins σ H s)(k:∀b u,s.heap.get? b=some u->h'.get? b=some u):Inv X pins σ H { s with heap:=h',toks:=t' }:=I.un (Un.kept k) (I.hok.kept k)
theorem Inv.laid {a:Addr}{o:HO}{t':Nat}(I:Inv X pins σ H s)(k:∀b u,s.heap.get? b=some u->h'.get? b=some u)(hp:s.heap.objs.size<=a)(new:a6 X.prog X.w (upd H a o) h' a o) :
  Inv X pins σ (upd H a o) { s with heap:=h',toks:=t' }:=I.un (Un.laid k hp (I.hok.fresh hp)) (I.hok.laid k hp new)
theorem Inv.write {x e:Addr}{o:HO}{t':Nat}(I:Inv X pins σ H s)(mu:Mut (H x))(he:e=x\/H e=some (.own x))(k:∀b u,b≠e->s.heap.get? b=some u->h'.get? b=some u)(heo:∃u,h'.get? e=some u)
  (new:a6 X.prog X.w (upd H x o) h' x o):Inv X pins σ (upd H x o) { s with heap:=h',toks:=t' }:=I.un (Un.write mu he k heo) (I.hok.write mu he k heo new)
theorem Inv.fc {pins':List (Addr×Obj)}(I:Inv X pins σ H s)(h:∀p∈pins',s.heap.get? p.1=some p.2/\H p.1=none/\p.1≠X.env.locals/\p.1∉X.fs/\∀v,p.2.data ≠ .cell v):Inv X pins' σ H s :=
 ⟨I.ok,I.os,I.bare,I.base,I.loc,I.cell,I.free,I.freeC,λp hp=>(vY.mp hp).elim (λz=>I.pin p (yb _ z)) (h p),I.hok,I.len⟩
theorem j0 {N:List Str}(hN:N.Nodup){i j:Nat}{x:Str}(a:N[i]? = some x)(b:N[j]? = some x):i=j:=by
 obtain ⟨h1,e1⟩:=v7.mp a
 obtain ⟨h2,e2⟩:=v7.mp b
 exact (Dg hN).mp (e1.trans e2.symm)
theorem nD {M:Model}{A:w6}{E:vP->vR->Prop}{i:Nat}{x:Str}{v:V}{u:vP}{Q:Unit->vR->Prop}(I:Inv X pins σ H s)(hN:X.N.Nodup)(hi:X.N[i]? = some x)(hx:Loc X.env.scope x)(r:RelV v u)
  (h:∀s',Inv X pins (σ.set i (some v)) H s'->(∃a,Heap.SameBut a s.heap s'.heap/\(a=X.env.locals\/X.env.cells.lookup x=some a))->Q () s') (hf:X.fn x=true\/X.env.scope.names.lookup x=some .local:=by first | exact .inl rfl | exact .inr rfl | assumption):wA M A (storeName X.env x u) Q E s:=by
 obtain ⟨m,hn,hl⟩:=id I.loc
 have hcls:(X.env.scope.kind == .class || (X.env.scope.kind == .module && X.env.locals != X.env.globals))=false:=by rw[I.ok.kind];rfl
 have hiσ:i<σ.length:=by rw[I.len];exact (v7.mp hi).1
 have cne:=I.cne
 have tracked:∀{a:Addr} {h':Heap},(∃o,s.heap.get? a=some o/\H a=none)->Heap.SameBut a s.heap h'->HOk X.prog X.w H h':=λ{a h'} ha hs b ob e=>by
  obtain ⟨_,_,hfree⟩:=ha
  refine (I.hok b ob e).jZ (λc w' hc q=>(hs.2 c ?_).trans q) (λ_ q=>q) λ_ _ q=>q
  rintro rfl
  rcases hc with rfl | hc
  ·rw[hfree] at e;cases e
  ·rw[hfree] at hc;cases hc
 rcases hx with hk | hk
 ·refine wpAny_storeName_local hk hn (λh' hn' hs =>?_) hcls
  obtain ⟨oL,_,_,hoL,_⟩:=id hn
  refine h _ ⟨I.ok,I.os,I.bare,⟨λb o e n hb hx =>?_,λb o e n hb hx =>?_,I.base.free,λb o e hx =>?_,I.base.tups,I.base.frzs,I.base.tbls⟩,⟨_,hn',λj y v' e1 e2 e3 =>?_⟩,λy c e =>?_,I.free,I.freeC,λp hp =>?_,tracked ⟨oL,hoL,I.free⟩ hs,by simpa using I.len⟩ ⟨_,hs,.inl rfl⟩
  ·exact (hs.2 b (wg (wq (v3 e) I.ok.above))).trans (I.base.keep b o e n hb hx)
  ·obtain ⟨sl,e1⟩:=I.base.slot b o e n hb hx
   exact ⟨sl,(hs.2 b (wg (wq (v3 e) I.ok.above))).trans e1⟩
  ·obtain ⟨o',e1⟩:=I.base.there b o e hx
   exact ⟨o',(hs.2 b (wg (wq (v3 e) I.ok.above))).trans e1⟩
  ·by_cases hj:j=i
   ·subst hj
    rw[hi] at e1;cases e1
    rw[Ax hiσ] at e2
    cases e2
    exact ⟨u,r,.inl ⟨hk,by simp⟩⟩
   ·rw[Cs (xF hj)] at e2
    obtain ⟨u',r',q⟩:=hl j y v' e1 e2 e3
    refine ⟨u',r',?_⟩
    rcases q with ⟨k,e⟩ | ⟨k,c,e,z⟩
    ·refine .inl ⟨k,?_⟩
     have:y≠x:=λe=>hj (j0 hN e1 (e ▸ hi))
     simp[this,e]
    ·exact .inr ⟨k,c,e,z.sameBut hs (cne y c e)⟩
  ·obtain ⟨w',z⟩:=I.cell y c e
   exact ⟨w',z.sameBut hs (cne y c e)⟩
  ·obtain ⟨e,n,ne,nf,d⟩:=I.pin p hp
   exact ⟨(hs.2 p.1 ne).trans e,n,ne,nf,d⟩
 ·have hfn:X.fn x=true:=by
   rcases hf with z | z
   ·exact z
   ·rw[z] at hk;cases hk
  obtain ⟨c,hc⟩:=I.ok.has x (.inl hk)
  obtain ⟨w',z⟩:=I.cell x c hc
  refine wpAny_storeName_cell I.ok.kind hk hc z (λh' hc' hs =>?_)
  obtain ⟨oc,hoc,hocd⟩:=id z
  refine h { s with heap:=h' } ⟨I.ok,I.os,I.bare,⟨λb o e n hb hx =>?_,λb o e n hb hx =>?_,I.base.free,λb o e hx =>?_,I.base.tups,I.base.frzs,I.base.tbls⟩,⟨m,hn.sameBut hs (xF (cne x c hc)),λj y v' e1 e2 e3 =>?_⟩,λy c' e =>?_,I.free,I.freeC,λp hp =>?_,tracked ⟨oc,hoc,I.freeC x c hc⟩ hs,by simpa using I.len⟩ ⟨c,hs,.inr hc⟩
  ·exact (hs.2 b (wg (wq (v3 e) (I.ok.cab x c hfn hc)))).trans (I.base.keep b o e n hb hx)
  ·obtain ⟨sl,e1⟩:=I.base.slot b o e n hb hx
   exact ⟨sl,(hs.2 b (wg (wq (v3 e) (I.ok.cab x c hfn hc)))).trans e1⟩
  ·obtain ⟨o',e1⟩:=I.base.there b o e hx
   exact ⟨o',(hs.2 b (wg (wq (v3 e) (I.ok.cab x c hfn hc)))).trans e1⟩
  ·by_cases hj:j=i
   ·subst hj
    rw[hi] at e1;cases e1
    rw[Ax hiσ] at e2
    cases e2
    exact ⟨u,r,.inr ⟨.inl hk,c,hc,hc'⟩⟩
   ·rw[Cs (xF hj)] at e2
    obtain ⟨u',r',q⟩:=hl j y v' e1 e2 e3
    refine ⟨u',r',?_⟩
    rcases q with q | ⟨k,c',e,z'⟩
    ·exact .inl q
    ·refine .inr ⟨k,c',e,z'.sameBut hs ?_⟩
     rintro rfl
     exact hj (j0 hN e1 (I.ok.inj _ _ _ e hc ▸ hi))
  ·by_cases hcc:c'=c
   ·subst hcc;exact ⟨_,hc'⟩
   ·obtain ⟨w2,z2⟩:=I.cell y c' e
    exact ⟨w2,z2.sameBut hs hcc⟩
  ·obtain ⟨e,n,ne,nf,d⟩:=I.pin p hp
   refine ⟨(hs.2 p.1 ?_).trans e,n,ne,nf,d⟩
   intro q
   rw[q,hoc] at e
   have q':oc=p.2:=wB e
   exact d w' (by rw[<- q'];exact hocd)
theorem j1 {M:Model}{A:w6}{E:vP->vR->Prop}{i:Nat}{x:Str}{v:V}{u:vP}{Q:Unit->vR->Prop}(I:Inv X pins σ H s)(hN:X.N.Nodup)(hi:X.N[i]? = some x)(hx:Loc X.env.scope x)(r:RelV v u)
  (h:∀s',Inv X pins (σ.set i (some v)) H s'->Q () s') (hf:X.fn x=true\/X.env.scope.names.lookup x=some .local:=by first | exact .inl rfl | exact .inr rfl | assumption):wA M A (storeName X.env x u) Q E s :=
 nD I hN hi hx r (λs' I' _=>h s' I') hf
theorem Inv.uZ {s':vR}{ch:List Addr}(I:Inv X pins σ H s)(ho:s'.os=s.os)(u:Un (frs X.stack) ch H H' s.heap s'.heap)(hok:HOk X.prog X.w H' s'.heap)(hg:AllBare s'.gens)
  (hch:∀b∈ch,(b∈X.ex\/X.s₀.heap.objs.size<=b)/\b≠X.env.locals/\(∀x c,X.env.cells.lookup x=some c->c≠b)/\∀p∈X.pn++pins,p.1≠b):Inv X pins σ H' s':=by
 obtain ⟨h',g',d',t',o'⟩:=s'
 have e:o'=s.os:=ho
 subst e
 exact I.call (g':=g') (t':=t') (d':=d') u hok hg hch
end
abbrev XK:=vP->Option Addr->Hp->Prop
abbrev St:=List (Option V)
abbrev VK:=V->Hp->Prop
abbrev TE:=St->Hp->VK->Prop
abbrev TT:=St->Hp->(Bool->Hp->Prop)->Prop
abbrev TA:=St->Hp->(List V->Hp->Prop)->Prop
structure Ends where
 nx:St->Hp->Prop
 rt:VK
 bk:St->Hp->Prop:=λ_ _=>False
 ct:St->Hp->Prop:=λ_ _=>False
abbrev TS:=Ends->St->Hp->Prop
def EP (X:Cx)(pins:List (Addr×Obj))(σ:St)(Q:VK)(u:vP)(s':vR):Prop:=∃v H',Inv X pins σ H' s'/\RelV v u/\Q v H'
def TP (X:Cx)(pins:List (Addr×Obj))(σ:St)(Q:Bool->Hp->Prop)(b:Bool)(s':vR):Prop:=∃H',Inv X pins σ H' s'/\Q b H'
def AP (X:Cx)(pins:List (Addr×Obj))(σ:St)(Q:List V->Hp->Prop)(us:List vP)(s':vR):Prop:=∃vs H',Inv X pins σ H' s'/\Vals vs us/\Q vs H'
def SP (X:Cx)(pins:List (Addr×Obj))(D:Ends)(f:Flow)(s':vR):Prop :=
 match f with
 | .next=>∃σ' H',Inv X pins σ' H' s'/\D.nx σ' H'
 | .brk=>∃σ' H',Inv X pins σ' H' s'/\D.bk σ' H'
 | .cont=>∃σ' H',Inv X pins σ' H' s'/\D.ct σ' H'
 | .ret u=>∃v σ' H',Inv X pins σ' H' s'/\RelV v u/\D.rt v H'
def PE (X:Cx)(e:Expr)(t:TE):Prop :=
 ∀(pins:List (Addr×Obj)) (s:vR) (σ:St) (H:Hp) (Q:VK),Inv X pins σ H s->t σ H Q->wA (wI X.prog X.w) X.A (eval e X.env) (EP X pins σ Q) X.xe s
def PT (X:Cx)(e:Expr)(t:TT):Prop :=
 ∀(pins:List (Addr×Obj)) (s:vR) (σ:St) (H:Hp) (Q:Bool->Hp->Prop),Inv X pins σ H s->t σ H Q->wA (wI X.prog X.w) X.A (isTrue e X.env (eval e X.env)) (TP X pins σ Q) X.xe s
def PW (X:Cx)(e:Expr)(t:TT):Prop :=
 ∀(whole:Sem vP) (pins:List (Addr×Obj)) (s:vR) (σ:St) (H:Hp) (Q:Bool->Hp->Prop),Inv X pins σ H s->t σ H Q->wA (wI X.prog X.w) X.A (isTrue e X.env whole) (TP X pins σ Q) X.xe s
theorem PW.pt {X:Cx}{e:Expr}{t:TT}(h:PW X e t):PT X e t:=h _
def PA (X:Cx)(es:List Expr)(t:TA):Prop :=
 ∀(pos:Pos) (pins:List (Addr×Obj)) (s:vR) (σ:St) (H:Hp) (Q:List V->Hp->Prop),Inv X pins σ H s->t σ H Q->wA (wI X.prog X.w) X.A (spliced (Aw pos (xb es X.env))) (AP X pins σ Q) X.xe s
def PS (X:Cx)(st:Stmt)(t:TS):Prop :=
 ∀(pins:List (Addr×Obj)) (s:vR) (σ:St) (H:Hp) (D:Ends),Inv X pins σ H s->t D σ H->wA (wI X.prog X.w) X.A (exec st X.env) (SP X pins D) X.xe s
def PSs (X:Cx)(st:List Stmt)(t:TS):Prop :=
 ∀(pins:List (Addr×Obj)) (s:vR) (σ:St) (H:Hp) (D:Ends),Inv X pins σ H s->t D σ H->wA (wI X.prog X.w) X.A (execs st X.env) (SP X pins D) X.xe s
theorem thn {α:Type}{t:Sem α}{Q Q':α -> vR->Prop}{M:Model}{A:w6}{E:vP->vR->Prop}{s:vR}(h:wA M A t Q E s)(hQ:∀a s,Q a s->Q' a s):wA M A t Q' E s:=yt h hQ λ_ _ x=>x
open PySem PySem.Spec PyProof.Rows
section
variable  {X:Cx}
theorem bin {a b:Expr}{ta tb:TE}(ha:PE X a ta)(hb:PE X b tb){pins:List (Addr×Obj)}{s:vR}{σ:St}{H:Hp}{R:V->V->Hp->Prop}(I:Inv X pins σ H s)(h:ta σ H λx H1=>tb σ H1 λy H2=>R x y H2)
  {α:Type} {Q:α -> vR->Prop} {f:vP->vP->Sem α}
  (hf:∀v u s2 x y H2,Inv X pins σ H2 s2->RelV x v->RelV y u->R x y H2->wA (wI X.prog X.w) X.A (f v u) Q X.xe s2) :
  wA (wI X.prog X.w) X.A (eval a X.env) (λv s₁=>wA (wI X.prog X.w) X.A (eval b X.env) (λu s₂=>wA (wI X.prog X.w) X.A (f v u) Q X.xe s₂) X.xe s₁) X.xe s:=by
 refine thn (ha pins s σ H _ I h) λv s1 ⟨x,H1,I1,r1,q1⟩ =>?_
 refine thn (hb pins s1 σ H1 _ I1 q1) λu s2 ⟨y,H2,I2,r2,q2⟩ =>?_
 exact hf v u s2 x y H2 I2 r1 r2 q2
def oU (i:Nat):TE:=λσ H Q=>∃v,σ[i]? = some (some v)/\Q v H
def tC (v:V):TE:=λ_ H Q=>Q v H
theorem tS {i:Nat}{x:Str}{pos:Pos}(hN:X.N[i]? = some x)(hv:Vis X.env.scope x)(hd:(x == ("__debug__" : Str))=false:=by decide)(hcd:(x == ("__classdict__" : Str))=false:=by decide):PE X (.Name x pos) (oU i):=by
 intro pins s σ H Q I h
 obtain ⟨v,e,h⟩:=h
 obtain ⟨m,hn,hl⟩:=I.loc
 obtain ⟨u,r,l⟩:=hl i x v hN e hv
 have fin:EP X pins σ Q u s:=⟨v,H,I,r,h⟩
 rcases l with ⟨hk,hm⟩ | ⟨hk,c,hc,hcell⟩
 ·exact DT (wpAny_loadName_local I.ok.kind hk hn hm fin) hd
 ·rcases hk with hk | hk
  ·exact DT (wpAny_loadName_cell I.ok.kind hk hc hcell fin) hd
  ·exact DT (wpAny_loadName_free I.ok.kind hk hc hcell fin hcd) hd
theorem aj {i j pos}:PE X (.Constant (.int i) j pos) (tC (.int i)):=λ_ _ _ H _ I h=>wpAny_Constant_int ⟨.int i,H,I.tok _,⟨_,rfl⟩,h⟩
theorem gx {b j pos}:PE X (.Constant (.bool b) j pos) (tC (.bl b)):=λ_ _ _ H _ I h=>Constant_bool ⟨.bl b,H,I,rfl,h⟩
def Gl (X:Cx)(x:Str):Prop:=X.env.kindOf x=some .globalImplicit
theorem rh {E:vP->vR->Prop}{pins:List (Addr×Obj)}{s:vR}{σ:St}{H:Hp}{x:Str}{u:vP}{pos:Pos}{Q:vP->vR->Prop}(I:Inv X pins σ H s)(hg:Gl X x)(hm:X.mg x=some u)(h:Q u s)
  (hd:(x == ("__debug__" : Str))=false:=by decide):wA (wI X.prog X.w) X.A (eval (.Name x pos) X.env) Q E s :=
 Bd I.ok.kind hg (Calls.loadGlobal_global (by rw[I.ok.glob];exact I.mod.glob.keeps I.bk) hm h) hd
theorem cR {E:vP->vR->Prop}{pins:List (Addr×Obj)}{s:vR}{σ:St}{H:Hp}{x:Str}{u:vP}{pos:Pos}{Q:vP->vR->Prop}(I:Inv X pins σ H s)(hg:Gl X x)(hm:X.mg x=none)(hv:xA x=some u)(h:Q u s)
  (hn:x ≠ "__name__" := by decide) (hd:(x == ("__debug__" : Str))=false:=by decide):wA (wI X.prog X.w) X.A (eval (.Name x pos) X.env) Q E s:=by
 obtain ⟨mb,h1,h2⟩:=I.mod.blt
 exact Bd I.ok.kind hg (Calls.loadGlobal_builtin (by rw[I.ok.glob];exact I.mod.glob.keeps I.bk) hm (by rw[I.ok.blt];exact h1.keeps I.bk) ((h2 x hn).trans hv) h) hd
theorem ml {x:Str}{v:V}{u:vP}{pos:Pos}(hg:Gl X x)(hm:X.mg x=none)(hv:xA x=some u)(r:RelV v u)(hn:x ≠ "__name__" := by decide)(hd:(x == ("__debug__" : Str))=false:=by decide):PE X (.Name x pos) (tC v) :=
 λ_ _ _ H _ I h=>cR I hg hm hv ⟨v,H,I,r,h⟩ hn hd
variable  {a b:Expr}{ta tb:TE}{pos:Pos}
def PC (X:Cx)(op:CmpOp)(a b:Expr)(t:TE):Prop :=
 ∀(pins:List (Addr×Obj)) (s:vR) (σ:St) (H:Hp) (Q:VK),Inv X pins σ H s->t σ H Q →
  wA (wI X.prog X.w) X.A (eval a X.env) (λv s₁=>wA (wI X.prog X.w) X.A (eval b X.env) (λu s₂=>wA (wI X.prog X.w) X.A (yp op v u) (EP X pins σ Q) X.xe s₂) X.xe s₁) X.xe s
theorem oV (b:Expr){op:CmpOp}(h:op ≠ .In)(h2:op ≠ .NotIn):behindInMarks op b=false:=by
 have e1:(op == CmpOp.In)=false:=by cases op <;> first | rfl | exact absurd rfl h
 have e2:(op == CmpOp.NotIn)=false:=by cases op <;> first | rfl | exact absurd rfl h2
 cases b <;> simp[behindInMarks,e1,e2]
def tB (t:TE):TT:=λσ H Q=>t σ H λx H1=>∃c,x = .bl c/\Q c H1
theorem tW {op:CmpOp}{t:TE}(h:PC X op a b t)(h1:behindInMarks op b=false:=by first | exact oV _ (by decide) (by decide) | rfl):PT X (.Compare a [op] [b] pos) (tB t):=by
 intro pins s σ H Q I hw
 refine Cj (thn (h pins s σ H _ I hw) λv s1 h1=>thn h1 λu s2 h2=>thn h2 λc s3 ⟨x,H1,I1,r1,q1⟩ =>?_) h1
 obtain ⟨d,rfl,q⟩:=q1
 cases r1
 exact yO ⟨H1,I1,q⟩
theorem kY {e:Expr}{t:TE}(h:PE X e t)(he:∀whole,isTrue e X.env whole=(do let v ← whole;standAt e.pos;holding [v] (truthy v)):=by intro _;rfl):PT X e (tB t):=by
  intro pins s σ H Q I hw
  refine isTrue_plain (thn (h pins s σ H _ I hw) λv s1 ⟨x,H1,I1,r1,q1⟩ =>?_) (he _)
  obtain ⟨d,rfl,q⟩:=q1
  cases r1
  exact yO ⟨H1,I1,q⟩
variable  {tA tB':TT}{rest:List Expr}
def tAnd (t u:TT):TT:=λσ H Q=>t σ H λc H1=>if c=true then u σ H1 Q else Q false H1
def tOr (t u:TT):TT:=λσ H Q=>t σ H λc H1=>if c=true then Q true H1 else u σ H1 Q
def tNot (t:TT):TT:=λσ H Q=>t σ H λc H1=>Q (!c) H1
theorem cM (ha:PT X a tA):PW X (.BoolOp .And [a] pos) tA:=by
 intro wh pins s σ H Q I h
 refine isTrue_and (thn (ha pins s σ H Q I h) λc s1 e =>?_)
 cases c with
 | true=>exact isTrue_and_nil e
 | false=>exact e
theorem gy (ha:PT X a tA):PW X (.BoolOp .Or [a] pos) tA:=by
 intro wh pins s σ H Q I h
 refine isTrue_or (thn (ha pins s σ H Q I h) λc s1 e =>?_)
 cases c with
 | false=>exact isTrue_or_nil e
 | true=>exact e
theorem dh (ha:PT X a tA)(hb:PW X (.BoolOp .And (b :: rest) pos) tB'):PW X (.BoolOp .And (a :: b :: rest) pos) (tAnd tA tB'):=by
 intro wh pins s σ H Q I h
 refine isTrue_and (thn (ha pins s σ H _ I h) λc s1 ⟨H1,I1,q1⟩ =>?_)
 cases c with
 | true=>exact hb wh pins s1 σ H1 Q I1 q1
 | false=>exact ⟨H1,I1,q1⟩
theorem iB (ha:PT X a tA)(hb:PW X (.BoolOp .Or (b :: rest) pos) tB'):PW X (.BoolOp .Or (a :: b :: rest) pos) (tOr tA tB'):=by
 intro wh pins s σ H Q I h
 refine isTrue_or (thn (ha pins s σ H _ I h) λc s1 ⟨H1,I1,q1⟩ =>?_)
 cases c with
 | true=>exact ⟨H1,I1,q1⟩
 | false=>exact hb wh pins s1 σ H1 Q I1 q1
theorem kZ (ha:PT X a tA):PT X (.UnaryOp .Not a pos) (tNot tA):=by
 intro pins s σ H Q I h
 exact isTrue_not (ha pins s σ H (λc H1=>Q (!c) H1) I h)
end
open PySem PySem.Spec PyProof.Rows
def SqL (K:vV)(H:Hp)(a:Addr)(xs:List V):Prop :=
 Rd H a (.lst xs) ∨
  ∃(o:Obj) (its:Array vP) (n:Nat),K.lookup a=some o/\o.cls = .type "list" /\ o.dict=none/\o.data = .seq its n/\its.size<=vZ/\Vals xs its.toList
def SqT (K:vV)(H:Hp)(a:Addr)(xs:List V):Prop :=
 Rd H a (.tup xs) ∨
  ∃(o:Obj) (its:Array vP) (n:Nat),K.lookup a=some o/\o.cls = .type "tuple" /\ o.data = .seq its n/\its.size<=vZ/\Vals xs its.toList
def absV:vP->Option V
 | .none=>some .non
 | .bool b=>some (.bl b)
 | .int i _=>some (.int i)
 | .str x _=>some (.str x)
 | .bytes b _=>some (.byt b)
 | .float b _=>some (.flt b)
 | .ref a=>some (.ref a)
 | .type n=>some (.ty n)
 | _=>none
theorem RelV.abs {x:V}{u:vP}(r:RelV x u):absV u=some x:=by
 cases x with
 | non=>cases r;rfl
 | bl _=>cases r;rfl
 | int _=>obtain ⟨t,rfl⟩:=r;rfl
 | str _=>obtain ⟨t,rfl⟩:=r;rfl
 | byt _=>obtain ⟨t,rfl⟩:=r;rfl
 | flt _=>obtain ⟨t,rfl⟩:=r;rfl
 | ref _=>cases r;rfl
 | ty _=>cases r;rfl
theorem RelV.inj {x y:V}{u:vP}(r:RelV x u)(q:RelV y u):x=y:=wB (r.abs.symm.trans q.abs)
theorem Vals.inj:∀{xs ys:List V} {us:List vP},Vals xs us->Vals ys us->xs=ys
 | _,_,_,.nil,.nil=>rfl
 | _,_,_,.cons r t,.cons r' t'=>by rw[r.inj r',Vals.inj t t']
section
variable  {X:Cx}{pins:List (Addr×Obj)}{σ:St}{H:Hp}{s:vR}{a:Addr}{xs ys:List V}
theorem SqL.of {K:vV}(h:H a=some (.lst xs)):SqL K H a xs :=.inl (.inl h)
theorem SqT.of {K:vV}(h:H a=some (.tup xs)):SqT K H a xs :=.inl (.inl h)
theorem Inv.list (I:Inv X pins σ H s)(h:SqL X.K H a xs):∃its:List vP,Vals xs its/\PlainL s.heap a its.toArray/\xs.length<=vZ:=by
 rcases h with h | ⟨o,its,n,hk,hc,hd,hs,hz,r⟩
 ·obtain ⟨z,its,n,r,e⟩:=h.ok I.hok
  exact ⟨its,r,⟨_,n,e,rfl,rfl,rfl⟩,z⟩
 ·refine ⟨its.toList,r,⟨o,n,I.kIn a o hk,hc,hd,by simpa using hs⟩,?_⟩
  have e:=r.length
  simp only[vX] at e
  omega
theorem Inv.tuple (I:Inv X pins σ H s)(h:SqT X.K H a xs):∃its:List vP,Vals xs its/\IsTup s.heap a its.toArray/\xs.length<=vZ:=by
 rcases h with h | ⟨o,its,n,hk,hc,hs,hz,r⟩
 ·obtain ⟨z,its,r,p⟩:=h.ok I.hok
  exact ⟨its,r,p.tup,z⟩
 ·refine ⟨its.toList,r,⟨o,I.kIn a o hk,hc,n,by simpa using hs⟩,?_⟩
  have e:=r.length
  simp only[vX] at e
  omega
theorem Inv.j2 (I:Inv X pins σ H s)(h:SqL X.K H a xs)(h':SqL X.K H a ys):xs=ys:=by
 obtain ⟨its,r,⟨o,n,e,_,_,d⟩,_⟩:=I.list h
 obtain ⟨its',r',⟨o',n',e',_,_,d'⟩,_⟩:=I.list h'
 rw[e] at e';cases e'
 rw[d] at d'
 injection d' with d1 _
 have:its=its':=by simpa using congrArg Array.toList d1
 subst this
 exact r.inj r'
theorem Inv.fI (I:Inv X pins σ H s)(h:SqT X.K H a xs)(h':SqT X.K H a ys):xs=ys:=by
 obtain ⟨its,r,⟨o,e,_,n,d⟩,_⟩:=I.tuple h
 obtain ⟨its',r',⟨o',e',_,n',d'⟩,_⟩:=I.tuple h'
 rw[e] at e';cases e'
 rw[d] at d'
 injection d' with d1 _
 have:its=its':=by simpa using congrArg Array.toList d1
 subst this
 exact r.inj r'
end
abbrev Cx.il (X:Cx)(E:vP->vR->Prop):Cx:={ X with xe:=E }
abbrev Cx.nox (X:Cx):Cx:=X.il λ_ _=>False
theorem Cx.Ok.il {X:Cx}(ok:X.Ok)(E:vP->vR->Prop):(X.il E).Ok :=
 ⟨ok.mod,ok.kind,ok.glob,ok.blt,ok.above,ok.inj,ok.has,ok.cab,ok.hd,ok.frames,ok.stk,ok.exf,ok.bs,ok.bsz,ok.noex,ok.exfs,ok.funs,ok.frf⟩
theorem Cx.Ok.dF {X:Cx}{E:vP->vR->Prop}(ok:(X.il E).Ok):X.Ok :=
 ⟨ok.mod,ok.kind,ok.glob,ok.blt,ok.above,ok.inj,ok.has,ok.cab,ok.hd,ok.frames,ok.stk,ok.exf,ok.bs,ok.bsz,ok.noex,ok.exfs,ok.funs,ok.frf⟩
section
variable  {X:Cx}{pins:List (Addr×Obj)}{σ:St}{H:Hp}{s:vR}{E:vP->vR->Prop}
theorem Inv.il (I:Inv X pins σ H s)(E:vP->vR->Prop):Inv (X.il E) pins σ H s:=⟨I.ok.il E,I.os,I.bare,I.base,I.loc,I.cell,I.free,I.freeC,I.pin,I.hok,I.len⟩
theorem Inv.dF (I:Inv (X.il E) pins σ H s):Inv X pins σ H s:=⟨I.ok.dF,I.os,I.bare,I.base,I.loc,I.cell,I.free,I.freeC,I.pin,I.hok,I.len⟩
theorem SP.dF {D:Ends}{f:Flow}{s':vR}(h:SP (X.il E) pins D f s'):SP X pins D f s':=by
 cases f with
 | next=>obtain ⟨σ',H',I,q⟩:=h;exact ⟨σ',H',I.dF,q⟩
 | brk=>obtain ⟨σ',H',I,q⟩:=h;exact ⟨σ',H',I.dF,q⟩
 | cont=>obtain ⟨σ',H',I,q⟩:=h;exact ⟨σ',H',I.dF,q⟩
 | ret u=>obtain ⟨v,σ',H',I,r,q⟩:=h;exact ⟨v,σ',H',I.dF,r,q⟩
theorem PSs.nox {st:List Stmt}{t:TS}(h:PSs X.nox st t):PSs X st t:=λpins s σ H D I hw =>
 yt (h pins s σ H D (I.il _) hw) (λ_ _ q=>q.dF) λ_ _ z=>False.elim z
end
section
variable  {X:Cx}{st:Stmt}{rest:List Stmt}{t u:TS}{e:Expr}{te:TE}{pos:Pos}
def u3:TS:=λD σ H=>D.nx σ H
def tSeq (t u:TS):TS:=λD σ H=>t { D with nx:=u D } σ H
theorem aN:PSs X [] u3:=λ_ _ σ H _ I h=>Bc ⟨σ,H,I,h⟩
theorem ai (h1:PS X st t)(h2:PSs X rest u):PSs X (st :: rest) (tSeq t u):=by
 intro pins s σ H D I h
 refine wpAny_execs_cons (thn (h1 pins s σ H { D with nx:=u D } I h) λf s1 q =>?_)
 cases f with
 | next =>
  obtain ⟨σ',H',I',q⟩:=q
  exact h2 pins s1 σ' H' D I' q
 | ret v=>exact q
 | brk=>exact q
 | cont=>exact q
theorem ay (h1:PS X st t):PSs X [st] t:=by
 intro pins s σ H D I h
 refine wpAny_execs_cons (thn (h1 pins s σ H D I h) λf s1 q =>?_)
 cases f with
 | next=>exact Bc q
 | ret v=>exact q
 | brk=>exact q
 | cont=>exact q
theorem Inv.quiet {pins:List (Addr×Obj)}{σ:St}{H:Hp}{s:vR}(I:Inv X pins σ H s):interactive X.env=false:=by simp[interactive,I.ok.kind]
def u5 (te:TE):TS:=λD σ H=>te σ H λ_ H1=>D.nx σ H1
theorem bE (he:PE X e te)(hs:swapsWith e none pos.line X.env=pure false:=by rfl):PS X (.Expr e pos) (u5 te):=by
 intro pins s σ H D I h
 exact wpAny_Expr_any (thn (he pins s σ H _ I h) λv s1 ⟨x,H1,I1,r1,q1⟩=>⟨σ,H1,I1,q1⟩) I.quiet hs
def tRet (te:TE):TS:=λD σ H=>te σ H D.rt
theorem aP (he:PE X e te):PS X (.Return (some e) pos) (tRet te):=by
 intro pins s σ H D I h
 exact wpAny_Return_some (thn (he pins s σ H _ I h) λv s1 ⟨x,H1,I1,r1,q1⟩=>⟨x,σ,H1,I1,r1,q1⟩)
def tIfS (c:TT)(t u:TS):TS:=λD σ H=>c σ H λb H1=>if b=true then t D σ H1 else u D σ H1
theorem bp {c:Expr}{a b:List Stmt}{tc:TT}(hc:PT X c tc)(ha:PSs X a t)(hb:PSs X b u):PS X (.If c a b pos) (tIfS tc t u):=by
 intro pins s σ H D I h
 refine wpAny_If (thn (hc pins s σ H _ I h) λd s1 ⟨H1,I1,q1⟩ =>?_)
 cases d with
 | true=>exact ha pins s1 σ H1 D I1 q1
 | false=>exact hb pins s1 σ H1 D I1 q1
def tX:TS:=λ_ _ _=>False
theorem iC {sts:List Stmt}:PSs X sts tX:=λ_ _ _ _ _ _ h=>h.elim
end
abbrev TG:=V->St->Hp->(St->Hp->Prop)->Prop
abbrev TGs:=List V->St->Hp->(St->Hp->Prop)->Prop
def PG (X:Cx)(target:Expr)(t:TG):Prop :=
 ∀(pins:List (Addr×Obj)) (s:vR) (σ:St) (H:Hp) (v:V) (u:vP) (Q:St->Hp->Prop),Inv X pins σ H s->RelV v u->t v σ H Q →
  wA (wI X.prog X.w) X.A (assign target X.env u) (λ_ s'=>∃σ' H',Inv X pins σ' H' s'/\Q σ' H') X.xe s
def PGs (X:Cx)(ts:List Expr)(t:TGs):Prop :=
 ∀(pins:List (Addr×Obj)) (s:vR) (σ:St) (H:Hp) (vs:List V) (us:List vP) (Q:St->Hp->Prop),Inv X pins σ H s->Vals vs us->t vs σ H Q →
  wA (wI X.prog X.w) X.A (assignInOrder ((assignEach ts X.env).map (·.2)) us) (λ_ s'=>∃σ' H',Inv X pins σ' H' s'/\Q σ' H') X.xe s
section
variable  {X:Cx}{pos:Pos}
def fe (i:Nat):TG:=λv σ H Q=>Q (σ.set i (some v)) H
theorem ak {i:Nat}{x:Str}(hN:X.N.Nodup)(hi:X.N[i]? = some x)(hx:Loc X.env.scope x)(hf:X.fn x=true\/X.env.scope.names.lookup x=some .local:=by first | exact .inl rfl | exact .inr rfl | assumption):PG X (.Name x pos) (fe i):=by
 intro pins s σ H v u Q I r h
 exact wpAny_assign_Name (j1 I hN hi hx r (λs' I'=>⟨_,H,I',h⟩) hf)
def u6:TGs:=λvs σ H Q=>vs=[]/\Q σ H
def oW (t:TG)(u:TGs):TGs:=λvs σ H Q=>∃v r,vs=v :: r/\t v σ H λσ' H'=>u r σ' H' Q
theorem aK:PGs X [] u6:=by
 intro pins s σ H vs us Q I r h
 obtain ⟨e,h⟩:=h
 subst e
 cases r
 exact assignInOrder_nil ⟨σ,H,I,h⟩
theorem aq {e:Expr}{es:List Expr}{t:TG}{u:TGs}(h1:PG X e t)(h2:PGs X es u)
  (hs:(assignEach (e :: es) X.env).map (·.2)=assign e X.env :: (assignEach es X.env).map (·.2):=by rfl):PGs X (e :: es) (oW t u):=by
 intro pins s σ H vs us Q I r h
 obtain ⟨v,vr,e1,h⟩:=h
 subst e1
 cases r with
 | cons r rr =>
  rw[hs]
  refine assignInOrder_cons (thn (h1 pins s σ H _ _ _ I r h) λ_ s1 ⟨σ1,H1,I1,q1⟩ =>?_)
  exact h2 pins s1 σ1 H1 _ _ Q I1 rr q1
def u7 (K:vV)(n:Nat)(t:TGs):TG:=λv σ H Q=>∃a xs,v = .ref a/\SqT K H a xs/\xs.length=n/\t xs σ H Q
theorem aO {es:List Expr}{k:Nat}{t:TGs}{n:Nat}(hc:X.calm=true)(h:PGs X es t)
  (hn:(assignEach es X.env).length=n:=by rfl) (hst:(assignEach es X.env).findIdx? (·.1)=none:=by rfl):PG X (.Tuple es k pos) (u7 X.K n t):=by
 intro pins s σ H v u Q I r hw
 obtain ⟨a,xs,e1,hq,hl,hw⟩:=hw
 subst e1
 cases r
 obtain ⟨its,rv,ht,hz⟩:=I.tuple hq
 refine assign_Tuple_tuple (I.ok.hd hc) ht (by simp[hn, <- hl,rv.length]) hst λh' hx =>?_
 have I1:Inv X pins σ H { s with heap:=h' }:=I.kept (t':=s.toks) λb o e=>hx b o (wg (v3 e)) e
 exact h pins _ σ H xs _ Q I1 (by simpa using rv) hw
def tY (te:TE)(g:TG):TS:=λD σ H=>te σ H λx H1=>g x σ H1 D.nx
theorem aR {tg e:Expr}{te:TE}{g:TG}(he:PE X e te)(hg:PG X tg g)(hs:swapsWithSole [tg] e pos.line X.env=pure false:=by rfl)(hw:swappedStores [tg] e X.env=pure none:=by rfl)
  (h1:(assignEach [tg] X.env).map (·.2)=[assign tg X.env]:=by rfl):PS X (.Assign [tg] e pos) (tY te g):=by
 intro pins s σ H D I h
 refine wpAny_Assign_stores (thn (he pins s σ H _ I h) λv s1 ⟨x,H1,I1,r1,q1⟩ =>?_) hs hw
 rw[h1]
 exact thn (hg pins s1 σ H1 x v _ I1 r1 q1) λ_ s2 q=>q
theorem a9 {i:Nat}{x:Str}{e:Expr}{te:TE}{pos':Pos}(hN:X.N.Nodup)(hi:X.N[i]? = some x)(hx:Loc X.env.scope x)(he:PE X e te)(hs:swapsWith e (some (.Name x pos')) pos.line X.env=pure false:=by rfl)(hf:X.fn x=true\/X.env.scope.names.lookup x=some .local:=by first | exact .inl rfl | exact .inr rfl | assumption) :
  PS X (.Assign [.Name x pos'] e pos) (tY te (fe i)):=by
 intro pins s σ H D I h
 refine wpAny_Assign_Name (thn (he pins s σ H _ I h) λv s1 ⟨y,H1,I1,r1,q1⟩ =>?_) hs
 exact j1 I1 hN hi hx r1 (λs2 I2=>⟨_,H1,I2,q1⟩) hf
end
section
variable  {X:Cx}{pos:Pos}
def oX (c:TT)(tb:TS):TS:=λD σ H=>∃W:Nat->St->Hp->Prop,(∃m,W m σ H)/\∀m σ H,W m σ H →
 c σ H λb H1=>if b=true then ∃N:St->Hp->Prop,(∀σ' H',N σ' H'->∃m',m'<m/\W m' σ' H')/\tb { D with nx:=N,ct:=N,bk:=D.nx } σ H1 else D.nx σ H1
theorem oY {c:Expr}{body:List Stmt}{tc:TT}{tb:TS}(hp:PassesOwn (wI X.prog X.w) X.A X.env X.xe)(hc:PT X c tc)(hb:PSs X body tb):PS X (.While c body [] pos) (oX tc tb):=by
 intro pins s σ H D I h
 obtain ⟨W,⟨m0,w0⟩,turn⟩:=h
 refine wpAny_While (codeAny_whileLoop (λn s'=>∃σ' H',Inv X pins σ' H' s'/\W n σ' H') ?_ m0 ⟨σ,H,I,w0⟩)
 rintro n s1 ⟨σ1,H1,I1,w1⟩
 refine zq hp (thn (hc pins s1 σ1 H1 _ I1 (turn n σ1 H1 w1)) λb s2 ⟨H2,I2,q2⟩ =>?_)
 cases b with
 | true =>
  obtain ⟨N,hN,q2⟩:=q2
  rw[if_pos rfl]
  refine zq hp (thn (hb pins s2 σ1 H2 _ I2 q2) λf s3 q3 =>?_)
  cases f with
  | next =>
   obtain ⟨σ3,H3,I3,n3⟩:=q3
   obtain ⟨m',hm,w3⟩:=hN σ3 H3 n3
   exact ⟨m',hm,σ3,H3,I3,w3⟩
  | cont =>
   obtain ⟨σ3,H3,I3,n3⟩:=q3
   obtain ⟨m',hm,w3⟩:=hN σ3 H3 n3
   exact ⟨m',hm,σ3,H3,I3,w3⟩
  | brk=>exact q3
  | ret v=>exact q3
 | false =>
  rw[if_neg wa]
  exact Bc ⟨σ1,H2,I2,q2⟩
end
structure It where
 go:Nat->Hp->Prop
 yld:Nat->Hp->V->Hp->Prop
 stop:Nat->Hp->Prop
def gz (X:Cx)(pins:List (Addr×Obj))(H:Hp)(b:Addr):Prop :=
 H b=none/\b≠X.env.locals/\b∉X.fs/\(b∈X.ex\/X.s₀.heap.objs.size<=b)/\(∀x c,X.env.cells.lookup x=some c->c≠b)/\∀p∈X.pn++pins,p.1≠b
theorem Inv.oZ {X:Cx}{pins:List (Addr×Obj)}{σ:St}{H H':Hp}{s:vR}{b:Addr}(I:Inv X pins σ H s)(hb:s.heap.objs.size<=b)(hn:H' b=none):gz X pins H' b:=by
 refine ⟨hn,Bl (wq I.lt hb),I.tQ hb,.inr (wL I.sz hb),λx c e z =>?_,λp hp z =>?_⟩
 ·obtain ⟨v,q⟩:=I.cell x c e
  exact absurd (wq q.lt (by rw[z];exact hb)) (xq _)
 ·exact absurd (wq (v3 (I.pin p hp).1) (by rw[z];exact hb)) (xq _)
structure Turn (P:wu)(w:w4)(K:vV)(tg:Expr)(J:It)(fp:List Addr)(it:Addr)(tn:Nat->Heap->Prop):Prop where
 mem:it∈fp
 obj:∀i h,tn i h->∀b∈fp,∃o,h.get? b=some o/\∀v,o.data ≠ .cell v
 keep:∀i h h',tn i h->(∀b∈fp,∀o,h.get? b=some o->h'.get? b=some o)->tn i h'
 item:∀(X:Cx),X.prog=P->X.w=w->X.K=K->X.calm=true->∀(i:Nat) (pins:List (Addr×Obj)) (s:vR) (σ:St) (H:Hp) (E:vP->vR->Prop),Inv X pins σ H s->(∀b∈fp,gz X pins H b)->tn i s.heap->J.go i H →
  wA (wI P w) X.A (pyNext (.ref it)) (λr s1=>∃u,r=some u ∧
   wA (wI P w) X.A (letOwnedTupleGo tg (.ref it) u) (λ_ s2=>∃x H',Inv X pins σ H' s2/\RelV x u/\J.yld i H x H'/\tn (i+1) s2.heap/\∀b∈fp,H' b=none) E s1) E s
 done:∀(X:Cx),X.prog=P->X.w=w->X.K=K->X.calm=true->∀(i:Nat) (pins:List (Addr×Obj)) (s:vR) (σ:St) (H:Hp) (E:vP->vR->Prop),Inv X pins σ H s->(∀b∈fp,gz X pins H b)->tn i s.heap->J.stop i H →
  wA (wI P w) X.A (pyNext (.ref it)) (λr s1=>r=none/\Inv X pins σ H s1) E s
 self:∀(A:w6) (i:Nat) (s:vR) (Q:vP->vR->Prop) (E:vP->vR->Prop),tn i s.heap->Q (.ref it) s->wA (wI P w) A (pyIter (.ref it)) Q E s
abbrev TI:=St->Hp->(It->Hp->Prop)->Prop
def PIE (X:Cx)(pins:List (Addr×Obj))(σ:St)(tg:Expr)(R:It->Hp->Prop)(itv:vP)(s2:vR):Prop :=
 ∃(it:Addr) (fp:List Addr) (tn:Nat->Heap->Prop) (J:It) (H':Hp),itv = .ref it/\Inv X pins σ H' s2/\Turn X.prog X.w X.K tg J fp it tn/\tn 0 s2.heap/\(∀b∈fp,gz X pins H' b)/\R J H'
def PI (X:Cx)(tg iter:Expr)(wi:TI):Prop :=
 ∀(pins:List (Addr×Obj)) (s:vR) (σ:St) (H:Hp) (R:It->Hp->Prop),Inv X pins σ H s->wi σ H R →
  wA (wI X.prog X.w) X.A (eval iter X.env) (λv s1=>wA (wI X.prog X.w) X.A (pyIter v) (PIE X pins σ tg R) X.xe s1) X.xe s
theorem mq {M:Model}{A:w6}{E:vP->vR->Prop}{s:vR}{tg:Expr}{it:Addr}{u:vP}{o:Obj}{n:String}{vs:Array vP}{Q:Unit->vR->Prop}(ho:s.heap.get? it=some o)(hc:o.cls = .type n)(hd:o.data = .fields vs)
    (hn:["enumerate", "zip", "dict_itemiterator", "dict_reverseitemiterator", "odict_iterator", "itertools.zip_longest", "itertools.pairwise"].contains n=false) (hQ:Q () s):wA M A (letOwnedTupleGo tg (.ref it) u) Q E s:=by
  unfold letOwnedTupleGo
  cases tg <;> first
    | exact vW hQ
    | (cases u <;> first
        | exact vW hQ
        | (refine vN (DU ho ?_)
           rw[hc,hd]
           show wA M A (if (["enumerate", "zip", "dict_itemiterator", "dict_reverseitemiterator", "odict_iterator", "itertools.zip_longest", "itertools.pairwise"].contains n && vs[0]? == some (Bp _))=true then _ else _) Q E s
           rw[if_neg (by intro h;rw[hn,Bool.false_and] at h;cases h)]
           exact vW hQ))
def Itl (K:vV)(a:Addr):It :=
 ⟨λi H=>∃xs x,SqL K H a xs/\xs[i]? = some x,λi H x H'=>H'=H/\∀xs,SqL K H a xs->xs[i]? = some x,λi H=>∃xs,SqL K H a xs/\xs.length<=i⟩
def Itt (K:vV)(a:Addr):It :=
 ⟨λi H=>∃xs x,SqT K H a xs/\xs[i]? = some x,λi H x H'=>H'=H/\∀xs,SqT K H a xs->xs[i]? = some x,λi H=>∃xs,SqT K H a xs/\xs.length<=i⟩
def Itr (lo:Int)(n:Nat):It:=⟨λi _=>i<n,λi H x H'=>H'=H/\x = .int (lo+i),λi _=>n<=i⟩
theorem nE {P:wu}{w:w4}{K:vV}{tg:Expr}(a it:Addr):Turn P w K tg (Itl K a) [it] it (λi h=>h.IsListIter it a i) where
 mem:=by simp
 obj:=λi h st b hb=>by
  have e:b=it:=by simpa using hb
  subst e
  obtain ⟨o,e,c,d⟩:=st
  exact ⟨o,e,λv z=>by rw[d] at z;cases z⟩
 keep:=λi h h' st k=>st.at λo e=>k it (by simp) o e
 item:=by
  intro X hP hw hK hc i pins s σ H E I hf st hg
  subst hP hw hK
  obtain ⟨xs,x,hq,hx⟩:=hg
  obtain ⟨its,rv,p,hz⟩:=I.list hq
  obtain ⟨u,hu,ru⟩:=rv.get hx
  obtain ⟨f0,f1,f2,f3,f4,f5⟩:=hf it (by simp)
  refine wpAny_pyNext_list_item st p.isList (x:=u) (by simpa using hu) λh' st' sb =>?_
  have I1:Inv X pins σ H { s with heap:=h' }:=I.turned (t':=s.toks) (λb o hb e=>(sb.2 b hb).trans e) f0 f1 f3 f4 f5
  obtain ⟨o,e,c,d⟩:=id st'
  exact ⟨u,rfl,mq (s:={ s with heap:=h' }) e c d (by decide) ⟨x,H,I1,ru,⟨rfl,λys hy=>by rw[I.j2 hy hq];exact hx⟩,st',λb hb=>(hf b hb).1⟩⟩
 done:=by
  intro X hP hw hK hc i pins s σ H E I hf st hg
  subst hP hw hK
  obtain ⟨xs,hq,hx⟩:=hg
  obtain ⟨its,rv,p,hz⟩:=I.list hq
  obtain ⟨f0,f1,f2,f3,f4,f5⟩:=hf it (by simp)
  have hl:=rv.length
  exact wpAny_pyNext_list_end (I.ok.hd hc) st p.isList (by simp;omega) λh' eb=>⟨rfl,I.turned (t':=s.toks) (λb o hb e=>eb b o hb e) f0 f1 f3 f4 f5⟩
 self:=λ_ _ _ _ _ st h=>wpAny_pyIter_listiter st h
theorem k5 {P:wu}{w:w4}{K:vV}{tg:Expr}(a it:Addr):Turn P w K tg (Itt K a) [it] it (λi h=>h.IsTupleIter it a i) where
 mem:=by simp
 obj:=λi h st b hb=>by
  have e:b=it:=by simpa using hb
  subst e
  obtain ⟨o,e,c,d⟩:=st
  exact ⟨o,e,λv z=>by rw[d] at z;cases z⟩
 keep:=λi h h' st k=>st.at λo e=>k it (by simp) o e
 item:=by
  intro X hP hw hK hc i pins s σ H E I hf st hg
  subst hP hw hK
  obtain ⟨xs,x,hq,hx⟩:=hg
  obtain ⟨its,rv,p,hz⟩:=I.tuple hq
  obtain ⟨u,hu,ru⟩:=rv.get hx
  obtain ⟨f0,f1,f2,f3,f4,f5⟩:=hf it (by simp)
  refine wpAny_pyNext_tuple_item st (show s.heap.IsTuple a its.toArray from p) (x:=u) (by simpa using hu) λh' st' sb =>?_
  have I1:Inv X pins σ H { s with heap:=h' }:=I.turned (t':=s.toks) (λb o hb e=>(sb.2 b hb).trans e) f0 f1 f3 f4 f5
  obtain ⟨o,e,c,d⟩:=id st'
  exact ⟨u,rfl,mq (s:={ s with heap:=h' }) e c d (by decide) ⟨x,H,I1,ru,⟨rfl,λys hy=>by rw[I.fI hy hq];exact hx⟩,st',λb hb=>(hf b hb).1⟩⟩
 done:=by
  intro X hP hw hK hc i pins s σ H E I hf st hg
  subst hP hw hK
  obtain ⟨xs,hq,hx⟩:=hg
  obtain ⟨its,rv,p,hz⟩:=I.tuple hq
  obtain ⟨f0,f1,f2,f3,f4,f5⟩:=hf it (by simp)
  have hl:=rv.length
  exact wpAny_pyNext_tuple_end (I.ok.hd hc) st (show s.heap.IsTuple a its.toArray from p) (by simp;omega) λh' eb=>⟨rfl,I.turned (t':=s.toks) (λb o hb e=>eb b o hb e) f0 f1 f3 f4 f5⟩
 self:=λ_ _ _ _ _ st h=>wpAny_pyIter_tupleiter st h
theorem k7 {P:wu}{w:w4}{K:vV}{tg:Expr}(it:Addr)(lo:Int)(n:Nat):Turn P w K tg (Itr lo n) [it] it (λi h=>IsRangeIter h it (lo+(i:Nat)*1) ((n:Int)-(i:Nat)) 1) where
 mem:=by simp
 obj:=λi h st b hb=>by
  have e:b=it:=by simpa using hb
  subst e
  exact ⟨_,st,λv z=>by
   have z':Data.fields _=Data.cell v:=z
   cases z'⟩
 keep:=λi h h' st k=>k it (by simp) _ st
 item:=by
  intro X hP hw hK hc i pins s σ H E I hf st hg
  subst hP hw hK
  obtain ⟨f0,f1,f2,f3,f4,f5⟩:=hf it (by simp)
  have W:=Walks.range (prog:=X.prog) (w:=X.w) (I.ok.hd hc) it lo 1 n
  refine W.item i s _ _ hg st λv h' tk hv st' kk =>?_
  obtain ⟨t,rfl⟩:=hv
  have I1:Inv X pins σ H { s with heap:=h',toks:=tk }:=I.turned (λb o hb e=>kk b o (by simpa using hb) e) f0 f1 f3 f4 f5
  refine ⟨_,rfl,mq (s:={ s with heap:=h',toks:=tk }) (n := "range_iterator") st' rfl rfl (by decide) ⟨.int (lo+i),H,I1,⟨t,?_⟩,⟨rfl,rfl⟩,st',λb hb=>(hf b hb).1⟩⟩
  rw[Int.mul_one]
 done:=by
  intro X hP hw hK hc i pins s σ H E I hf st hg
  subst hP hw hK
  obtain ⟨f0,f1,f2,f3,f4,f5⟩:=hf it (by simp)
  exact wpAny_pyNext_range_end (I.ok.hd hc) st (by have:n<=i:=hg;omega) λh' eb=>⟨rfl,I.turned (t':=s.toks) (λb o hb e=>eb b o hb e) f0 f1 f3 f4 f5⟩
 self:=λ_ _ _ _ _ st h=>wpAny_pyIter_rangeiter st h
open PySem PySem.Spec PyProof.Rows
section
variable  {X:Cx}{tg:Expr}
def u9 (K:vV)(tl:TE):TI:=λσ H R=>tl σ H λx H1=>∃a,x = .ref a/\(∃xs,SqL K H1 a xs)/\R (Itl K a) H1
def iTup (K:vV)(tl:TE):TI:=λσ H R=>tl σ H λx H1=>∃a,x = .ref a/\(∃xs,SqT K H1 a xs)/\R (Itt K a) H1
theorem dQ {l:Expr}{tl:TE}(hl:PE X l tl):PI X tg l (u9 X.K tl):=by
 intro pins s σ H R I h
 refine thn (hl pins s σ H _ I h) λv s1 ⟨x,H1,I1,r1,q1⟩ =>?_
 obtain ⟨a,e,⟨xs,hq⟩,q⟩:=q1
 subst e
 cases r1
 obtain ⟨its,rv,p,hz⟩:=I1.list hq
 refine AF p.isList ?_
 refine ⟨s1.heap.objs.size,[s1.heap.objs.size],_,_,H1,rfl,I1.kept (t':=s1.toks) λb o e=>vO _ e,nE a _,⟨_,v9 _ rfl,rfl,rfl⟩,λb hb =>?_,q⟩
 have e:b=s1.heap.objs.size:=by simpa using hb
 subst e
 exact I1.oZ (vS _) (I1.hok.fresh (vS _))
theorem o5 {l:Expr}{tl:TE}(hl:PE X l tl):PI X tg l (iTup X.K tl):=by
 intro pins s σ H R I h
 refine thn (hl pins s σ H _ I h) λv s1 ⟨x,H1,I1,r1,q1⟩ =>?_
 obtain ⟨a,e,⟨xs,hq⟩,q⟩:=q1
 subst e
 cases r1
 obtain ⟨its,rv,p,hz⟩:=I1.tuple hq
 refine yD (show s1.heap.IsTuple a its.toArray from p) ?_
 refine ⟨s1.heap.objs.size,[s1.heap.objs.size],_,_,H1,rfl,I1.kept (t':=s1.toks) λb o e=>vO _ e,k5 a _,⟨_,v9 _ rfl,rfl,rfl⟩,λb hb =>?_,q⟩
 have e:b=s1.heap.objs.size:=by simpa using hb
 subst e
 exact I1.oZ (vS _) (I1.hok.fresh (vS _))
theorem j3 {pins:List (Addr×Obj)}{σ:St}{H:Hp}{s:vR}{R:It->Hp->Prop}{E:vP->vR->Prop}{lo hi:Int}{t u v:Tok}{tk:Nat}(I:Inv X pins σ H s)(h1 : -(2 ^ 62)<=lo)(h2:lo<2 ^ 62)(h3 : -(2 ^ 62)<=hi)(h4:hi<2 ^ 62)
  (q:R (Itr lo (hi-lo).toNat) H):wA (wI X.prog X.w) X.A (pyIter (.ref s.heap.objs.size)) (PIE X pins σ tg R) E { s with heap:=s.heap.push { cls :=.type "range",data :=.fields #[.int lo t,.int hi u,.int 1 v] },toks:=tk }:=by
 refine wpAny_pyIter_range (IsRange.new ..) (small_one h1 h2 h3 h4) ?_
 have I1:Inv X pins σ H { s with heap:=s.heap.push { cls :=.type "range",data :=.fields #[.int lo t,.int hi u,.int 1 v] },toks:=tk }:=I.kept λb o e=>vO _ e
 refine ⟨(s.heap.push { cls :=.type "range",data :=.fields #[.int lo t,.int hi u,.int 1 v] }).objs.size,[(s.heap.push { cls :=.type "range",data :=.fields #[.int lo t,.int hi u,.int 1 v] }).objs.size],_,_,H,rfl,
  I1.kept (t':=tk) λb o e=>vO _ e,k7 _ lo (hi-lo).toNat,?_,λb hb =>?_,q⟩
 ·have e1:lo+((0:Nat):Int)*1=lo:=by simp
  have e2:(((hi-lo).toNat:Nat):Int)-((0:Nat):Int)=Builtin.Range.rangeSize lo hi 1:=by rw[rangeSize_one];split <;> omega
  show IsRangeIter _ _ (lo+((0:Nat):Int)*1) ((((hi-lo).toNat:Nat):Int)-((0:Nat):Int)) 1
  rw[e1,e2]
  exact v9 _ rfl
 ·have e:b=(s.heap.push { cls :=.type "range",data :=.fields #[.int lo t,.int hi u,.int 1 v] }).objs.size:=by simpa using hb
  subst e
  exact I1.oZ (vS _) (I1.hok.fresh (vS _))
def va (ta:TA):TI:=λσ H R=>ta σ H λvs H1=>∃j:Int,vs=[.int j] /\ -(2 ^ 62)<=j/\j<2 ^ 62/\R (Itr 0 j.toNat) H1
def vb (ta:TA):TI:=λσ H R=>ta σ H λvs H1=>∃i j:Int,vs=[.int i,.int j]/\(-(2 ^ 62)<=i/\i<2 ^ 62 /\ -(2 ^ 62)<=j/\j<2 ^ 62)/\R (Itr i (j-i).toNat) H1
theorem bB {a:Expr}{ta:TA}{p pos:Pos}(hg:Gl X "range")(hm:X.mg "range" = none)(ha:PA X [a] ta)(hs:xb [a] X.env=[(false,eval a X.env)]:=by rfl):PI X tg (.Call (.Name "range" p) [a] [] pos) (va ta):=by
 intro pins s σ H R I h
 refine Call_ (cR I hg hm boot_range (xu (thn (ha pos pins s σ H _ I h) λus s1 ⟨vs,H1,I1,r1,q1⟩ =>?_) hs rfl))
 obtain ⟨j,e,q1,q2,q⟩:=q1
 subst e
 cases r1 with
 | cons r rr =>
  cases rr
  obtain ⟨t,rfl⟩:=r
  exact call_range_1 (j3 I1 (by omega) (by omega) q1 q2 (by simpa using q))
theorem dR {a b:Expr}{ta:TA}{p pos:Pos}(hg:Gl X "range")(hm:X.mg "range" = none)(ha:PA X [a,b] ta)(hs:xb [a,b] X.env=[(false,eval a X.env),(false,eval b X.env)]:=by rfl)(hs2:xb [b] X.env=[(false,eval b X.env)]:=by rfl) :
  PI X tg (.Call (.Name "range" p) [a,b] [] pos) (vb ta):=by
 intro pins s σ H R I h
 refine Call_ (cR I hg hm boot_range (xu (thn (ha pos pins s σ H _ I h) λus s1 ⟨vs,H1,I1,r1,q1⟩ =>?_) (by rw[hs,hs2]) (by rw[hs2];rfl)))
 obtain ⟨i,j,e,⟨q1,q2,q3,q4⟩,q⟩:=q1
 subst e
 cases r1 with
 | cons r rr =>
  cases rr with
  | cons r' rr =>
   cases rr
   obtain ⟨t,rfl⟩:=r
   obtain ⟨t',rfl⟩:=r'
   exact call_range_2 (j3 I1 q1 q2 q3 q4 q)
def tFor (wi:TI)(g:TG)(tb:TS):TS:=λD σ H=>wi σ H λJ H1=>∃W:Nat->Nat->St->Hp->Prop,(∃m,W 0 m σ H1)/\∀i m σ H,W i m σ H →
 (J.stop i H/\D.nx σ H)\/(J.go i H/\∃N:St->Hp->Prop,(∀σ' H',N σ' H'->∃m',m'<m/\W (i+1) m' σ' H')/\∀x H',J.yld i H x H'->g x σ H' λσ2 H2=>tb { D with nx:=N,ct:=N,bk:=D.nx } σ2 H2)
def eG (fp:List Addr)(h:Heap):List (Addr×Obj):=fp.filterMap λb=>(h.get? b).map λo=>(b,o)
theorem cG {fp:List Addr}{h:Heap}{b:Addr}{o:Obj}(hb:b∈fp)(e:h.get? b=some o):(b,o)∈eG fp h:=Bm.mpr ⟨b,hb,by rw[e];rfl⟩
theorem iD {fp:List Addr}{h:Heap}{p:Addr×Obj}(hp:p∈eG fp h):p.1∈fp/\h.get? p.1=some p.2:=by
 obtain ⟨b,hb,e⟩:=Bm.mp hp
 cases q:h.get? b with
 | none=>rw[q] at e;cases e
 | some o =>
  rw[q] at e
  have e':(b,o)=p:=wB e
  subst e'
  exact ⟨hb,q⟩
theorem Inv.pinned {pins:List (Addr×Obj)}{σ:St}{H:Hp}{s:vR}{fp:List Addr}(I:Inv X pins σ H s)(hf:∀b∈fp,gz X pins H b)(ho:∀b∈fp,∃o,s.heap.get? b=some o/\∀v,o.data ≠ .cell v):Inv X (pins++eG fp s.heap) σ H s :=
 I.fc λp hp=>(vY.mp hp).elim (λz=>I.pin p (wC _ z)) λz=>by
  obtain ⟨hb,e⟩:=iD z
  obtain ⟨f0,f1,f2,_⟩:=hf p.1 hb
  obtain ⟨o,e',d⟩:=ho p.1 hb
  rw[e] at e';cases e'
  exact ⟨e,f0,f1,f2,d⟩
theorem Inv.cX {pins pl:List (Addr×Obj)}{σ:St}{H:Hp}{s:vR}(I:Inv X (pins++pl) σ H s):Inv X pins σ H s:=I.fc λp hp=>I.pin p (wC _ (yb _ hp))
theorem bO {iter:Expr}{body:List Stmt}{wi:TI}{g:TG}{tb:TS}{pos:Pos}(hp:PassesOwn (wI X.prog X.w) X.A X.env X.xe)(hc:X.calm=true)(hi:PI X tg iter wi)(hg:PG X tg g)(hb:PSs X body tb)
  (hs:∀x,foldedSetIterable iter X.env x=pure x:=by intro _;rfl):PS X (.For tg iter body [] pos) (tFor wi g tb):=by
 intro pins s σ H D I h
 refine wpAny_For (thn (hi pins s σ H _ I h) λv s1 h1=>thn h1 λitv s2 h2 =>?_) hs
 obtain ⟨it,fp,tn,J,H2,e,I2,T,st2,f2,W,⟨m0,w0⟩,turn⟩:=h2
 subst e
 have stat:∀{H':Hp},(∀b∈fp,H' b=none)->∀b∈fp,gz X pins H' b:=λhn b hb=>⟨hn b hb,(f2 b hb).2⟩
 refine codeAny_forLoop_any (λn s'=>∃i σ' H',Inv X pins σ' H' s'/\tn i s'.heap/\(∀b∈fp,H' b=none)/\W i n σ' H') ?_ m0 ⟨0,σ,H2,I2,st2,λb hb=>(f2 b hb).1,w0⟩
 rintro n s3 ⟨i,σ3,H3,I3,st3,fr3,w3⟩
 rcases turn i n σ3 H3 w3 with ⟨stop,qn⟩ | ⟨go,N,hN,step⟩
 ·refine zq hp (thn (T.done X rfl rfl rfl hc i pins s3 σ3 H3 X.xe I3 (stat fr3) st3 stop) λr s4 ⟨hr,I4⟩ =>?_)
  subst hr
  exact Bc ⟨σ3,H3,I4,qn⟩
 ·refine zq hp (thn (T.item X rfl rfl rfl hc i pins s3 σ3 H3 X.xe I3 (stat fr3) st3 go) λr s4 ⟨u,hr,h4⟩ =>?_)
  subst hr
  refine zq hp (thn h4 λ_ s5 ⟨x,H5,I5,r5,y5,st5,fr5⟩ =>?_)
  have I5':=I5.pinned (stat fr5) (T.obj _ _ st5)
  refine zq hp (thn (hg _ s5 σ3 H5 x u _ I5' r5 (step x H5 y5)) λ_ s6 ⟨σ6,H6,I6,q6⟩ =>?_)
  refine zq hp (thn (hb _ s6 σ6 H6 _ I6 q6) λf s7 q7 =>?_)
  have again:∀{σ7:St} {H7:Hp},Inv X (pins++eG fp s5.heap) σ7 H7 s7->N σ7 H7->∃m,m<n/\∃i σ' H',Inv X pins σ' H' s7/\tn i s7.heap/\(∀b∈fp,H' b=none)/\W i m σ' H':=λ{σ7 H7} I7 n7=>by
   obtain ⟨m',hm,w7⟩:=hN σ7 H7 n7
   refine ⟨m',hm,i+1,σ7,H7,I7.cX,T.keep _ _ _ st5 λb hb o e=>(I7.pin (b,o) (wC _ (wC _ (cG hb e)))).1,λb hb =>?_,w7⟩
   obtain ⟨o,e,d⟩:=T.obj _ _ st5 b hb
   exact (I7.pin (b,o) (wC _ (wC _ (cG hb e)))).2.1
  cases f with
  | next=>obtain ⟨σ7,H7,I7,n7⟩:=q7;exact again I7 n7
  | cont=>obtain ⟨σ7,H7,I7,n7⟩:=q7;exact again I7 n7
  | brk=>obtain ⟨σ7,H7,I7,q7⟩:=q7;exact ⟨σ7,H7,I7.cX,q7⟩
  | ret v=>obtain ⟨x7,σ7,H7,I7,r7,q7⟩:=q7;exact ⟨x7,σ7,H7,I7.cX,r7,q7⟩
end
theorem j4 {K:vV}{a:Addr}{xs:List V}{g:TG}{tb:TS}{D:Ends}{σ:St}{H:Hp}(Pv:Nat->St->Hp->Prop)(h0:Pv 0 σ H)(hl:∀i σ H,i<=xs.length->Pv i σ H->SqL K H a xs)
  (hs:∀i x σ H,xs[i]? = some x->Pv i σ H->g x σ H λσ2 H2=>tb { D with nx:=Pv (i+1),ct:=Pv (i+1),bk:=D.nx } σ2 H2) (hd:∀σ H,Pv xs.length σ H->D.nx σ H) :
  ∃W:Nat->Nat->St->Hp->Prop,(∃m,W 0 m σ H)/\∀i m σ H,W i m σ H →
   ((Itl K a).stop i H/\D.nx σ H)\/((Itl K a).go i H/\∃N:St->Hp->Prop,(∀σ' H',N σ' H'->∃m',m'<m/\W (i+1) m' σ' H')/\∀x H',(Itl K a).yld i H x H'->g x σ H' λσ2 H2=>tb { D with nx:=N,ct:=N,bk:=D.nx } σ2 H2):=by
 refine ⟨λi m σ H=>m=xs.length-i/\i<=xs.length/\Pv i σ H,⟨xs.length,by simp,wM _,h0⟩,?_⟩
 rintro i m σ H ⟨rfl,hi,p⟩
 have q:=hl i σ H hi p
 by_cases hlt:i<xs.length
 ·refine .inr ⟨⟨xs,xs[i],q,by simp[hlt]⟩,Pv (i+1),λσ' H' p'=>⟨xs.length-(i+1),by omega,rfl,hlt,p'⟩,λx H' y =>?_⟩
  obtain ⟨e,y⟩:=y
  subst e
  exact hs i x σ _ (y xs q) p
 ·have e:i=xs.length:=by omega
  subst e
  exact .inl ⟨⟨xs,q,vS _⟩,hd σ H p⟩
theorem ri {K:vV}{a:Addr}{xs:List V}{g:TG}{tb:TS}{D:Ends}{σ:St}{H:Hp}(Pv:Nat->St->Hp->Prop)(h0:Pv 0 σ H)(hl:∀i σ H,i<=xs.length->Pv i σ H->SqT K H a xs)
  (hs:∀i x σ H,xs[i]? = some x->Pv i σ H->g x σ H λσ2 H2=>tb { D with nx:=Pv (i+1),ct:=Pv (i+1),bk:=D.nx } σ2 H2) (hd:∀σ H,Pv xs.length σ H->D.nx σ H) :
  ∃W:Nat->Nat->St->Hp->Prop,(∃m,W 0 m σ H)/\∀i m σ H,W i m σ H →
   ((Itt K a).stop i H/\D.nx σ H)\/((Itt K a).go i H/\∃N:St->Hp->Prop,(∀σ' H',N σ' H'->∃m',m'<m/\W (i+1) m' σ' H')/\∀x H',(Itt K a).yld i H x H'->g x σ H' λσ2 H2=>tb { D with nx:=N,ct:=N,bk:=D.nx } σ2 H2):=by
 refine ⟨λi m σ H=>m=xs.length-i/\i<=xs.length/\Pv i σ H,⟨xs.length,by simp,wM _,h0⟩,?_⟩
 rintro i m σ H ⟨rfl,hi,p⟩
 have q:=hl i σ H hi p
 by_cases hlt:i<xs.length
 ·refine .inr ⟨⟨xs,xs[i],q,by simp[hlt]⟩,Pv (i+1),λσ' H' p'=>⟨xs.length-(i+1),by omega,rfl,hlt,p'⟩,λx H' y =>?_⟩
  obtain ⟨e,y⟩:=y
  subst e
  exact hs i x σ _ (y xs q) p
 ·have e:i=xs.length:=by omega
  subst e
  exact .inl ⟨⟨xs,q,vS _⟩,hd σ H p⟩
theorem bC {lo:Int}{n:Nat}{g:TG}{tb:TS}{D:Ends}{σ:St}{H:Hp}(Pv:Nat->St->Hp->Prop)(h0:Pv 0 σ H)
  (hs:∀i σ H,i<n->Pv i σ H->g (.int (lo+i)) σ H λσ2 H2=>tb { D with nx:=Pv (i+1),ct:=Pv (i+1),bk:=D.nx } σ2 H2) (hd:∀σ H,Pv n σ H->D.nx σ H) :
  ∃W:Nat->Nat->St->Hp->Prop,(∃m,W 0 m σ H)/\∀i m σ H,W i m σ H →
   ((Itr lo n).stop i H/\D.nx σ H)\/((Itr lo n).go i H/\∃N:St->Hp->Prop,(∀σ' H',N σ' H'->∃m',m'<m/\W (i+1) m' σ' H')/\∀x H',(Itr lo n).yld i H x H'->g x σ H' λσ2 H2=>tb { D with nx:=N,ct:=N,bk:=D.nx } σ2 H2):=by
 refine ⟨λi m σ H=>m=n-i/\i<=n/\Pv i σ H,⟨n,by simp,wM _,h0⟩,?_⟩
 rintro i m σ H ⟨rfl,hi,p⟩
 by_cases hlt:i<n
 ·refine .inr ⟨hlt,Pv (i+1),λσ' H' p'=>⟨n-(i+1),by omega,rfl,hlt,p'⟩,λx H' y =>?_⟩
  obtain ⟨e,y⟩:=y
  subst e y
  exact hs i σ _ hlt p
 ·have e:i=n:=by omega
  subst e
  exact .inl ⟨vS _,hd σ H p⟩
theorem o6 {c:TT}{tb:TS}{D:Ends}{σ:St}{H:Hp}(Pv:St->Hp->Prop)(μ:St->Hp->Nat)(h0:Pv σ H)
  (hs:∀σ H,Pv σ H->c σ H λb H1=>if b=true then tb { D with nx:=λσ' H'=>Pv σ' H' /\ μ σ' H'<μ σ H,ct:=λσ' H'=>Pv σ' H' /\ μ σ' H'<μ σ H,bk:=D.nx } σ H1 else D.nx σ H1)
  (mono:∀σ H Q Q',(∀b H1,Q b H1->Q' b H1)->c σ H Q->c σ H Q'):oX c tb D σ H:=by
 refine ⟨λm σ H=>m=μ σ H/\Pv σ H,⟨_,rfl,h0⟩,?_⟩
 rintro m σ H ⟨rfl,p⟩
 refine mono σ H _ _ (λb H1 q =>?_) (hs σ H p)
 cases b with
 | true=>exact ⟨_,λσ' H' ⟨p',l⟩=>⟨_,l,rfl,p'⟩,q⟩
 | false=>exact q
open PySem PySem.Spec PyProof.Rows
abbrev R2:=V->V->Hp->VK->Prop
def OpR (X:Cx)(f:vP->vP->Sem vP)(r:R2):Prop :=
 ∀(pins:List (Addr×Obj)) (s:vR) (σ:St) (H:Hp) (x y:V) (v u:vP) (Q:VK),Inv X pins σ H s->RelV x v->RelV y u->r x y H Q →
  wA (wI X.prog X.w) X.A (f v u) (EP X pins σ Q) X.xe s
def UnR (X:Cx)(f:vP->Sem vP)(r:V->Hp->VK->Prop):Prop :=
 ∀(pins:List (Addr×Obj)) (s:vR) (σ:St) (H:Hp) (x:V) (v:vP) (Q:VK),Inv X pins σ H s->RelV x v->r x H Q →
  wA (wI X.prog X.w) X.A (f v) (EP X pins σ Q) X.xe s
def cc (X:Cx)(f:vP)(r:List V->Hp->VK->Prop):Prop :=
 ∀(pins:List (Addr×Obj)) (s:vR) (σ:St) (H:Hp) (xs:List V) (us:List vP) (Q:VK),Inv X pins σ H s->Vals xs us->r xs H Q →
  wA (wI X.prog X.w) X.A (call f us) (EP X pins σ Q) X.xe s
def tOp (r:R2)(ta tb:TE):TE:=λσ H Q=>ta σ H λx H1=>tb σ H1 λy H2=>r x y H2 Q
def tUn (r:V->Hp->VK->Prop)(ta:TE):TE:=λσ H Q=>ta σ H λx H1=>r x H1 Q
def rI (C:Int->Int->Prop)(g:Int->Int->V):R2:=λx y H Q=>∃i j,x = .int i/\y = .int j/\C i j/\Q (g i j) H
def rI0 (g:Int->Int->V):R2:=λx y H Q=>∃i j,x = .int i/\y = .int j/\Q (g i j) H
def rU (g:Int->V):V->Hp->VK->Prop:=λx H Q=>∃i,x = .int i/\Q (g i) H
section
variable  {X:Cx}{a b c:Expr}{ta tb tc:TE}{pos:Pos}
theorem tZ (ha:PE X a ta)(hb:PE X b tb){pins:List (Addr×Obj)}{s:vR}{σ:St}{H:Hp}{R:V->V->Hp->Prop}(I:Inv X pins σ H s)
  (h:ta σ H λx H1=>tb σ H1 λy H2=>R x y H2) {Q:vP->vR->Prop} {f:vP->vP->Sem vP}
  (hf:∀v u s2 x y H2,Inv X pins σ H2 s2->RelV x v->RelV y u->R x y H2->wA (wI X.prog X.w) X.A (f v u) Q X.xe s2) :
  wA (wI X.prog X.w) X.A (eval a X.env) (λv s₁=>wA (wI X.prog X.w) X.A (eval b X.env) (λu s₂=>wA (wI X.prog X.w) X.A (f v u) Q X.xe s₂) X.xe s₁) X.xe s:=by
 refine thn (ha pins s σ H _ I h) λv s1 ⟨x,H1,I1,r1,q1⟩ =>?_
 refine thn (hb pins s1 σ H1 _ I1 q1) λu s2 ⟨y,H2,I2,r2,q2⟩ =>?_
 exact hf v u s2 x y H2 I2 r1 r2 q2
theorem aE {op:Operator}{r:R2}(ho:OpR X (binaryOp op) r)(ha:PE X a ta)(hb:PE X b tb):PE X (.BinOp a op b pos) (tOp r ta tb):=by
 intro pins s σ H Q I h
 exact wpAny_BinOp (tZ ha hb I h λv u s2 x y H2 I2 rx ry q=>ho pins s2 σ H2 x y v u Q I2 rx ry q)
theorem mv {op:UnaryOp}{r:V->Hp->VK->Prop}(ho:UnR X (unaryOp op) r)(ha:PE X a ta):PE X (.UnaryOp op a pos) (tUn r ta):=by
 intro pins s σ H Q I h
 exact UnaryOp_ (thn (ha pins s σ H _ I h) λv s1 ⟨x,H1,I1,r1,q1⟩=>ho pins s1 σ H1 x v Q I1 r1 q1)
theorem opI {f:vP->vP->Sem vP}{C:Int->Int->Prop}{g:Int->Int->Int}
  (rule:∀(i j:Int) (t u:Tok) (s:vR) (Q:vP->vR->Prop) (E:vP->vR->Prop),C i j->Q (.int (g i j) s.toks) { s with toks:=s.toks+1 }->wA (wI X.prog X.w) X.A (f (.int i t) (.int j u)) Q E s) :
  OpR X f (rI C λi j =>.int (g i j)):=by
 intro pins s σ H x y v u Q I rx ry h
 obtain ⟨i,j,rfl,rfl,hc,q⟩:=h
 obtain ⟨t,rfl⟩:=rx
 obtain ⟨t',rfl⟩:=ry
 exact rule i j t t' s _ _ hc ⟨.int (g i j),H,I.tok _,⟨_,rfl⟩,q⟩
theorem vc {f:vP->vP->Sem vP}{g:Int->Int->Int}
  (rule:∀(i j:Int) (t u:Tok) (s:vR) (Q:vP->vR->Prop) (E:vP->vR->Prop),Q (.int (g i j) s.toks) { s with toks:=s.toks+1 }->wA (wI X.prog X.w) X.A (f (.int i t) (.int j u)) Q E s) :
  OpR X f (rI0 λi j =>.int (g i j)):=by
 intro pins s σ H x y v u Q I rx ry h
 obtain ⟨i,j,rfl,rfl,q⟩:=h
 obtain ⟨t,rfl⟩:=rx
 obtain ⟨t',rfl⟩:=ry
 exact rule i j t t' s _ _ ⟨.int (g i j),H,I.tok _,⟨_,rfl⟩,q⟩
theorem rj {f:vP->vP->Sem vP}{g:Int->Int->Bool}
  (rule:∀(i j:Int) (t u:Tok) (s:vR) (Q:vP->vR->Prop) (E:vP->vR->Prop),Q (.bool (g i j)) s->wA (wI X.prog X.w) X.A (f (.int i t) (.int j u)) Q E s) :
  OpR X f (rI0 λi j =>.bl (g i j)):=by
 intro pins s σ H x y v u Q I rx ry h
 obtain ⟨i,j,rfl,rfl,q⟩:=h
 obtain ⟨t,rfl⟩:=rx
 obtain ⟨t',rfl⟩:=ry
 exact rule i j t t' s _ _ ⟨.bl (g i j),H,I,rfl,q⟩
def CDiv (i j:Int):Prop:=0<j/\j<1073741824
def CPow (i j:Int):Prop:=0<=j/\j<=1000000/\i.natAbs<2 ^ 64
def t4 (i j:Int):Prop:=(-(2 ^ 64)<i/\i<2 ^ 64)\/(-(2 ^ 64)<j/\j<2 ^ 64)
theorem t4.ok {i j:Int}(h:t4 i j):IntMulOk i j:=by
 rcases h with ⟨h1,h2⟩ | ⟨h1,h2⟩
 ·exact .of_left (intBits_le_64 h1 h2)
 ·exact .of_right (intBits_le_64 h1 h2)
theorem bP:OpR X (binaryOp .Add) (rI0 λi j =>.int (i+j)):=vc λ_ _ _ _ _ _ _ q=>add_int q
theorem bU:OpR X (binaryOp .Sub) (rI0 λi j =>.int (i-j)):=vc λ_ _ _ _ _ _ _ q=>sub_int q
theorem di:OpR X (binaryOp .Mult) (rI t4 λi j =>.int (i*j)):=opI λ_ _ _ _ _ _ _ hc q=>mul_int q hc.ok
theorem mw:OpR X (binaryOp .FloorDiv) (rI CDiv λi j =>.int (i/j)):=opI λi j _ _ _ _ _ hc q=>by
 have h1:(0:Int)<j:=hc.1
 have h2:j<1073741824:=hc.2
 exact floordiv_int (by omega) (by rw[Be i (by omega)];exact q) (.inl (PyProof.noPylong_small (by omega)))
theorem dj:OpR X (binaryOp .Mod) (rI (λ_ j=>0<j) λi j =>.int (i%j)):=opI λi j _ _ _ _ _ hc q=>by
 have h1:(0:Int)<j:=hc
 exact mod_int' (by omega) (by rw[Bf i (by omega)];exact q)
theorem jt:OpR X (binaryOp .Pow) (rI CPow λi j =>.int (i ^ j.toNat)):=opI λ_ _ _ _ _ _ _ hc q=>pow_int_small hc.1 hc.2.1 hc.2.2 q
theorem unI {f:vP->Sem vP}{g:Int->Int}
  (rule:∀(i:Int) (t:Tok) (s:vR) (Q:vP->vR->Prop) (E:vP->vR->Prop),Q (.int (g i) s.toks) { s with toks:=s.toks+1 }->wA (wI X.prog X.w) X.A (f (.int i t)) Q E s) :
  UnR X f (rU λi =>.int (g i)):=by
 intro pins s σ H x v Q I rx h
 obtain ⟨i,rfl,q⟩:=h
 obtain ⟨t,rfl⟩:=rx
 exact rule i t s _ _ ⟨.int (g i),H,I.tok _,⟨_,rfl⟩,q⟩
theorem ju:UnR X (unaryOp .USub) (rU λi =>.int (-i)):=unI λ_ _ _ _ _ q=>neg_int q
end
def vd:V->V->Bool
 | .non,.non=>true | .non,.int _=>true | .int _,.non=>true | .non,.bl _=>true | .bl _,.non=>true | .non,.str _=>true | .str _,.non=>true
 | .int _,.int _=>true | .bl _,.bl _=>true | .str _,.str _=>true | .byt _,.byt _=>true
 | .int _,.str _=>true | .str _,.int _=>true | .bl _,.str _=>true | .str _,.bl _=>true
 | _,_=>false
def rEq:R2:=λx y H Q=>vd x y=true/\Q (.bl (decide (x=y))) H
def rNe:R2:=λx y H Q=>vd x y=true/\Q (.bl (!decide (x=y))) H
theorem my {i j:Int}:decide (V.int i=V.int j)=(i == j):=by
 rw[yQ]
 simp
theorem o7 {i j:Bool}:decide (V.bl i=V.bl j)=(i == j):=by
 rw[yQ]
 simp
theorem mz {i j:Str}:decide (V.str i=V.str j)=(i == j):=by
 rw[yQ]
 simp
theorem mB {i j:Array UInt8}:decide (V.byt i=V.byt j)=(i.toList == j.toList):=by
 rw[yQ]
 cases i
 cases j
 simp
section
variable  {X:Cx}{a b c:Expr}{ta tb tc:TE}{pos:Pos}
theorem aV {pins:List (Addr×Obj)}{σ:St}{H:Hp}{s:vR}{Q:VK}{k k':Bool}(I:Inv X pins σ H s)(q:Q (.bl k) H)(e:k=k'):EP X pins σ Q (.bool k') s:=by
 subst e
 exact ⟨.bl k,H,I,rfl,q⟩
theorem bV:OpR X (yp .Eq) rEq:=by
 intro pins s σ H x y v u Q I rx ry h
 obtain ⟨hs,q⟩:=h
 cases x with
 | non =>
  cases rx
  cases y with
  | non=>cases ry;exact PySem.EqNone.eq_none_none (aV I q (by simp))
  | bl j=>cases ry;exact PySem.EqNone.eq_none_bool (aV I q (by simp))
  | int j=>obtain ⟨t',rfl⟩:=ry;exact PySem.EqNone.eq_none_int (aV I q (by simp))
  | str j=>obtain ⟨t',rfl⟩:=ry;exact PySem.EqNone.eq_none_str (aV I q (by simp))
  | _=>exact absurd (show false=true from hs) wa
 | bl i =>
  cases rx
  cases y with
  | non=>cases ry;exact PySem.EqNone.eq_bool_none (aV I q (by simp))
  | bl j=>cases ry;exact eq_bool (aV I q o7)
  | str j=>obtain ⟨t',rfl⟩:=ry;exact DF (aV I q (by simp))
  | _=>exact absurd (show false=true from hs) wa
 | int i =>
  obtain ⟨t,rfl⟩:=rx
  cases y with
  | non=>cases ry;exact PySem.EqNone.eq_int_none (aV I q (by simp))
  | int j=>obtain ⟨t',rfl⟩:=ry;exact eq_int (aV I q my)
  | str j=>obtain ⟨t',rfl⟩:=ry;exact DN (aV I q (by simp))
  | _=>exact absurd (show false=true from hs) wa
 | str i =>
  obtain ⟨t,rfl⟩:=rx
  cases y with
  | non=>cases ry;exact PySem.EqNone.eq_str_none (aV I q (by simp))
  | bl j=>cases ry;exact DG (aV I q (by simp))
  | int j=>obtain ⟨t',rfl⟩:=ry;exact DP (aV I q (by simp))
  | str j=>obtain ⟨t',rfl⟩:=ry;exact eq_str (aV I q mz)
  | _=>exact absurd (show false=true from hs) wa
 | byt i =>
  obtain ⟨t,rfl⟩:=rx
  cases y with
  | byt j=>obtain ⟨t',rfl⟩:=ry;exact PySem.W.eq_bytes (aV I q mB)
  | _=>exact absurd (show false=true from hs) wa
 | _=>cases y <;> exact absurd (show false=true from hs) wa
theorem o8:OpR X (yp .NotEq) rNe:=by
 intro pins s σ H x y v u Q I rx ry h
 obtain ⟨hs,q⟩:=h
 cases x with
 | non =>
  cases rx
  cases y with
  | non=>cases ry;exact PySem.EqNone.ne_none_none (aV I q (by simp))
  | bl j=>cases ry;exact PySem.EqNone.ne_none_bool (aV I q (by simp))
  | int j=>obtain ⟨t',rfl⟩:=ry;exact PySem.EqNone.ne_none_int (aV I q (by simp))
  | str j=>obtain ⟨t',rfl⟩:=ry;exact PySem.EqNone.ne_none_str (aV I q (by simp))
  | _=>exact absurd (show false=true from hs) wa
 | bl i =>
  cases rx
  cases y with
  | non=>cases ry;exact PySem.EqNone.ne_bool_none (aV I q (by simp))
  | bl j=>cases ry;exact ne_bool (aV I q (congrArg not o7))
  | str j=>obtain ⟨t',rfl⟩:=ry;exact DH (aV I q (by simp))
  | _=>exact absurd (show false=true from hs) wa
 | int i =>
  obtain ⟨t,rfl⟩:=rx
  cases y with
  | non=>cases ry;exact PySem.EqNone.ne_int_none (aV I q (by simp))
  | int j=>obtain ⟨t',rfl⟩:=ry;exact ne_int (aV I q (congrArg not my))
  | str j=>obtain ⟨t',rfl⟩:=ry;exact DQ (aV I q (by simp))
  | _=>exact absurd (show false=true from hs) wa
 | str i =>
  obtain ⟨t,rfl⟩:=rx
  cases y with
  | non=>cases ry;exact PySem.EqNone.ne_str_none (aV I q (by simp))
  | bl j=>cases ry;exact DI (aV I q (by simp))
  | int j=>obtain ⟨t',rfl⟩:=ry;exact DR (aV I q (by simp))
  | str j=>obtain ⟨t',rfl⟩:=ry;exact ne_str (aV I q (congrArg not mz))
  | _=>exact absurd (show false=true from hs) wa
 | byt i =>
  obtain ⟨t,rfl⟩:=rx
  cases y with
  | byt j=>obtain ⟨t',rfl⟩:=ry;exact PySem.W.ne_bytes (aV I q (congrArg not mB))
  | _=>exact absurd (show false=true from hs) wa
 | _=>cases y <;> exact absurd (show false=true from hs) wa
theorem fT:OpR X (yp .Lt) (rI0 λi j =>.bl (decide (i<j))):=rj λ_ _ _ _ _ _ _ q=>lt_int q
theorem sU:OpR X (yp .LtE) (rI0 λi j =>.bl (decide (i<=j))):=rj λ_ _ _ _ _ _ _ q=>le_int q
theorem gB:OpR X (yp .Gt) (rI0 λi j =>.bl (decide (j<i))):=rj λ_ _ _ _ _ _ _ q=>gt_int q
theorem o9:OpR X (yp .GtE) (rI0 λi j =>.bl (decide (j<=i))):=rj λ_ _ _ _ _ _ _ q=>ge_int q
theorem aI (b:Expr){op:CmpOp}(h:op ≠ .In:=by decide)(h2:op ≠ .NotIn:=by decide):behindInMarks op b=false:=by
 have e1:(op == CmpOp.In)=false:=by cases op <;> first | rfl | exact absurd rfl h
 have e2:(op == CmpOp.NotIn)=false:=by cases op <;> first | rfl | exact absurd rfl h2
 cases b <;> simp[behindInMarks,e1,e2]
theorem gj {op:CmpOp}{r:R2}(ho:OpR X (yp op) r)(ha:PE X a ta)(hb:PE X b tb)(hm:behindInMarks op b=false):PE X (.Compare a [op] [b] pos) (tOp r ta tb):=by
 intro pins s σ H Q I h
 exact wpAny_Compare1 (tZ ha hb I h λv u s2 x y H2 I2 rx ry q=>ho pins s2 σ H2 x y v u Q I2 rx ry q) hm
def ve (t:TE):TT:=λσ H Q=>t σ H λx H'=>∃k,x = .bl k/\Q k H'
theorem aD {op:CmpOp}{r:R2}(ho:OpR X (yp op) r)(ha:PE X a ta)(hb:PE X b tb)(hm:behindInMarks op b=false):PT X (.Compare a [op] [b] pos) (ve (tOp r ta tb)):=by
 intro pins s σ H Q I h
 refine Cj (thn (ha pins s σ H _ I h) λv s1 ⟨x,H1,I1,r1,q1⟩=>thn (hb pins s1 σ H1 _ I1 q1) λu s2 ⟨y,H2,I2,r2,q2⟩ =>
  thn (ho pins s2 σ H2 x y v u _ I2 r1 r2 q2) λc s3 ⟨z,H3,I3,r3,k,e,q3⟩ =>?_) hm
 subst e
 cases r3
 exact yO ⟨H3,I3,q3⟩
def t5 (r r':R2)(ta tb tc:TE):TE:=λσ H Q=>ta σ H λx H1=>tb σ H1 λy H2=>r x y H2 λz H3=>∃k,z = .bl k ∧
 (if k=true then tc σ H3 λw' H4=>r' y w' H4 Q else Q (.bl false) H3)
theorem ph {op op':CmpOp}{r r':R2}(ho:OpR X (yp op) r)(ho':OpR X (yp op') r')(ha:PE X a ta)(hb:PE X b tb)(hc:PE X c tc)
  (hm:lastMarks [op,op'] [b,c]=false:=by with_unfolding_all rfl):PE X (.Compare a [op,op'] [b,c] pos) (t5 r r' ta tb tc):=by
 intro pins s σ H Q I h
 refine Compare_chain (thn (ha pins s σ H _ I h) λv s1 ⟨x,H1,I1,r1,q1⟩=>chain_link (thn (hb pins s1 σ H1 _ I1 q1) λu s2 ⟨y,H2,I2,r2,q2⟩ =>
  thn (ho pins s2 σ H2 x y v u _ I2 r1 r2 q2) λd s3 ⟨z,H3,I3,r3,k,e,q3⟩ =>?_)) hm
 subst e
 cases r3
 refine yO ?_
 cases k with
 | false=>exact ite_ff ⟨.bl false,H3,I3,rfl,q3⟩
 | true=>exact ite_tt (chain_last (thn (hc pins s3 σ H3 _ I3 q3) λw' s4 ⟨z',H4,I4,r4,q4⟩=>ho' pins s4 σ H4 y z' u w' Q I4 r2 r4 q4))
theorem k8:(vZ:Nat)<2 ^ 63:=by rw[AG];decide
theorem vals1 {x:V}{us:List vP}(r:Vals [x] us):∃u,us=[u]/\RelV x u:=by
 cases r with
 | cons r1 r2=>cases r2;exact ⟨_,rfl,r1⟩
theorem vals2 {x y:V}{us:List vP}(r:Vals [x,y] us):∃u w',us=[u,w']/\RelV x u/\RelV y w':=by
 cases r with
 | cons r1 r2 =>
  cases r2 with
  | cons r3 r4=>cases r4;exact ⟨_,_,rfl,r1,r3⟩
theorem dS (hc:X.calm=true):cc X (.builtin "max") (λxs H Q=>∃i j,xs=[.int i,.int j]/\Q (.int (if j>i then j else i)) H):=by
 intro pins s σ H xs us Q I r h
 obtain ⟨i,j,rfl,q⟩:=h
 obtain ⟨u,w',rfl,⟨t,rfl⟩,⟨t',rfl⟩⟩:=vals2 r
 refine max_two_ints (I.ok.hd hc) λh' tk k=>⟨_,H,I.kept k,?_,q⟩
 by_cases hj:j>i
 ·rw[if_pos hj,if_pos hj];exact ⟨_,rfl⟩
 ·rw[if_neg hj,if_neg hj];exact ⟨_,rfl⟩
theorem fJ (hc:X.calm=true):cc X (.builtin "min") (λxs H Q=>∃i j,xs=[.int i,.int j]/\Q (.int (if j<i then j else i)) H):=by
 intro pins s σ H xs us Q I r h
 obtain ⟨i,j,rfl,q⟩:=h
 obtain ⟨u,w',rfl,⟨t,rfl⟩,⟨t',rfl⟩⟩:=vals2 r
 refine min_two_ints (I.ok.hd hc) λh' tk k=>⟨_,H,I.kept k,?_,q⟩
 by_cases hj:j<i
 ·rw[if_pos hj,if_pos hj];exact ⟨_,rfl⟩
 ·rw[if_neg hj,if_neg hj];exact ⟨_,rfl⟩
theorem iE:cc X (.type "int") (λxs H Q=>(∃i,xs=[.int i]/\Q (.int i) H)\/∃k,xs=[.bl k]/\Q (.int (if k then 1 else 0)) H):=by
 intro pins s σ H xs us Q I r h
 rcases h with ⟨i,rfl,q⟩ | ⟨k,rfl,q⟩
 ·obtain ⟨u,rfl,t,rfl⟩:=vals1 r
  exact call_int_int ⟨.int i,H,I,⟨_,rfl⟩,q⟩
 ·obtain ⟨u,rfl,r1⟩:=vals1 r
  cases r1
  exact call_int_bool ⟨.int (if k then 1 else 0),H,I.tok _,⟨_,rfl⟩,q⟩
end
open PySem PySem.Spec PyProof.Rows
structure t6 (h:Heap)(x dx C:Addr)(mA:Str->Option vP):Prop where
 obj:h.get? x=some (PySem.W.instObj C dx)
 ns:h.Ns1 dx mA
 ne:dx≠x
theorem nF {h:Heap}{dx:Addr}{mA:Str->Option vP}(n:h.Ns1 dx mA):∃od,h.get? dx=some od/\∀name,PySem.W.lookIn name od=some (mA name):=by
 obtain ⟨o,es,ep,ho,hd,hk,_,hm⟩:=n
 refine ⟨o,ho,λname =>?_⟩
 have e:=hm name
 unfold nsFind findBy at e
 rw[<- Array.find?_toList] at e
 unfold PySem.W.lookIn
 rw[hd]
 dsimp only
 split
 ·rename_i y q
  rw[q] at e
  exact congrArg some e
 ·rename_i q
  rw[q] at e
  have a:es.toList.any (·.refKey)=false:=by
   rw[List.any_eq_false]
   intro y hy
   obtain ⟨z,t,hkey⟩:=hk y (wV.mp hy)
   simp[DictEntry.refKey,hkey]
  have a':¬ es.toList.any (·.refKey)=true:=by rw[a];exact wa
  rw[if_neg a']
  exact congrArg some e
theorem t6.look {h:Heap}{x dx C:Addr}{mA:Str->Option vP}(I:t6 h x dx C mA):∃od,PySem.W.InstAt h x (PySem.W.instObj C dx) C (some od)/\∀name,PySem.W.lookIn name od=some (mA name) :=
 let ⟨od,ho,hl⟩:=nF I.ns
 ⟨od,⟨I.obj,rfl,rfl,ho⟩,hl⟩
section
variable  {prog:wu}{w:w4}{A:w6}{E:vP->vR->Prop}{s:vR}{K:vV}{x dx C f:Addr}{mA:Str->Option vP}{name:Str}{v:vP}
end
theorem fH.some_of {v:V}{o:Option vP}(r:fH (some v) o):∃u,o=some u/\RelV v u:=by
 cases o with
 | none=>exact (show False from r).elim
 | some u=>exact ⟨u,rfl,r⟩
section
variable  {P:wu}{w:w4}{H H':Hp}{h h':Heap}{a C dx:Addr}{fs fs':List (Str×V)}
theorem rn (hok:HOk P w H h)(e:H a=some (.ins C dx fs)):∃mA,t6 h a dx C mA/\(∀f,fH (fs.lookup f) (mA f))/\PySem.Within mA (fs.map (·.1))/\fs.length<=1000/\H dx=some (.own a):=by
 obtain ⟨d,z,ne,ob,mA,n,r,q⟩:=(show a6 P w H h a (.ins C dx fs) from hok a _ e)
 exact ⟨mA,⟨ob,n,ne⟩,r,q,z,d⟩
end
structure Cls (K:vV)(C:Addr):Prop where
 pg:PySem.W.plainGet K C Str.empty=true
 hd:PySem.W.hasDictIn K C=true
 po:PySem.W.plainOver K C=true
 sa:PySem.W.findIn K (.ref C) "__setattr__" = some (some (.builtin "object.__setattr__"))
theorem Cls.get {K:vV}{C:Addr}(c:Cls K C)(f:Str):PySem.W.plainGet K C f=true:=c.pg
section
variable  {X:Cx}{pins:List (Addr×Obj)}{σ:St}{H:Hp}{s:vR}{a C dx:Addr}{fs:List (Str×V)}{f:Str}{v:V}{A:w6}{E:vP->vR->Prop}
end
section
variable  {X:Cx}{o e value:Expr}{f:Str}{pos pos' tpos:Pos}{ta tv:TE}
end
section
variable  {X:Cx}{pins:List (Addr×Obj)}{σ:St}{H:Hp}{s:vR}{A:w6}{E:vP->vR->Prop}{Q:vP->vR->Prop}{c:vP}{b:Bool}
inductive fK (K:vV)(H:Hp):V->vP->Prop where
 | non:fK K H .non (.type "NoneType")
 | bl (x:Bool):fK K H (.bl x) (.type "bool")
 | int (i:Int):fK K H (.int i) (.type "int")
 | str (x:Str):fK K H (.str x) (.type "str")
 | flt (x:UInt64):fK K H (.flt x) (.type "float")
 | lst {a:Addr} {xs:List V} (e:H a=some (.lst xs)):fK K H (.ref a) (.type "list")
 | frz {a:Addr} {o:Obj} {xs:List V} (e:H a=some (.frz o (.lst xs))):fK K H (.ref a) (.type "list")
 | tup {a:Addr} {xs:List V} (e:H a=some (.tup xs)):fK K H (.ref a) (.type "tuple")
 | dK {a:Addr} {kvs:List (Key×V)} (e:H a=some (.dK kvs)):fK K H (.ref a) (.type "dict")
 | dT {a:Addr} {kvs:List (List Key×V)} (e:H a=some (.dT kvs)):fK K H (.ref a) (.type "dict")
 | ins {a C dx:Addr} {fs:List (Str×V)} (e:H a=some (.ins C dx fs)) (cl:Cls K C) (ha:PySem.W.findIn K (.ref C) "__class__" = some (some (.builtin "object.__class__")))
   (hn:PySem.W.specialIn K (.builtin "object.__class__") "__get__" = some (some (.builtin "getset_descriptor.__get__"))) (htk:PySem.W.takesIn K (.builtin "object.__class__")=some true)
   (hm:PySem.W.mroIn K C (.type "object")=some true):fK K H (.ref a) (.ref C)
theorem nG {x:V}{u t:vP}(I:Inv X pins σ H s)(rx:RelV x u)(ty:fK X.K H x t)(e:PySem.W.kitOne X.K t c=some b)(h:∀tk,Q (.bool b) { s with toks:=tk }) :
  wA (wI X.prog X.w) A (call (.builtin "isinstance") [u,c]) Q E s:=by
 cases ty with
 | non=>cases (show u=yv from rx);exact yd PySem.W.kitx_none I.kIn True.intro e (λz=>nomatch z) h
 | bl y=>cases (show u=Value.bool y from rx);exact yd PySem.W.kitx_bool I.kIn True.intro e (λz=>nomatch z) h
 | int i=>obtain ⟨t,q⟩:=(show ∃t,u=yo i t from rx);cases q;exact yd PySem.W.kitx_int I.kIn True.intro e (λz=>nomatch z) h
 | str y=>obtain ⟨t,q⟩:=(show ∃t,u=Value.str y t from rx);cases q;exact yd PySem.W.kitx_str I.kIn True.intro e (λz=>nomatch z) h
 | flt y=>obtain ⟨t,q⟩:=(show ∃t,u=Value.float y t from rx);cases q;exact yd PySem.W.kitx_float I.kIn True.intro e (λz=>nomatch z) h
 | @lst a xs ea =>
  cases (show u=wz a from rx)
  obtain ⟨_,_,n,_,h1⟩:=(show a6 X.prog X.w H s.heap a (.lst xs) from I.hok a _ ea)
  exact yd CS I.kIn ⟨_,h1,rfl⟩ e (λz=>nomatch z) h
 | @frz a ob xs ea =>
  cases (show u=wz a from rx)
  obtain ⟨_,_,_,n,_,h1⟩:=(show a6 X.prog X.w H s.heap a (.frz ob (.lst xs)) from I.hok a _ ea)
  exact yd CS I.kIn ⟨_,h1,rfl⟩ e (λz=>nomatch z) h
 | @tup a xs ea =>
  cases (show u=wz a from rx)
  obtain ⟨_,_,_,p⟩:=(show a6 X.prog X.w H s.heap a (.tup xs) from I.hok a _ ea)
  obtain ⟨o,h1,h2,_⟩:=p
  exact yd PySem.W.kitx_tuple I.kIn ⟨o,h1,h2.1⟩ e (λz=>nomatch z) h
 | @dK a kvs ea =>
  cases (show u=wz a from rx)
  obtain ⟨_,_,vs,_,p⟩:=(show a6 X.prog X.w H s.heap a (.dK kvs) from I.hok a _ ea)
  obtain ⟨o,es,ep,h1,h2,_⟩:=p
  exact yd CT I.kIn ⟨o,h1,h2.1⟩ e (λz=>nomatch z) h
 | @dT a kvs ea =>
  cases (show u=wz a from rx)
  obtain ⟨_,_,xs,_,o,es,ep,h1,h2,_⟩:=(show a6 X.prog X.w H s.heap a (.dT kvs) from I.hok a _ ea)
  exact yd CT I.kIn ⟨o,h1,h2.1⟩ e (λz=>nomatch z) h
 | @ins a C dx fs ea cl ha hn htk hm =>
  cases (show u=wz a from rx)
  obtain ⟨mA,O,_⟩:=rn I.hok ea
  obtain ⟨od,J,_⟩:=O.look
  exact yd (PySem.W.kitx_own (cl.get _) cl.hd ha hn htk hm) I.kIn J e (λz=>nomatch z) h
end
open PySem PySem.Spec PyProof.Rows
structure cy (k:Nat)(A:w6):Prop where
 hd:A.handled=none
 dp:A.depth+3*k+5<recursionLimit
 un:A.units+16*k+200<cLine
theorem cy.mono {j k:Nat}{A:w6}(r:cy k A)(h:j<=k):cy j A:=⟨r.hd,by have:=r.dp;omega,by have:=r.un;omega⟩
theorem cy.deeper {k:Nat}{A:w6}(r:cy (k+1) A)(env:Env):cy k (A.deeper env) :=
 ⟨r.hd,by have:=r.dp;show A.depth+1+3*k+5<_;omega,by have:=r.un;show A.units+3+16*k+200<_;omega⟩
theorem cy.depth {k:Nat}{A:w6}(r:cy k A):A.depth<recursionLimit:=by have:=r.dp;omega
theorem cy.units {k:Nat}{A:w6}(r:cy k A):A.units+64<cLine:=by have:=r.un;omega
def tNil:TA:=λ_ H Q=>Q [] H
def vf (ta:TE)(tr:TA):TA:=λσ H Q=>ta σ H λx H1=>tr σ H1 λxs H2=>Q (x :: xs) H2
section
variable  {X:Cx}{e:Expr}{es:List Expr}{te:TE}{t:TA}{pos:Pos}
theorem ag:PA X [] tNil:=λ_ _ _ _ H Q I h=>zP ⟨[],H,I,.nil,h⟩
theorem aa (ha:PE X e te)(hr:PA X es t)(hs:xb (e :: es) X.env=(false,eval e X.env) :: xb es X.env:=by rfl):PA X (e :: es) (vf te t):=by
 intro pos pins s σ H Q I h
 rw[hs]
 show wA _ _ (spliced ((false,eval e X.env) :: Aw pos (xb es X.env))) _ _ s
 refine yB (thn (ha pins s σ H _ I h) λu s1 ⟨x,H1,I1,r1,q1⟩ =>?_)
 exact thn (hr pos pins s1 σ H1 _ I1 q1) λus s2 ⟨xs,H2,I2,r2,q2⟩=>⟨x :: xs,H2,I2,.cons r1 r2,q2⟩
def tTup (t:TA):TE:=λσ H Q=>t σ H λxs H1=>xs.length<=vZ/\∀p,H1 p=none->Q (.ref p) (upd H1 p (.tup xs))
def tLst (t:TA):TE:=λσ H Q=>t σ H λxs H1=>xs.length<=vZ/\∀p,H1 p=none->Q (.ref p) (upd H1 p (.lst xs))
theorem aQ {x1}(h:PA X es t):PE X (.Tuple es x1 pos) (tTup t):=by
 intro pins s σ H Q I hq
 refine wpAny_Tuple_spliced (thn (h pos pins s σ H _ I hq) λus s1 ⟨xs,H1,I1,r,z,q⟩=>⟨by rw[<- r.length];exact z,?_⟩)
 have hf:H1 s1.heap.objs.size=none:=I1.hok.fresh (vS _)
 refine ⟨.ref s1.heap.objs.size,upd H1 s1.heap.objs.size (.tup xs),I1.laid (t':=s1.toks) (λb u e=>vO _ e) (vS _) ?_,rfl,q _ hf⟩
 exact ⟨z,us,r,⟨_,v9 _ rfl,⟨rfl,rfl⟩,_,rfl⟩⟩
theorem bZ (h:PA X es t):PE X (.List es pos) (tLst t):=by
 intro pins s σ H Q I hq
 refine wpAny_List_spliced (thn (h pos pins s σ H _ I hq) λus s1 ⟨xs,H1,I1,r,z,q⟩=>⟨by rw[<- r.length];exact z,?_⟩)
 have hf:H1 s1.heap.objs.size=none:=I1.hok.fresh (vS _)
 refine ⟨.ref s1.heap.objs.size,upd H1 s1.heap.objs.size (.lst xs),I1.laid (t':=s1.toks) (λb u e=>vO _ e) (vS _) ?_,rfl,q _ hf⟩
 exact ⟨z,us,0,r,v9 _ rfl⟩
end
abbrev Sp:=List V->Hp->VK->XK->Prop
abbrev CXT:=List Env->Hp->vR->XK->vP->vR->Prop
structure rp (P:wu)(w:w4)(K:vV)(mg:Str->Option vP)(base:Heap)(A:w6)(outer:List Env)(s:vR)(H:Hp):Prop where
 frames:A.frames=some outer
 mod:Mod K mg base
 bs:∀b o,base.get? b=some o->s.heap.get? b=some o/\H b=none
 bsz:base.objs.size<=s.heap.objs.size
 funs:s.heap.FunFrames base outer
 frf:∀b∈frs outer,H b=none
 hok:HOk P w H s.heap
 bare:AllBare s.gens
def CE (outer:List Env)(P:wu)(w:w4)(H:Hp)(s:vR)(Q:VK)(u:vP)(s':vR):Prop :=
 ∃v H',s'.os=s.os/\AllBare s'.gens/\Un (frs outer) [] H H' s.heap s'.heap/\HOk P w H' s'.heap/\RelV v u/\Q v H'
def CR (CX:CXT)(outer:List Env)(P:wu)(w:w4)(H:Hp)(s:vR)(Q:VK)(E:XK)(r:Result)(s':vR):Prop :=
 match r with
 | .ok (.ret u)=>CE outer P w H s Q u s'
 | .ok _=>False
 | .error e=>CX outer H s E e s'
structure cn (P:wu)(w:w4)(K:vV)(mg:Str->Option vP)(base:Heap)(CX:CXT)(k:Nat)(f:Addr)(fd:x8)(ps:List Str)(sp:Sp):Prop where
 len:∀vs H Q E,sp vs H Q E->vs.length=ps.length
 run:∀(A:w6) (outer:List Env) (s:vR) (H:Hp) (args:Args) (us:List vP) (vs:List V) (Q:VK) (E:XK),cy k A->rp P w K mg base A outer s H->BindsTo s fd args (ps.zip us)->Vals vs us->sp vs H Q E →
  AZ (wI P w) A (.call (.ref f) args) (CR CX outer P w H s Q E) s
section
variable  {X:Cx}{pins:List (Addr×Obj)}{σ:St}{H:Hp}{s s':vR}
theorem Inv.env0 (I:Inv X pins σ H s):rp X.prog X.w X.K X.mg X.base X.A X.stack s H :=
 ⟨I.ok.frames,I.ok.mod,I.bs,wL I.ok.bsz I.sz,I.stack,I.mj,I.hok,I.bare⟩
theorem Inv.after {Q:VK}{u:vP}(I:Inv X pins σ H s)(h:CE X.stack X.prog X.w H s Q u s'):EP X pins σ Q u s':=by
 obtain ⟨v,H',os,bare,un,hok,r,q⟩:=h
 obtain ⟨hh,g,d,t,os'⟩:=s'
 obtain rfl:os'=s.os:=os
 exact ⟨v,H',I.call (h':=hh) (g':=g) (d':=d) (t':=t) (ch:=[]) un hok bare (λb z=>absurd z (by simp)),r,q⟩
end
def sV (sp:Sp)(dvs:List V)(E:XK)(t:TA):TE:=λσ H Q=>t σ H λvs H1=>sp (vs++dvs) H1 Q E
def Binds (K:vV)(fd:x8)(ps:List Str)(ds:List vP):Prop :=
 ∀(s:vR) (us:List vP),K.In s.heap->(us++ds).length=ps.length->BindsTo s fd ⟨us,[]⟩ (ps.zip (us++ds))
theorem Binds.all {K:vV}{fd:x8}{ps:List Str}(h:∀us:List vP,us.length=ps.length->bindArgs fd ⟨us,[]⟩=pure (ps.zip us)):Binds K fd ps []:=λs us _ hl=>by
 rw[xN] at hl ⊢
 exact .of_eq (h us hl)
def Passes (CX:CXT)(X:Cx)(E:XK):Prop:=∀(pins:List (Addr×Obj)) (σ:St) (H:Hp) (s:vR) (e:vP) (s':vR),Inv X pins σ H s->CX X.stack H s E e s'->X.xe e s'
section
variable  {X:Cx}{CX:CXT}{k:Nat}{f C:Addr}{fd:x8}{ps:List Str}{sp:Sp}{dvs:List V}{ds:List vP}{E:XK}{x m:Str}{p pos apos:Pos}{e o:Expr}{es:List Expr}{ta:TE}{t:TA}
theorem t7 {pins:List (Addr×Obj)}{σ:St}{H:Hp}{s:vR}{Q:VK}{us:List vP}{vs:List V}(F:cn X.prog X.w X.K X.mg X.base CX k f fd ps sp)(hr:cy k X.A)(hb:Binds X.K fd ps ds)(hd:Vals dvs ds)(hx:Passes CX X E)
  (I:Inv X pins σ H s) (r:Vals vs us) (h:sp (vs++dvs) H Q E):wA (wI X.prog X.w) X.A (call (.ref f) us) (EP X pins σ Q) X.xe s:=by
 have r2:Vals (vs++dvs) (us++ds):=r.append hd
 have hl:(us++ds).length=ps.length:=by rw[<- r2.length];exact F.len _ _ _ _ h
 refine DV (Am (F.run X.A X.stack s H ⟨us,[]⟩ (us++ds) (vs++dvs) Q E hr I.env0 (hb s us I.kIn hl) r2 h) λr s' hq =>?_)
 cases r with
 | error e=>exact hx pins σ H s e s' I hq
 | ok fl =>
  cases fl with
  | ret u=>exact I.after hq
  | next=>exact False.elim hq
  | brk=>exact False.elim hq
  | cont=>exact False.elim hq
theorem rq (F:cn X.prog X.w X.K X.mg X.base CX k f fd ps sp)(hr:cy k X.A)(hg:Gl X x)(hm:X.mg x=some (.ref f))(hk:PySem.W.keepIn X.K (.ref f)=true)(hb:Binds X.K fd ps ds)(hd:Vals dvs ds)(hx:Passes CX X E)
  (ha:PA X (e :: es) t) (hdb:(x == ("__debug__" : Str))=false:=by decide) (he:xb (e :: es) X.env=(false,eval e X.env) :: xb es X.env:=by rfl) (hpl:(Aw pos (xb es X.env)).any (·.1)=false:=by rfl) :
  PE X (.Call (.Name x p) (e :: es) [] pos) (sV sp dvs E t):=by
 intro pins s σ H Q I h
 refine yE (rh I hg hm ?_ hdb)
 refine PySem.W.callWith_K (h₀:=X.base) I.ok.mod.kin hk (thn (ha pos pins s σ H _ I h) λus s1 ⟨vs,H1,I1,r,q⟩=>⟨I1.kIn,?_⟩) he hpl
 exact t7 F hr hb hd hx I1 r q
end
section
variable  {X:Cx}{CX:CXT}{k:Nat}{f C:Addr}{fd:x8}{ps ks:List Str}{sp:Sp}{E:XK}{x m:Str}{p pos apos kpos:Pos}{e o:Expr}{es:List Expr}{kws:List Keyword}{te ta:TE}{t tk:TA}{nm:Option Str}
variable  {g:List vP->List vP->List vP}{gV:List V->List V->List V}
end
structure bh (N P:List Str)(sc:Scope):Prop where
 kind:sc.kind = .function
 co:sc.isCoroutine=false
 gen:sc.isGenerator=false
 nd:N.Nodup
 pre:N.take P.length=P
 par:∀x∈P,sc.names.lookup x=some .local\/sc.names.lookup x=some .cell
 nofree:∀y∈sc.names,y.2 ≠ .free
theorem iF {kindOf:Str->Option NameKind}{x:Str}:∀{binds:List (Str×vP)} {m:Str->Option vP},(∀v,(x,v)∉binds)->bindL kindOf binds m x=m x
 | [],_,_=>rfl
 | (n,v) :: r,m,h=>by
  unfold bindL
  rw[iF λw hw=>h w (wD _ hw)]
  split
  ·have:x≠n:=by rintro rfl;exact h v wJ
   simp[this]
  ·rfl
theorem iG {kindOf:Str->Option NameKind}{x:Str}:∀{binds:List (Str×vP)} {m:Str->Option vP},(∀v,(x,v)∉binds)->bindC kindOf binds m x=m x
 | [],_,_=>rfl
 | (n,v) :: r,m,h=>by
  unfold bindC
  rw[iG λw hw=>h w (wD _ hw)]
  split
  ·rfl
  ·have:x≠n:=by rintro rfl;exact h v wJ
   simp[this]
theorem iH {kindOf:Str->Option NameKind}{x:Str}{v:vP}:∀{P:List Str} {vs:List vP} {i:Nat} {m:Str->Option vP},P.Nodup->P[i]? = some x->vs[i]? = some v->kindOf x=some .local →
  bindL kindOf (P.zip vs) m x=some v
 | [],_,_,_,_,h,_,_=>by simp at h
 | _ :: _,[],_,_,_,_,h,_=>by simp at h
 | p :: P,w :: vs,0,m,nd,h1,h2,hk=>by
  simp at h1 h2;subst h1;subst h2
  show bindL kindOf ((p,w) :: P.zip vs) m p=_
  unfold bindL
  rw[iF λv hv=>(yR.mp nd).1 (B6 hv).1,if_pos hk]
  simp
 | p :: P,w :: vs,i+1,m,nd,h1,h2,hk=>by
  show bindL kindOf ((p,w) :: P.zip vs) m x=_
  unfold bindL
  exact iH (i:=i) (yR.mp nd).2 (by simpa using h1) (by simpa using h2) hk
theorem iI {kindOf:Str->Option NameKind}{x:Str}{v:vP}:∀{P:List Str} {vs:List vP} {i:Nat} {m:Str->Option vP},P.Nodup->P[i]? = some x->vs[i]? = some v->kindOf x≠some .local →
  bindC kindOf (P.zip vs) m x=some v
 | [],_,_,_,_,h,_,_=>by simp at h
 | _ :: _,[],_,_,_,_,h,_=>by simp at h
 | p :: P,w :: vs,0,m,nd,h1,h2,hk=>by
  simp at h1 h2;subst h1;subst h2
  show bindC kindOf ((p,w) :: P.zip vs) m p=_
  unfold bindC
  rw[iG λv hv=>(yR.mp nd).1 (B6 hv).1,if_neg hk]
  simp
 | p :: P,w :: vs,i+1,m,nd,h1,h2,hk=>by
  show bindC kindOf ((p,w) :: P.zip vs) m x=_
  unfold bindC
  exact iI (i:=i) (yR.mp nd).2 (by simpa using h1) (by simpa using h2) hk
def start (N:List Str)(vs:List V):St:=vs.map some++w9 (N.length-vs.length) none
def j5 (CX:CXT)(P:wu)(w:w4)(K:vV)(mg:Str->Option vP)(base:Heap)(N:List Str)(qual:Str)(scope:Scope)(f:Addr)(cd:vP)(A:w6)(outer:List Env)(s:vR)(H:Hp)(E:XK):Cx where
 prog:=P
 w:=w
 K:=K
 mg:=mg
 base:=base
 A:=A.deeper (envOfC qual scope s.heap.objs.size f cd)
 N:=N
 s₀:=s
 H₀:=H
 env:=envOfC qual scope s.heap.objs.size f cd
 outer:=outer
 stack:=envOfC qual scope s.heap.objs.size f cd :: outer
 ex:=[]
 calm:=true
 fn:=λ_=>true
 pn:=[]
 xe:=λe s'=>wA (wI P w) (A.deeper (envOfC qual scope s.heap.objs.size f cd)) (leaving (envOfC qual scope s.heap.objs.size f cd) e) (λ_ s''=>CX outer H s E e s'') (λe' s''=>CX outer H s E e' s'') s'
theorem j6 {sc:Scope}{n:Nat}{x:Str}(h:sc.names.lookup x=some .cell):∃c,(cellsFrom n sc.names []).lookup x=some c:=by
 have q:=BZ sc.names n [] (.inl h)
 exact BA.mp q
theorem nH {CX:CXT}{P:wu}{w:w4}{K:vV}{mg:Str->Option vP}{base:Heap}{N ps:List Str}{qual:Str}{scope:Scope}{f:Addr}{cd:vP}{A:w6}{outer:List Env}{s s1:vR}{H:Hp}{E:XK}{us:List vP}{vs:List V}
  (S:bh N ps scope) (hd:A.handled=none) (e0:rp P w K mg base A outer s H) (hl:vs.length=ps.length) (r:Vals vs us)
  (x:InCallC s s.heap.objs.size (bindL (envOfC qual scope s.heap.objs.size f cd).kindOf (ps.zip us) λ_=>none) (cellsFrom (s.heap.objs.size+1) scope.names []) (bindC (envOfC qual scope s.heap.objs.size f cd).kindOf (ps.zip us) λ_=>none) s1) :
  Inv (j5 CX P w K mg base N qual scope f cd A outer s H E) [] (start N vs) H s1:=by
 have hpl:ps.length<=N.length:=by have:=congrArg List.length S.pre;rw[wN] at this;omega
 obtain ⟨h1,tk,rfl,hk⟩:=x.done
 have noA:∀b:Addr,b∉(j5 CX P w K mg base N qual scope f cd A outer s H E).ex:=λb z=>absurd (show b∈([]:List Addr) from z) (by simp)
 refine ⟨⟨e0.mod,S.kind,rfl,rfl,vS _,λy z c h1 h2 =>?_,λy hy =>?_,λy c _ h =>?_,λ_=>hd,Around.frames_deeper e0.frames,.inr ⟨rfl,rfl⟩,λb z=>absurd z (noA b),e0.bs,e0.bsz,λb _ _=>noA b,λb z=>absurd z (noA b),e0.funs,e0.frf⟩,
  rfl,e0.bare,Un.kept hk,⟨_,x.toInCall.ns,λi y v h1 h2 h3 =>?_⟩,λy c h=>⟨_,x.cell y c h⟩,e0.hok.fresh (vS _),λy c h =>?_,λp hp=>absurd (show p∈([]:List (Addr×Obj)) from hp) (by simp),e0.hok.kept hk,?_⟩
 ·exact name_of_addr x.apart (yS h1) (yS h2)
 ·have hy:scope.names.lookup y=some .cell\/scope.names.lookup y=some .free:=hy
  rcases hy with hy | hy
  ·exact j6 hy
  ·exact absurd rfl (S.nofree _ (yS hy))
 ·exact zE (x.above y c (yS h))
 ·have hi:i<vs.length:=by
   unfold start at h2
   by_cases hi:i<vs.length
   ·exact hi
   ·rw[xI (by simpa using hi)] at h2
    rw[List.getElem?_replicate] at h2
    split at h2 <;> cases h2
  have ha:vs[i]? = some v:=by
   unfold start at h2
   rw[ye (by simpa using hi),wm] at h2
   cases e:vs[i]? with
   | none=>rw[e] at h2;cases h2
   | some a=>rw[e] at h2;cases h2;rfl
  obtain ⟨u,hu,rv⟩:=r.get ha
  have hp:ps[i]? = some y:=by
   rw[<- S.pre,List.getElem?_take_of_lt (by omega)];exact h1
  have ndP:ps.Nodup:=by rw[<- S.pre];exact S.nd.sublist (xQ _ _)
  refine ⟨u,rv,?_⟩
  rcases S.par y (we hp) with k | k
  ·exact .inl ⟨k,iH ndP hp hu k⟩
  ·obtain ⟨c,e⟩:=j6 (n:=s.heap.objs.size+1) k
   refine .inr ⟨.inl k,c,e,?_⟩
   have q:=x.cell y c e
   rw[iI ndP hp hu (by show scope.names.lookup y≠_;rw[k];decide)] at q
   exact q
 ·exact e0.hok.fresh (zE (x.above y c (yS h)))
 ·unfold start
  show _=N.length
  rw[vQ,vM,AK]
  omega
theorem vg {CX:CXT}{P:wu}{w:w4}{K:vV}{mg:Str->Option vP}{base:Heap}{k:Nat}{f:Addr}{name qual:Str}{params:Arguments}{body:List Stmt}{scope:Scope}{dV kV doc pm cdv ct oc:vP}{an od:Option Addr}
  {osl:Array (Option vP)} {N ps:List Str} {sp:Sp} (lk:K.lookup f=some ⟨oc,od,.func (PySem.W.fnOf name qual params body scope dV kV doc pm an cdv ct),osl⟩) (hcd:PySem.W.codeIn K cdv qual=true) (S:bh N ps scope)
  (len:∀vs H Q E,sp vs H Q E->vs.length=ps.length)
  (hbody:∀(A:w6) (outer:List Env) (s:vR) (H:Hp) (vs:List V) (Q:VK) (E:XK),cy k (A.deeper (envOfC qual scope s.heap.objs.size f cdv))->sp vs H Q E →
   ∃t,PSs (j5 CX P w K mg base N qual scope f cdv A outer s H E) body t/\t { nx:=λ_ H'=>Q .non H',rt:=Q } (start N vs) H) :
  cn P w K mg base CX (k+1) f (PySem.W.fnOf name qual params body scope dV kV doc pm an cdv ct) ps sp:=by
 refine ⟨len,λA outer s H args us vs Q E hr e0 hb r hsp =>?_⟩
 have hl:=len _ _ _ _ hsp
 have KX:K.In s.heap:=e0.mod.kin.keeps λb o e=>(e0.bs b o e).1
 have lim:s.heap.NoLimit:=e0.mod.nolimit.keeps λb o e=>(e0.bs b o e).1
 have hkind:∀y∈ps.zip us,scope.names.lookup y.1=some .local\/(scope.names.lookup y.1=some .cell/\((cellsFrom (s.heap.objs.size+1) scope.names []).lookup y.1).isSome=true):=λ⟨n,v⟩ hy=>by
  rcases S.par n (B6 hy).1 with q | q
  ·exact .inl q
  ·exact .inr ⟨q,BZ _ _ _ (.inl q)⟩
 refine codeAny_call_function hr.depth (KX _ _ lk) rfl S.co S.gen rfl (PySem.W.codeRec_of KX hcd) (hb _ _ _ _ ?_)
 refine wpAny_newFunctionEnv_cells S.kind hkind λenv he s1 x =>?_
 subst he
 refine ⟨lim.keeps x.toInCall.keep,codeAny_func ?_⟩
 obtain ⟨t,ht,hq⟩:=hbody A outer s H vs Q E (hr.deeper _) hsp
 have I:Inv (j5 CX P w K mg base N qual scope f cdv A outer s H E) [] (start N vs) H s1:=nH S hr.hd e0 hl r x
 refine yt (ht [] s1 (start N vs) H _ I hq) (λfl s' hs =>?_) λe s' hs=>hs
 have fin:∀{σ':St} {H':Hp} {v:V} {u:vP},Inv (j5 CX P w K mg base N qual scope f cdv A outer s H E) [] σ' H' s'->RelV v u->Q v H'->CE outer P w H s Q u s' :=
  λ{σ' H' v u} J rv q=>⟨v,H',J.os,J.bare,J.base,J.hok,rv,q⟩
 cases fl with
 | ret u =>
  obtain ⟨v,σ',H',J,rv,q⟩:=hs
  exact fin J rv q
 | next =>
  obtain ⟨σ',H',J,q⟩:=hs
  exact fin (v:=V.non) (u:=yv) J rfl q
 | brk =>
  obtain ⟨_,_,_,q⟩:=hs
  exact False.elim q
 | cont =>
  obtain ⟨_,_,_,q⟩:=hs
  exact False.elim q
open PySem PySem.Spec PyProof.Rows
section
variable  {X:Cx}{x:Str}{p pos:Pos}{e:Expr}{es:List Expr}{t:TA}{id T:String}{r:List V->Hp->VK->Prop}
def tCB (r:List V->Hp->VK->Prop)(t:TA):TE:=λσ H Q=>t σ H λvs H1=>r vs H1 Q
theorem ax (hc:cc X (.builtin id) r)(hg:Gl X x)(hm:X.mg x=none)(hv:xA x=some (.builtin id))(ha:PA X (e :: es) t)(hn:x ≠ "__name__" := by decide)(hdb:(x == ("__debug__" : Str))=false:=by decide)
  (he:xb (e :: es) X.env=(false,eval e X.env) :: xb es X.env:=by rfl) (hpl:(Aw pos (xb es X.env)).any (·.1)=false:=by rfl):PE X (.Call (.Name x p) (e :: es) [] pos) (tCB r t):=by
 intro pins s σ H Q I h
 refine yE (cR I hg hm hv ?_ hn hdb)
 exact PyProof.Rows.callWith_builtin1 (thn (ha pos pins s σ H _ I h) λus s1 ⟨vs,H1,I1,r1,q1⟩=>hc pins s1 σ H1 vs us Q I1 r1 q1) he hpl
theorem aZ (hc:cc X (.type T) r)(hg:Gl X x)(hm:X.mg x=none)(hv:xA x=some (.type T))(ha:PA X (e :: es) t)(hn:x ≠ "__name__" := by decide)(hdb:(x == ("__debug__" : Str))=false:=by decide)
  (he:xb (e :: es) X.env=(false,eval e X.env) :: xb es X.env:=by rfl) (hpl:(Aw pos (xb es X.env)).any (·.1)=false:=by rfl):PE X (.Call (.Name x p) (e :: es) [] pos) (tCB r t):=by
 intro pins s σ H Q I h
 refine yE (cR I hg hm hv ?_ hn hdb)
 exact xu (thn (ha pos pins s σ H _ I h) λus s1 ⟨vs,H1,I1,r1,q1⟩=>hc pins s1 σ H1 vs us Q I1 r1 q1) he hpl
end
end L2
namespace HT
open PySem PyProof.Rows
def lexLt:List Int->List Int->Bool
 | [],[]=>false
 | [],_ :: _=>true
 | _ :: _,[]=>false
 | x :: xs,y :: ys=>if x=y then lexLt xs ys else decide (x<y)
theorem cp (x y:Int)(xs ys:List Int):lexLt (x :: xs) (y :: ys)=if x=y then lexLt xs ys else decide (x<y):=rfl
theorem ip:lexLt [] []=false:=rfl
theorem gC (y:Int)(ys:List Int):lexLt [] (y :: ys)=true:=rfl
theorem gD (x:Int)(xs:List Int):lexLt (x :: xs) []=false:=rfl
theorem pk (A:w6)(s:vR)(a:Int)(t:Tok)(c:Int)(u:Tok):∃e,Cr A s (.int a t) (.int c u) e/\(e=true↔a=c) :=
 ⟨(a == c),zB a t c u,by simp⟩
theorem j7 (A:w6)(s:vR)(a:Int)(t:Tok)(c:Int)(u:Tok)(prog:wu)(w:w4)(E:vP->vR->Prop)(Q:vP->vR->Prop)(h:Q (.bool (decide (a<c))) s) :
  wA (wI prog w) A (richCompare .Lt (.int a t) (.int c u)) Q E s :=
 (PyProof.Rows.lt_int h:wA (wI prog w) A (yp .Lt (.int a t) (.int c u)) Q E s)
section
open PySem.SeqAt
open PySem.AutoSeq1 (wpAny_loadPart')
open PySem.MeetsSeq PySem.MeetsSeq2 PySem.MeetsSeq3
theorem iq (l b:Addr)(items items2:Array vP)(n n2:Nat)(dd dd2:Option Addr)(sl sl2:Array (Option vP))(ns ms:List Int)(hi:yY items.toList ns)(hj:yY items2.toList ms) :
  Meets (Builtin.«tuple.__lt__» ⟨[.ref l,.ref b],[]⟩)
   (λ_ R s=>s.heap.get? l=some { cls :=.type "tuple",dict:=dd,data :=.seq items n,slots:=sl }/\s.heap.get? b=some { cls :=.type "tuple",dict:=dd2,data :=.seq items2 n2,slots:=sl2 } ∧
    R (.ok (.ret (.bool (lexLt ns ms)))) s) :=
 .of_wp λprog w A R s h=>by
  obtain ⟨hp,g,d,tk,os⟩:=s;obtain ⟨hl,hb,h⟩:=h
  have f2:=AutoSeq1.sub_tuple_tuple
  have z1:items.size=ns.length:=by rw[<- hi.length];simp
  have z2:items2.size=ms.length:=by rw[<- hj.length];simp
  wp_walk using wpAny_loadPart' hl,wpAny_loadPart' hb,wpAny_forIn_list _ (λrest b s'=>b.1=none/\s'=⟨hp,g,d,tk,os⟩/\∃(vs ws:List vP) (ns' ms':List Int),rest=vs.zip ws ∧
   yY vs ns'/\yY ws ms'/\ns'.length+items2.size=ms'.length+items.size/\R (.ok (.ret (.bool (lexLt ns' ms')))) ⟨hp,g,d,tk,os⟩) _
  case turn =>
   rintro ⟨y,x⟩ rest b s' ⟨hb',rfl,vs,ws,ns',ms',hz,hvi,hwi,hlen,hR⟩
   cases hvi with
   | nil=>rw[List.zip_nil_left] at hz;cases hz
   | cons a t hvi' =>
    cases hwi with
    | nil=>rw[List.zip_nil_right] at hz;cases hz
    | cons c u hwi' =>
     rw[An] at hz
     injection hz with hyx hrest
     injection hyx with hy hx
     subst hy hx
     rw[cp] at hR
     simp only[wO] at hlen
     obtain ⟨e,he,hiff⟩:=pk A.in1 ⟨hp,g,d,tk,os⟩ a t c u
     refine vN (he prog w _ _ ?_)
     cases e with
     | true =>
      rw[if_pos (hiff.mp rfl)] at hR
      wp_walk
      exact ⟨rfl,rfl,_,_,_,_,hrest,hvi',hwi',by omega,hR⟩
     | false =>
      rw[if_neg (λq=>absurd (hiff.mpr q) wa)] at hR
      have hri:=j7 A.in1 ⟨hp,g,d,tk,os⟩ a t c u prog w
      wp_walk using hri
      exact ⟨_,rfl,by simpa using hR⟩
  case fin =>
   rintro ⟨b1,b2⟩ s' ⟨hb',rfl,vs,ws,ns',ms',hz,hvi,hwi,hlen,hR⟩
   simp only at hb'
   subst hb'
   have hv:lexLt ns' ms'=decide (items.size<items2.size):=by
    cases hvi with
    | nil =>
     cases hwi with
     | nil =>
      simp only[yT] at hlen
      rw[ip]
      exact (decide_eq_false (by omega)).symm
     | cons c u hw =>
      simp only[yT,wO] at hlen
      rw[gC]
      exact (decide_eq_true (by omega)).symm
    | cons a t hv =>
     cases hwi with
     | nil =>
      simp only[yT,wO] at hlen
      rw[gD]
      exact (decide_eq_false (by omega)).symm
     | cons c u hw =>
      rw[An] at hz
      cases hz
   rw[hv] at hR
   wp_walk
   exact ⟨_,rfl,by simpa [Builtin.Tuple.tupleCompareSizes] using hR⟩
  case h =>
   exact ⟨rfl,rfl,items.toList,items2.toList,ns,ms,rfl,hi,hj,by omega,h⟩
end
section
variable  {prog:wu}{w:w4}{A:w6}{E:vP->vR->Prop}{s:vR}
theorem k9 {l b:Addr}{items items2:Array vP}{ns ms:List Int}{Q:vP->vR->Prop}(hl:IsTup s.heap l items)(hb:IsTup s.heap b items2)(hi:yY items.toList ns)(hj:yY items2.toList ms)
  (hu:A.units<cLine) (h:Q (.bool (lexLt ns ms)) s):wA (wI prog w) A (yp .Lt (.ref l) (.ref b)) Q E s:=by
 obtain ⟨⟨cls,dd,data,sl⟩,ho,hc,n,hd⟩:=id hl
 obtain ⟨⟨cls2,dd2,data2,sl2⟩,ho2,hc2,n2,hd2⟩:=id hb
 simp only at hc hd hc2 hd2
 subst hc hd hc2 hd2
 exact AA (op :=.Lt) ⟨_,ho,rfl⟩ ⟨_,ho2,rfl⟩ PySem.F.slot_tuple_lt PySem.F.entry_tuple_lt (PySem.F.args_tuple_lt_2 _ _) (iq l b items items2 n n2 dd dd2 sl sl2 ns ms hi hj)
  ⟨ho,ho2,show Value.bool (lexLt ns ms)≠Value.notImplemented/\Q (.bool (lexLt ns ms)) s from ⟨(λx=>nomatch x),h⟩⟩ hu
theorem rA {t b:Addr}{vs ws:List vP}{Q:vP->vR->Prop}(ht:IsTup s.heap t vs.toArray)(hb:IsTup s.heap b ws.toArray)(hv:vs≠[])
  (h1:ws=[]->Q (.ref t) s) (h2:ws≠[]->Q (.ref s.heap.objs.size) { s with heap:=s.heap.push { cls :=.type "tuple",data :=.seq (vs++ws).toArray } })
  (hsz:vs.length+ws.length<=vZ):wA (wI prog w) A (binaryOp .Add (.ref t) (.ref b)) Q E s:=by
 obtain ⟨⟨cls,dd,data,sl⟩,ho,hc,n,hd⟩:=id ht
 obtain ⟨⟨cls2,dd2,data2,sl2⟩,ho2,hc2,n2,hd2⟩:=id hb
 simp only at hc hd hc2 hd2
 subst hc hd hc2 hd2
 have e:vs.toArray++ws.toArray=(vs++ws).toArray:=by simp
 by_cases hw:ws=[]
 ·exact Ck ⟨_,ho,rfl⟩ ⟨_,ho2,rfl⟩ BX CL Ay Ao (Ah _ _)
   (tuple_addW1 t b vs.toArray ws.toArray n n2 dd dd2 sl sl2 (by simpa using hv) (by simp[hw])) ⟨ho,ho2,h1 hw⟩
 ·refine Ck ⟨_,ho,rfl⟩ ⟨_,ho2,rfl⟩ BX CL Ay Ao (Ah _ _)
   (tuple_addW2 t b vs.toArray ws.toArray n n2 dd dd2 sl sl2 (by simpa using hv) (by simpa using hw) (by rw[vT,vT];exact hsz)) ⟨ho,ho2,?_⟩
  rw[e]
  exact h2 hw
def sIx (n d:Nat):Option Int->Nat
 | none=>d
 | some v=>if v<0 then (v+(n:Int)).toNat else min v.toNat n
theorem t8 (n d:Nat)(hd:d<=n)(o:Option Int):sIx n d o<=n:=by
 cases o with
 | none=>exact hd
 | some v =>
  show (if v<0 then (v+(n:Int)).toNat else min v.toNat n)<=n
  by_cases hv:v<0
  ·rw[if_pos hv];omega
  ·rw[if_neg hv];exact Nat.min_le_right _ _
theorem mC (v:Int)(n d:Nat):(if v<0 then max (v+(n:Int)) 0 else min v (n:Int))=((sIx n d (some v):Nat):Int):=by
 show (if v<0 then max (v+(n:Int)) 0 else min v (n:Int))=(((if v<0 then (v+(n:Int)).toNat else min v.toNat n):Nat):Int)
 by_cases hv:v<0
 ·simp only[if_pos hv];omega
 ·simp only[if_neg hv];omega
theorem lb (lo hi:Option Int)(n:Nat):Builtin.Slice.sliceAdjust lo hi 1 (n:Int)=(((sIx n 0 lo:Nat):Int),((sIx n n hi:Nat):Int)):=by
 have h1:¬ ((1:Int)<0):=by omega
 unfold Builtin.Slice.sliceAdjust
 simp only[h1,if_false]
 refine Du ?_ ?_
 ·cases lo with
  | none=>rfl
  | some v=>exact mC v n 0
 ·cases hi with
  | none=>rfl
  | some v=>exact mC v n n
theorem lh (i j:Nat):Builtin.Slice.slicePlaces (i:Int) (j:Int) 1=j-i:=by
 unfold Builtin.Slice.slicePlaces
 have h1:(1:Int)>0:=by omega
 simp only[h1,if_true,Int.ediv_one]
 split <;> omega
theorem gE {v:vP}{o:Option Int}{Q:Option Int->vR->Prop}(p:IsPart v o)(h:Q o s):wA (wI prog w) A (Builtin.Slice.slicePartIndex v) Q E s:=by
 cases p with
 | none=>exact slicePart_none h
 | int i t=>exact slicePart_int h
theorem cY {sl:Addr}{vl vu:vP}{lo hi:Option Int}{n:Nat}{Q:Int×Int×Nat->vR->Prop}(hs:s.heap.IsSliceOf sl vl vu .none)(pl:IsPart vl lo)(pu:IsPart vu hi)
  (h:Q (((sIx n 0 lo:Nat):Int),1,sIx n n hi-sIx n 0 lo) s):wA (wI prog w) A (Builtin.Slice.sliceApplied (.ref sl) (pure (n:Int))) Q E s:=by
 obtain ⟨os,hos,hcs,hds⟩:=id hs
 unfold Builtin.Slice.sliceApplied Builtin.Slice.sliceFields
 refine vN (vN (yj hos hds (x:=vl) rfl (vN (yj hos hds (x:=vu) rfl (vN (yj hos hds (x :=.none) rfl (vW ?_)))))))
 refine vN (slicePart_none ?_)
 show wA _ _ (if ((1:Int) == 0)=true then _ else _) _ _ s
 rw[if_neg (by decide)]
 refine vN (gE pl (vN (gE pu (vN (vW ?_)))))
 show wA _ _ (match Builtin.Slice.sliceAdjust lo hi 1 (n:Int) with | (lo,hi)=>pure (lo,(1:Int),Builtin.Slice.slicePlaces lo hi 1)) _ _ s
 rw[lb lo hi n]
 show wA _ _ (pure (((sIx n 0 lo:Nat):Int),(1:Int),Builtin.Slice.slicePlaces ((sIx n 0 lo:Nat):Int) ((sIx n n hi:Nat):Int) 1)) _ _ s
 rw[lh]
 exact vW h
theorem pq (xs:Array vP)(i k:Nat):((xJ k).filterMap λ(m:Nat)=>xs[((i:Int)+(m:Int)*1).toNat]?).toArray=((xs.toList.drop i).take k).toArray:=by
 have e:(λ(m:Nat)=>xs[((i:Int)+(m:Int)*1).toNat]?)=λm=>xs[i+m]? := by
  funext m
  have:((i:Int)+(m:Int)*1).toNat=i+m:=by omega
  rw[this]
 rw[e]
 have:=pick_run xs i k
 rw[List.filterMap_map] at this
 have e2:((λx=>xs[x]?) ∘ λx=>i+x)=λm=>xs[i+m]? := rfl
 rw[e2] at this
 rw[this]
theorem ff {t sl:Addr}{items:Array vP}{vl vu:vP}{lo hi:Option Int}{Q:vP->vR->Prop}(ht:IsTup s.heap t items)(hs:s.heap.IsSliceOf sl vl vu .none)(pl:IsPart vl lo)(pu:IsPart vu hi)
  (hw:¬ (sIx items.size 0 lo=0/\sIx items.size items.size hi=items.size))
  (h:Q (.ref s.heap.objs.size) { s with heap:=s.heap.push { cls :=.type "tuple",data :=.seq ((items.toList.drop (sIx items.size 0 lo)).take (sIx items.size items.size hi-sIx items.size 0 lo)).toArray } })
  (hsz:items.size<=vZ):wA (wI prog w) A (getItem (.ref t) (.ref sl)) Q E s:=by
 have htake:sizeOk (.seq ((items.toList.drop (sIx items.size 0 lo)).take (sIx items.size items.size hi-sIx items.size 0 lo)).toArray):=by
  show ((items.toList.drop (sIx items.size 0 lo)).take (sIx items.size items.size hi-sIx items.size 0 lo)).toArray.size<=vZ
  rw[vT,wN,wX,vX]
  omega
 have hj:sIx items.size items.size hi<=items.size:=t8 _ _ (vS _) hi
 obtain ⟨os,hos,hcs,hds⟩:=id hs
 have hTs:s.TypeIs (.ref sl) "slice" :=⟨os,hos,hcs⟩
 unfold getItem
 try with_reducible refine yx ?_
 first | refine vN (vW ?_) | skip
 refine vN (C5 ht.typeIs (by decide) ?_)
 refine vN (x6 (name:=Str.ofString "__getitem__") ht.typeIs xg
  (xP xg ht.typeIs entry_tuple_getitem ?_ (CM _ _)))
 show wA _ _ (Builtin.Tuple.tupleItemsOf (.ref t) >>= _) _ _ s
 refine vN (tupleItemsOf_ ht ?_)
 refine vN (zN hTs ?_)
 rw[if_pos (by decide)]
 refine vN (cY hs pl pu ?_)
 have hno:¬ ((((sIx items.size 0 lo:Nat):Int) == 0 && (1:Int) == 1 && (sIx items.size items.size hi-sIx items.size 0 lo) == items.size)=true):=by
  intro q
  rw[x5,x5] at q
  have q1:((sIx items.size 0 lo:Nat):Int)=0:=eq_of_beq q.1.1
  have q2:sIx items.size items.size hi-sIx items.size 0 lo=items.size:=eq_of_beq q.2
  exact hw ⟨by omega,by omega⟩
 show wA _ _ (if (((sIx items.size 0 lo:Nat):Int) == 0 && (1:Int) == 1 && (sIx items.size items.size hi-sIx items.size 0 lo) == items.size)=true then _ else _) _ _ s
 rw[if_neg hno,pq]
 first
  | exact vN (m:=Builtin.Tuple.tupleExact _) (xo (vW ⟨_,rfl,vW h⟩) htake)
  | exact vN (m:=Builtin.Tuple.tupleExact _) (xo (vN (vW (vW ⟨_,rfl,vW h⟩))) htake)
  | exact vN (vN (m:=Builtin.Tuple.tupleExact _) (xo (vW (vW ⟨_,rfl,vW h⟩)) htake))
  | exact vN (vN (m:=Builtin.Tuple.tupleExact _) (xo (vW ⟨_,rfl,vW h⟩) htake))
end
end HT
namespace L2
open PySem PySem.Spec PyProof.Rows
abbrev TO:=St->Hp->(Option Int->Hp->Prop)->Prop
def PO (X:Cx)(e:Option Expr)(t:TO):Prop :=
 ∀(pins:List (Addr×Obj)) (s:vR) (σ:St) (H:Hp) (Q:Option Int->Hp->Prop),Inv X pins σ H s->t σ H Q →
  wA (wI X.prog X.w) X.A (evalPart e X.env) (λu s'=>∃o H',Inv X pins σ H' s'/\IsPart u o/\Q o H') X.xe s
def rB:TO:=λ_ H Q=>Q none H
def vh (t:TE):TO:=λσ H Q=>t σ H λx H1=>∃i,x = .int i/\Q (some i) H1
theorem intsAre_of {ns:List Int}:∀{us:List vP},Vals (ns.map V.int) us->yY us ns:=by
 induction ns with
 | nil=>intro us r;rw[C7] at r;cases r;exact .nil
 | cons n ns ih =>
  intro us r
  rw[wQ] at r
  cases r with
  | cons r1 r2 =>
   obtain ⟨t,e⟩:=r1
   subst e
   exact .cons n t (ih r2)
section
variable  {X:Cx}{e:Expr}{te:TE}{lo hi:Option Expr}{tl th:TO}{pos p2:Pos}
theorem bF:PO X none rB:=by
 intro pins s σ H Q I h
 rw[evalPart_none]
 exact vW ⟨none,H,I,.none,h⟩
theorem bz (h:PE X e te):PO X (some e) (vh te):=by
 intro pins s σ H Q I hw
 rw[evalPart_some]
 refine thn (h pins s σ H _ I hw) λu s1 ⟨x,H1,I1,r1,q1⟩ =>?_
 obtain ⟨i,rfl,q⟩:=q1
 obtain ⟨t,rfl⟩:=r1
 exact ⟨some i,H1,I1,.int i t,q⟩
def SlR (X:Cx)(r:V->Option Int->Option Int->Hp->VK->Prop):Prop :=
 ∀(pins:List (Addr×Obj)) (s:vR) (σ:St) (H:Hp) (x:V) (v vl vu:vP) (lo hi:Option Int) (sl:Addr) (Q:VK),Inv X pins σ H s->RelV x v->s.heap.IsSliceOf sl vl vu .none->IsPart vl lo->IsPart vu hi->r x lo hi H Q →
  ∃T id,typeLookup (.type T) "__getitem__" = pure (some (.builtin id))/\s.TypeIs v T/\wA (wI X.prog X.w) X.A (getItem v (.ref sl)) (EP X pins σ Q) X.xe s
def tSl (r:V->Option Int->Option Int->Hp->VK->Prop)(te:TE)(tl th:TO):TE:=λσ H Q=>te σ H λx H1=>tl σ H1 λl H2=>th σ H2 λu H3=>r x l u H3 Q
theorem a7 {r:V->Option Int->Option Int->Hp->VK->Prop}(hr:SlR X r)(he:PE X e te)(hl:PO X lo tl)(hu:PO X hi th):PE X (.Subscript e (.Slice lo hi none p2) pos) (tSl r te tl th):=by
 intro pins s σ H Q I h
 refine Subscript_ (thn (he pins s σ H _ I h) λv s1 ⟨x,H1,I1,r1,q1⟩ =>?_)
 refine wpAny_Slice (thn (hl pins s1 σ H1 _ I1 q1) λvl s2 ⟨l,H2,I2,pl,q2⟩=>thn (hu pins s2 σ H2 _ I2 q2) λvu s3 ⟨u,H3,I3,pu,q3⟩ =>?_)
 rw[evalPart_none]
 refine vW ?_
 have I4:Inv X pins σ H3 { s3 with heap:=s3.heap.push { cls :=.type "slice",data :=.fields #[vl,vu,.none] } }:=I3.kept (t':=s3.toks) λb ob q=>vO _ q
 obtain ⟨T,id,hT,ht,hg⟩:=hr pins { s3 with heap:=s3.heap.push { cls :=.type "slice",data :=.fields #[vl,vu,.none] } } σ H3 x v vl vu l u s3.heap.objs.size Q I4 r1 (Eb ..) pl pu q3
 show wA (wI X.prog X.w) X.A (subscriptTail e (.Slice lo hi none p2) v (.ref s3.heap.objs.size)) (EP X pins σ Q) X.xe { s3 with heap:=s3.heap.push { cls :=.type "slice",data :=.fields #[vl,vu,.none] } }
 exact tail_any (ops:=[.ref s3.heap.objs.size,v]) ht hT hg (by with_unfolding_all rfl)
def cJ (xs:List V)(lo hi:Option Int):List V:=(xs.drop (HT.sIx xs.length 0 lo)).take (HT.sIx xs.length xs.length hi-HT.sIx xs.length 0 lo)
theorem fU (xs:List V)(lo hi:Option Int):(cJ xs lo hi).length<=xs.length:=by
 unfold cJ
 rw[wN,wX]
 omega
def rSlT (K:vV):V->Option Int->Option Int->Hp->VK->Prop:=λx lo hi H Q=>∃a xs,x = .ref a/\SqT K H a xs ∧
 ¬ (HT.sIx xs.length 0 lo=0/\HT.sIx xs.length xs.length hi=xs.length)/\∀p,H p=none->Q (.ref p) (upd H p (.tup (cJ xs lo hi)))
theorem t9:SlR X (rSlT X.K):=by
 intro pins s σ H x v vl vu lo hi sl Q I rx hs pl pu h
 obtain ⟨a,xs,rfl,hx,hw,q⟩:=h
 cases rx
 obtain ⟨its,r,ht,hz⟩:=I.tuple hx
 have hlen:its.toArray.size=xs.length:=by rw[vT];exact r.length.symm
 refine ⟨"tuple",_,xg.lookup,ht.typeIs,?_⟩
 refine HT.ff ht hs pl pu (by rw[hlen];exact hw) ?_ (by rw[hlen];exact hz)
 rw[hlen]
 refine ⟨.ref s.heap.objs.size,_,I.laid (t':=s.toks) (o :=.tup (cJ xs lo hi)) (λb ob q=>vO _ q) (vS _) ?_,rfl,q _ (I.hok.fresh (vS _))⟩
 exact ⟨wL (fU xs lo hi) hz,_,(r.drop (HT.sIx xs.length 0 lo)).take (HT.sIx xs.length xs.length hi-HT.sIx xs.length 0 lo),cQ.new _ _⟩
def vi (K:vV):R2:=λx y H Q=>∃a b xs ys,x = .ref a/\y = .ref b/\SqT K H a xs/\SqT K H b ys/\xs≠[]/\xs.length+ys.length<=vZ ∧
 (ys=[]->Q (.ref a) H)/\(ys≠[]->∀p,H p=none->Q (.ref p) (upd H p (.tup (xs++ys))))
theorem Vals.gk {xs:List V}{us:List vP}(r:Vals xs us):us=[]↔xs=[]:=by
 cases r with
 | nil=>simp
 | cons _ _=>simp
theorem rC:OpR X (binaryOp .Add) (vi X.K):=by
 intro pins s σ H x y v u Q I rx ry h
 obtain ⟨a,b,xs,ys,rfl,rfl,ha,hb,hx,hz,q1,q2⟩:=h
 cases rx
 cases ry
 obtain ⟨its,r1,p1,_⟩:=I.tuple ha
 obtain ⟨its2,r2,p2,_⟩:=I.tuple hb
 refine HT.rA p1 p2 (λz=>hx (r1.gk.mp z)) (λz=>⟨.ref a,H,I,rfl,q1 (r2.gk.mp z)⟩) (λz =>?_) (by rw[<- r1.length, <- r2.length];exact hz)
 refine ⟨.ref s.heap.objs.size,_,I.laid (t':=s.toks) (o :=.tup (xs++ys)) (λb ob q=>vO _ q) (vS _) ?_,rfl,q2 (λw=>z (r2.gk.mpr w)) _ (I.hok.fresh (vS _))⟩
 exact ⟨by rw[vQ];exact hz,_,r1.append r2,cQ.new _ _⟩
end
open PySem PySem.Spec PyProof.Rows
def ixN (n:Nat)(i:Int):Option Nat:=if 0<=i then (if i<n then some i.toNat else none) else if -(n:Int)<=i then some (i+n).toNat else none
def atI {α:Type}(xs:List α)(i:Int):Option α:=(ixN xs.length i).bind λj=>xs[j]?
theorem rD {n:Nat}{i:Int}{j:Nat}(h:ixN n i=some j):seqIndex? i n=some j/\j<n /\ -(n:Int)<=i/\i<n:=by
 unfold ixN at h
 by_cases h0:0<=i
 ·rw[if_pos h0] at h
  by_cases h1:i<n
  ·rw[if_pos h1] at h
   have e:i.toNat=j:=wB h
   exact ⟨by rw[DD h0 h1,e],by omega,by omega,h1⟩
  ·rw[if_neg h1] at h;cases h
 ·rw[if_neg h0] at h
  by_cases h1 : -(n:Int)<=i
  ·rw[if_pos h1] at h
   have e:(i+n).toNat=j:=wB h
   exact ⟨by rw[seqIndex_neg (by omega) h1,e],by omega,h1,by omega⟩
  ·rw[if_neg h1] at h;cases h
theorem mD {α:Type}{xs:List α}{i:Int}{v:α}(h:atI xs i=some v):∃j,seqIndex? i xs.length=some j/\xs[j]? = some v/\j<xs.length /\ -(xs.length:Int)<=i/\i<xs.length:=by
 unfold atI at h
 cases e:ixN xs.length i with
 | none=>rw[e] at h;cases h
 | some j =>
  rw[e] at h
  obtain ⟨h1,h2,h3,h4⟩:=rD e
  exact ⟨j,h1,h,h2,h3,h4⟩
theorem cz {α:Type}{xs:List α}{j:Nat}{v:α}(h:xs[j]? = some v):atI xs (j:Int)=some v:=by
 have hj:j<xs.length:=(v7.mp h).1
 have e:ixN xs.length (j:Int)=some j:=by
  unfold ixN
  rw[if_pos (by omega),if_pos (by omega)];simp
 unfold atI;rw[e];exact h
def rE (b:Expr):Prop:=∀o i,subscripted b false o i=operate [o,i] (getItem o i)
def IxR (X:Cx)(r:R2):Prop :=
 ∀(value slice:Expr) (pins:List (Addr×Obj)) (s:vR) (σ:St) (H:Hp) (x y:V) (v u:vP) (Q:VK),Inv X pins σ H s->RelV x v->RelV y u->r x y H Q →
  subscripted slice false v u=operate [v,u] (getItem v u)->wA (wI X.prog X.w) X.A (subscriptTail value slice v u) (EP X pins σ Q) X.xe s
def MtR (X:Cx)(id:String)(r:V->List V->Hp->VK->Prop):Prop :=
 ∀(pins:List (Addr×Obj)) (s:vR) (σ:St) (H:Hp) (x:V) (xs:List V) (v:vP) (us:List vP) (Q:VK),Inv X pins σ H s->RelV x v->Vals xs us->r x xs H Q →
  wA (wI X.prog X.w) X.A (call (.builtin id) (v :: us)) (EP X pins σ Q) X.xe s
section
variable  {X:Cx}{a b:Expr}{ta tb:TE}{pos:Pos}
theorem bK {r:R2}(hr:IxR X r)(ha:PE X a ta)(hb:PE X b tb)(hs:rE b):PE X (.Subscript a b pos) (tOp r ta tb):=by
 intro pins s σ H Q I h
 exact Subscript_ (tZ ha hb I h λv u s2 x y H2 I2 rx ry q=>hr a b pins s2 σ H2 x y v u Q I2 rx ry q (hs _ _))
def vj (K:vV):R2:=λx y H Q=>∃p xs i v,x = .ref p/\y = .int i/\SqL K H p xs/\atI xs i=some v/\Q v H
def vk (K:vV):R2:=λx y H Q=>∃p xs i v,x = .ref p/\y = .int i/\SqT K H p xs/\atI xs i=some v/\Q v H
theorem dU:IxR X (vj X.K):=by
 intro value slice pins s σ H x y v u Q I rx ry h hs
 obtain ⟨p,xs,i,z,rfl,rfl,hq,he,q⟩:=h
 cases rx
 obtain ⟨t,rfl⟩:=ry
 obtain ⟨its,r,pl,hz⟩:=I.list hq
 obtain ⟨j,h1,h2,h3,h4,h5⟩:=mD he
 obtain ⟨w,ew,rw'⟩:=r.get h2
 have hl:=r.length
 have hn:=k8
 have fin:EP X pins σ Q w s:=⟨z,H,I,rw',q⟩
 by_cases h0:0<=i
 ·have hj:i.toNat=j:=by
   rw[DD h0 h5] at h1
   exact wB h1
  exact item_listR pl.isList h0 (by omega) (by rw[hj];simpa using ew) fin hs
 ·have hj:(i+(its.toArray.size:Int)).toNat=j:=by
   rw[seqIndex_neg (by omega) h4] at h1
   rw[vT, <- hl]
   exact wB h1
  exact B4 (x:=w) pl.isList.typeIs slot_list_getitem.lookup
   (wpAny_getItem_list_neg (Q:=λr s'=>r=w/\EP X pins σ Q r s') pl.isList (by omega) (by rw[vT] <;> omega) (by omega) (by rw[hj];simpa using ew) ⟨rfl,fin⟩) hs
theorem bH:IxR X (vk X.K):=by
 intro value slice pins s σ H x y v u Q I rx ry h hs
 obtain ⟨p,xs,i,z,rfl,rfl,hq,he,q⟩:=h
 cases rx
 obtain ⟨t,rfl⟩:=ry
 obtain ⟨its,r,pl,hz⟩:=I.tuple hq
 obtain ⟨j,h1,h2,h3,h4,h5⟩:=mD he
 obtain ⟨w,ew,rw'⟩:=r.get h2
 have hl:=r.length
 have hn:=k8
 have fin:EP X pins σ Q w s:=⟨z,H,I,rw',q⟩
 exact B4 (x:=w) pl.typeIs slot_tuple_getitem.lookup
  (getItem_tuple (j:=j) (Q:=λr s'=>r=w/\EP X pins σ Q r s') pl (by omega) (by omega) (by rw[vT, <- hl];exact h1) (by simpa using ew) ⟨rfl,fin⟩) hs
theorem jv (lo hi:Option Int)(n:Nat):(sliceBounds lo hi none n).1=((HT.sIx n 0 lo:Nat):Int)/\(sliceBounds lo hi none n).2.1=((HT.sIx n n hi:Nat):Int)/\(sliceBounds lo hi none n).2.2=1:=by
 refine ⟨?_,?_,rfl⟩
 ·cases lo with
  | none=>simp[sliceBounds,HT.sIx]
  | some i =>
   simp only[sliceBounds,HT.sIx,Dh,show (1:Int)>0 by decide,if_true]
   by_cases h:i<0
   ·simp only[h,if_true] <;> omega
   ·simp only[h,if_false] <;> omega
 ·cases hi with
  | none=>simp[sliceBounds,HT.sIx]
  | some i =>
   simp only[sliceBounds,HT.sIx,Dh,show (1:Int)>0 by decide,if_true]
   by_cases h:i<0
   ·simp only[h,if_true] <;> omega
   ·simp only[h,if_false] <;> omega
theorem ir (its:List vP)(lo hi:Option Int):slicePick its.toArray lo hi none=((its.drop (HT.sIx its.length 0 lo)).take (HT.sIx its.length its.length hi-HT.sIx its.length 0 lo)).toArray:=by
 obtain ⟨h1,h2,h3⟩:=jv lo hi its.toArray.size
 unfold slicePick
 rw[h1,h2,h3]
 simp only[sliceRange_one,pick_run,vT] <;> rfl
def rSlL (K:vV):V->Option Int->Option Int->Hp->VK->Prop:=λx lo hi H Q=>∃a xs,x = .ref a/\SqL K H a xs/\∀p,H p=none->Q (.ref p) (upd H p (.lst (cJ xs lo hi)))
theorem mE:SlR X (rSlL X.K):=by
 intro pins s σ H x v vl vu lo hi sl Q I rx hs pl pu h
 obtain ⟨a,xs,rfl,hx,q⟩:=h
 cases rx
 obtain ⟨its,r,ht,hz⟩:=I.list hx
 have hlen:=r.length
 refine ⟨"list",_,slot_list_getitem.lookup,ht.isList.typeIs,?_⟩
 refine wpAny_getItem_list_slice ht.isList hs pl pu .none (by simp) ?_ (by rw[vT] <;> omega)
 rw[ir, <- hlen]
 refine ⟨.ref s.heap.objs.size,_,I.laid (t':=s.toks) (o :=.lst (cJ xs lo hi)) (λb ob q=>vO _ q) (vS _) ?_,rfl,q _ (I.hok.fresh (vS _))⟩
 exact ⟨wL (fU xs lo hi) hz,_,0,(r.drop (HT.sIx xs.length 0 lo)).take (HT.sIx xs.length xs.length hi-HT.sIx xs.length 0 lo),v9 _ rfl⟩
def fg:V->Bool
 | .non=>true
 | .bl _=>true
 | .int _=>true
 | .str _=>true
 | _=>false
def eqV:V->V->Bool
 | .non,.non=>true
 | .bl a,.bl b=>a == b
 | .bl a,.int b=>(if a then 1 else 0) == b
 | .int a,.bl b=>a == (if b then 1 else 0)
 | .int a,.int b=>a == b
 | .str a,.str b=>a == b
 | _,_=>false
theorem uc {A:w6}{s:vR}{y x:V}{u v:vP}(ry:RelV y u)(rx:RelV x v)(fy:fg y=true)(fx:fg x=true):Cr A s u v (eqV y x):=by
 cases y with
 | non =>
  cases ry
  cases x with
  | non=>cases rx;exact SeqAt.EqAt.same _
  | bl b=>cases rx;exact SeqAt.EqAt.none_bool b
  | int b=>obtain ⟨t,rfl⟩:=rx;exact SeqAt.EqAt.none_int b t
  | str b=>obtain ⟨t,rfl⟩:=rx;exact SeqAt.EqAt.none_str b t
  | _=>exact absurd (show false=true from fx) wa
 | bl a =>
  cases ry
  cases x with
  | non=>cases rx;exact SeqAt.EqAt.bool_none a
  | bl b=>cases rx;exact SeqAt.EqAt.bool_bool a b
  | int b=>obtain ⟨t,rfl⟩:=rx;exact SeqAt.EqAt.bool_int a b t
  | str b=>obtain ⟨t,rfl⟩:=rx;exact SeqAt.EqAt.bool_str a b t
  | _=>exact absurd (show false=true from fx) wa
 | int a =>
  obtain ⟨t',rfl⟩:=ry
  cases x with
  | non=>cases rx;exact SeqAt.EqAt.int_none a t'
  | bl b=>cases rx;exact SeqAt.EqAt.int_bool a t' b
  | int b=>obtain ⟨t,rfl⟩:=rx;exact zB a t' b t
  | str b=>obtain ⟨t,rfl⟩:=rx;exact CC a t' b t
  | _=>exact absurd (show false=true from fx) wa
 | str a =>
  obtain ⟨t',rfl⟩:=ry
  cases x with
  | non=>cases rx;exact SeqAt.EqAt.str_none a t'
  | bl b=>cases rx;exact SeqAt.EqAt.str_bool a t' b
  | int b=>obtain ⟨t,rfl⟩:=rx;exact CD a t' b t
  | str b=>obtain ⟨t,rfl⟩:=rx;exact SeqAt.EqAt.str_str a t' b t
  | _=>exact absurd (show false=true from fx) wa
 | _=>exact absurd (show false=true from fy) wa
def eqU (x:V)(u:vP):Bool:=match u with
 | .none=>eqV .non x
 | .bool b=>eqV (.bl b) x
 | .int i _=>eqV (.int i) x
 | .str z _=>eqV (.str z) x
 | _=>false
theorem pz {x y:V}{u:vP}(r:RelV y u)(f:fg y=true):eqU x u=eqV y x:=by
 cases y with
 | non=>cases r;rfl
 | bl b=>cases r;rfl
 | int i=>obtain ⟨t,rfl⟩:=r;rfl
 | str z=>obtain ⟨t,rfl⟩:=r;rfl
 | _=>exact absurd (show false=true from f) wa
theorem jw {x:V}:∀{xs:List V} {us:List vP},Vals xs us->xs.all fg=true->us.any (eqU x)=xs.any λy=>eqV y x
 | _,_,.nil,_=>rfl
 | y :: xs,u :: us,.cons r t,f=>by
  rw[CG,x5] at f
  rw[Ap,Ap,pz r f.1,jw t f.2]
theorem gF {A:w6}{s:vR}{x:V}{v:vP}(rx:RelV x v)(fx:fg x=true):∀{xs:List V} {us:List vP},Vals xs us->xs.all fg=true->∀u∈us,Cr A s u v (eqU x u)
 | _,_,.nil,_=>λu hu=>by cases hu
 | y :: xs,u :: us,.cons r t,f=>λu' hu=>by
  rw[CG,x5] at f
  rcases wj.mp hu with rfl | hu
  ·rw[pz r f.1];exact uc r rx f.1 fx
  ·exact gF rx fx t f.2 u' hu
def inV (x:V)(xs:List V):Bool:=xs.any λy=>eqV y x
def rIn (K:vV)(neg:Bool):R2:=λx y H Q=>∃p xs,y = .ref p/\(SqL K H p xs\/SqT K H p xs)/\fg x=true/\xs.all fg=true/\Q (.bl (if neg then !inV x xs else inV x xs)) H
theorem jx:OpR X (yp .NotIn) (rIn X.K true):=by
 intro pins s σ H x y v u Q I rx ry h
 obtain ⟨p,xs,rfl,hq,fx,fs,q⟩:=h
 cases ry
 rcases hq with hq | hq
 ·obtain ⟨its,r,pl,hz⟩:=I.list hq
  refine SeqAt.notIn_listAt (eqU x) pl.isList (λw hw=>gF rx fx r fs w (by simpa using hw)) ⟨.bl _,H,I,rfl,?_⟩
  rw[show its.toArray.any (eqU x)=its.any (eqU x) by simp,jw r fs]
  exact q
 ·obtain ⟨its,r,pl,hz⟩:=I.tuple hq
  refine SeqAt.notIn_tupleAt (eqU x) pl (λw hw=>gF rx fx r fs w (by simpa using hw)) ⟨.bl _,H,I,rfl,?_⟩
  rw[show its.toArray.any (eqU x)=its.any (eqU x) by simp,jw r fs]
  exact q
theorem aH:cc X (.builtin "len") (λxs H Q=>∃p ys,xs=[.ref p]/\(SqL X.K H p ys\/SqT X.K H p ys)/\Q (.int ys.length) H):=by
 intro pins s σ H xs us Q I r h
 obtain ⟨p,ys,rfl,hq,q⟩:=h
 obtain ⟨u,rfl,rx⟩:=vals1 r
 cases rx
 have hn:=k8
 rcases hq with hq | hq
 ·obtain ⟨its,r',pl,hz⟩:=I.list hq
  have hlen:=r'.length
  exact Calls.call_len_list pl.isList (by simp only[vT] <;> omega) ⟨.int ys.length,H,I.tok _,⟨s.toks+1,by rw[vT,hlen]⟩,q⟩
 ·obtain ⟨its,r',pl,hz⟩:=I.tuple hq
  have hlen:=r'.length
  exact len_tuple pl (by simp only[vT] <;> omega) ⟨.int ys.length,H,I.tok _,⟨s.toks+1,by rw[vT,hlen]⟩,q⟩
theorem fh:cc X (.type "list") (λxs H Q=>∃p ys,xs=[.ref p]/\(SqL X.K H p ys\/SqT X.K H p ys)/\∀l,H l=none->Q (.ref l) (upd H l (.lst ys))):=by
 intro pins s σ H xs us Q I r h
 obtain ⟨p,ys,rfl,hq,q⟩:=h
 obtain ⟨u,rfl,rx⟩:=vals1 r
 cases rx
 have fin:∀(its:List vP),Vals ys its->ys.length<=vZ->∀(h':Heap) (c':Nat),(∀b o',s.heap.get? b=some o'->h'.get? b=some o') →
   h'.get? s.heap.objs.size=some { cls :=.type "list",dict:=none,data :=.seq its.toArray c',slots := #[] }->EP X pins σ Q (.ref s.heap.objs.size) { s with heap:=h' }:=λits r' hz h' c' kp e =>
  ⟨.ref s.heap.objs.size,_,I.laid (t':=s.toks) kp (vS _) (show a6 X.prog X.w _ h' _ (.lst ys) from ⟨hz,its,c',r',e⟩),rfl,q _ (I.hok.fresh (vS _))⟩
 rcases hq with hq | hq
 ·obtain ⟨its,r',pl,hz⟩:=I.list hq
  have hlen:=r'.length
  obtain ⟨o,ho,hc,n,hd⟩:=pl.isList
  exact call_list_seq p (.inl rfl) ho hc hd (λh' c' kp e=>fin its r' hz h' c' kp e) (by simp only[vT] <;> omega)
 ·obtain ⟨its,r',pl,hz⟩:=I.tuple hq
  have hlen:=r'.length
  obtain ⟨o,ho,hc,n,hd⟩:=pl
  exact call_list_seq p (.inr rfl) ho hc hd (λh' c' kp e=>fin its r' hz h' c' kp e) (by simp only[vT] <;> omega)
theorem ba:cc X (.type "tuple") (λxs H Q=>∃p ys,xs=[.ref p]/\((SqL X.K H p ys/\∀l,H l=none->Q (.ref l) (upd H l (.tup ys)))\/(SqT X.K H p ys/\Q (.ref p) H))):=by
 intro pins s σ H xs us Q I r h
 obtain ⟨p,ys,rfl,h⟩:=h
 obtain ⟨u,rfl,rx⟩:=vals1 r
 cases rx
 rcases h with ⟨hq,q⟩ | ⟨hq,q⟩
 ·obtain ⟨its,r',pl,hz⟩:=I.list hq
  have hlen:=r'.length
  refine call_tuple_list pl.isList (λh' kp =>?_) (by simp only[vT] <;> omega)
  have I1:Inv X pins σ H { s with heap:=h' }:=I.kept (t':=s.toks) kp
  have I2:Inv X pins σ (upd H h'.objs.size (.tup ys)) { s with heap:=h'.push { cls :=.type "tuple",data :=.seq its.toArray } } :=
   I1.laid (t':=s.toks) (λb o e=>vO _ e) (vS _) (show a6 X.prog X.w _ _ _ (.tup ys) from ⟨hz,its,r',cQ.new _ _⟩)
  exact ⟨.ref h'.objs.size,_,I2,rfl,q _ (I1.hok.fresh (vS _))⟩
 ·obtain ⟨its,r',pl,hz⟩:=I.tuple hq
  exact call_tuple_same pl ⟨.ref p,H,I,rfl,q⟩
def tyV (K:vV)(T:String)(x:V)(H:Hp):Prop:=match x with
 | .str _=>T = "str"
 | .int _=>T = "int"
 | .ref p=>(T = "list" /\ ∃xs,SqL K H p xs)\/(T = "tuple" /\ ∃o,K.lookup p=some o/\o.cls = .type "tuple" /\ o.dict=none) ∨
   (T = "dict" /\ ((∃kvs,H p=some (.dK kvs))\/∃kvs,H p=some (.dT kvs)))\/(T = "set" /\ ∃S n,H p=some (.set S n))
 | _=>False
theorem pB {pins:List (Addr×Obj)}{σ:St}{H:Hp}{s:vR}{T:String}{x:V}{v:vP}(I:Inv X pins σ H s)(r:RelV x v)(ty:tyV X.K T x H) :
  s.TypeIs v T/\∀a,v = .ref a->∃ob,s.heap.get? a=some ob/\ob.dict=none:=by
 cases x with
 | str z =>
  obtain ⟨t,rfl⟩:=r
  cases (show T = "str" from ty)
  exact ⟨typeIs_str s z t,λ_ e=>nomatch e⟩
 | int i =>
  obtain ⟨t,rfl⟩:=r
  cases (show T = "int" from ty)
  exact ⟨DW s i t,λ_ e=>nomatch e⟩
 | ref p =>
  cases r
  rcases ty with ⟨rfl,xs,hq⟩ | ⟨rfl,o,hk,hc,hd⟩ | ⟨rfl,hk⟩ | ⟨rfl,S,n,hk⟩
  ·obtain ⟨its,_,pl,_⟩:=I.list hq
   refine ⟨pl.isList.typeIs,λa e =>?_⟩
   cases e
   obtain ⟨o,n,e,c,hd,_⟩:=pl
   exact ⟨o,e,hd⟩
  ·refine ⟨⟨o,I.kIn p o hk,hc⟩,λa e =>?_⟩
   cases e
   exact ⟨o,I.kIn _ o hk,hd⟩
  ·have z:∃o,s.heap.get? p=some o/\o.ExactDict:=by
    rcases hk with ⟨kvs,hk⟩ | ⟨kvs,hk⟩
    ·obtain ⟨_,_,_,_,o,_,_,e,ex,_⟩:=I.hok p _ hk
     exact ⟨o,e,ex⟩
    ·obtain ⟨_,_,_,_,o,_,_,e,ex,_⟩:=I.hok p _ hk
     exact ⟨o,e,ex⟩
   obtain ⟨o,e,ex⟩:=z
   refine ⟨⟨o,e,ex.1⟩,λa e2 =>?_⟩
   cases e2
   exact ⟨o,e,ex.2.1⟩
  ·obtain ⟨o,_,_,_,e,ex,_⟩:=I.hok p _ hk
   refine ⟨⟨o,e,ex.1⟩,λa e2 =>?_⟩
   cases e2
   exact ⟨o,e,ex.2.1⟩
 | _=>exact False.elim ty
def tBM0 (K:vV)(T:String)(r:V->List V->Hp->VK->Prop)(to:TE):TE:=λσ H Q=>to σ H λx H1=>tyV K T x H1/\r x [] H1 Q
def tBM (K:vV)(T:String)(r:V->List V->Hp->VK->Prop)(to:TE)(t:TA):TE:=λσ H Q=>to σ H λx H1=>tyV K T x H1/\t σ H1 λxs H2=>r x xs H2 Q
variable  {o e:Expr}{es:List Expr}{to:TE}{t:TA}{name:Str}{apos cpos:Pos}{T id:String}{r:V->List V->Hp->VK->Prop}
theorem ud (pa:PlainAttrs T)(slot:Slot T name id)(hty:typeOf (.builtin id)=pure (.type "method_descriptor"))(hm:MtR X id r)(ho:PE X o to)
  (hbase:attributeBase o name X.env (eval o X.env)=eval o X.env:=by rfl) (hline:(apos.endLine == cpos.line)=true:=by rfl):PE X (.Call (.Attribute o name apos) [] [] cpos) (tBM0 X.K T r to):=by
 intro pins s σ H Q I h
 refine wpAny_Call_method0_late hbase hline (thn (ho pins s σ H _ I h) λv s1 ⟨x,H1,I1,r1,ty,q1⟩ =>?_)
 obtain ⟨h1,h2⟩:=pB I1 r1 ty
 exact ⟨T,id,pa,slot,hty,h1,h2,y6 rfl (PySem.evalArgs_none (hm pins s1 σ H1 x [] v [] Q I1 r1 .nil q1))⟩
theorem cH (pa:PlainAttrs T)(slot:Slot T name id)(hty:typeOf (.builtin id)=pure (.type "method_descriptor"))(hm:MtR X id r)(ho:PE X o to)(ha:PA X (e :: es) t)
  (hbase:attributeBase o name X.env (eval o X.env)=eval o X.env:=by rfl)
  (hfew:((Aw cpos (xb (e :: es) X.env)).all (λx => !x.1) && (backToKw cpos (keywordEach [] X.env)).all (λx=>x.1.isSome)
   && decide ((e :: es).length+([]:List Keyword).length+(if ([]:List Keyword).isEmpty then 0 else 1)<30))=true:=by rfl)
  (hline:(apos.endLine == cpos.line)=true:=by rfl) (hs:xb (e :: es) X.env=(false,eval e X.env) :: xb es X.env:=by rfl) (hplain:(Aw cpos (xb es X.env)).any (·.1)=false:=by rfl) :
  PE X (.Call (.Attribute o name apos) (e :: es) [] cpos) (tBM X.K T r to t):=by
 intro pins s σ H Q I h
 refine B5 hbase hfew hline rfl (thn (ho pins s σ H _ I h) λv s1 ⟨x,H1,I1,r1,ty,q1⟩ =>?_)
 obtain ⟨h1,h2⟩:=pB I1 r1 ty
 refine ⟨T,id,pa,slot,hty,h1,h2,?_⟩
 have hA:=ha cpos pins s1 σ H1 _ I1 q1
 rw[hs] at hA ⊢
 refine y6 (by show (false || (Aw cpos (xb es X.env)).any (·.1))=false;rw[hplain] <;> rfl) (zW ?_)
 exact thn hA λus s2 ⟨vs,H2,I2,r2,q2⟩=>hm pins s2 σ H2 x vs v us Q I2 r1 r2 q2
end
open PySem PySem.Spec PyProof.Rows
def MtM (X:Cx)(id:String)(r:V->List V->Hp->VK->Prop):Prop :=
 ∀(pins:List (Addr×Obj)) (s:vR) (σ:St) (H:Hp) (x:V) (xs:List V) (v:vP) (us:List vP) (Q:VK),Inv X pins σ H s->RelV x v->Vals xs us->r x xs H Q →
  wA (wI X.prog X.w) X.A (call (.builtin id) (v :: us)) (EP X pins σ Q) X.xe s
theorem Vals.one:∀{x:V} {us:List vP},Vals [x] us->∃u,us=[u]/\RelV x u
 | _,_,.cons r .nil=>⟨_,rfl,r⟩
theorem Vals.zero:∀{us:List vP},Vals [] us->us=[]
 | _,.nil=>rfl
theorem Vals.dropLast {xs:List V}{us:List vP}(h:Vals xs us):Vals xs.dropLast us.dropLast:=by
 induction h with
 | nil=>exact .nil
 | cons r t ih =>
  cases t with
  | nil=>exact .nil
  | cons q t'=>exact .cons r ih
theorem Vals.eraseIdx:∀{xs:List V} {us:List vP} (i:Nat),Vals xs us->Vals (xs.eraseIdx i) (us.eraseIdx i)
 | _,_,_,.nil =>.nil
 | _,_,0,.cons _ t=>t
 | _,_,i+1,.cons r t =>.cons r (Vals.eraseIdx i t)
theorem Vals.rep {xs:List V}{us:List vP}(h:Vals xs us):∀k:Nat,Vals (w9 k xs).flatten (w9 k us).flatten
 | 0 =>.nil
 | k+1=>by
  rw[yq,yq,yr,yr]
  exact Vals.append h (Vals.rep h k)
theorem lj {α:Type}(l:List α):l.eraseIdx (l.length-1)=l.dropLast:=by
 induction l with
 | nil=>rfl
 | cons a r ih =>
  cases r with
  | nil=>rfl
  | cons b r =>
   have e:(a :: b :: r).length-1=((b :: r).length-1)+1:=by
    have h1:(a :: b :: r).length=r.length+2:=rfl
    have h2:(b :: r).length=r.length+1:=rfl
    omega
   rw[e,BJ,ih]
   all_goals rfl
theorem iJ {α:Type}:∀(l:List α) (i:Nat),(l.eraseIdx i).length<=l.length
 | [],_=>vS _
 | _ :: _,0=>zv _
 | _ :: r,i+1=>BU (iJ r i)
theorem foldl_rep (its:List vP):∀(k:Nat) (acc:List vP),
  List.foldl (λx1 x2=>x1++x2) acc.toArray (w9 k its.toArray)=(acc++(w9 k its).flatten).toArray
 | 0,acc=>by simp
 | k+1,acc=>by
  have e:acc.toArray++its.toArray=(acc++its).toArray:=by simp
  have e2:(acc++its)++(w9 k its).flatten=acc++(w9 (k+1) its).flatten:=by
   rw[yq,yr,wF]
  rw[<- e2, <- foldl_rep its k (acc++its), <- e,yq,B7]
section
variable  {X:Cx}{pins:List (Addr×Obj)}{σ:St}{H:Hp}{s:vR}{l b:Addr}{xs ys zs:List V}
theorem Inv.rF {its its':List vP}{n:Nat}{f:Array vP->Array vP}{t':Nat}(I:Inv X pins σ H s)(hH:H l=some (.lst xs))
  (e:s.heap.get? l=some { cls :=.type "list",data :=.seq its.toArray n }) (hf:f its.toArray=its'.toArray) (hv:Vals ys its') (hz:ys.length<=vZ) :
  Inv X pins σ (upd H l (.lst ys)) { s with heap:=s.heap.update l (zt f),toks:=t' }:=by
 have q:=PySem.IsL.update e f
 rw[hf] at q
 refine I.write (x:=l) (e:=l) (by rw[hH];exact trivial) (.inl rfl) (λb' u hb hu=>(xp s.heap (zt f) (xF hb)).trans hu) ⟨_,q⟩ ?_
 exact ⟨hz,its',_,hv,q⟩
theorem Inv.vm {its:List vP}{t':Nat}(I:Inv X pins σ H s)(hv:Vals ys its)(hz:ys.length<=vZ) :
  Inv X pins σ (upd H s.heap.objs.size (.lst ys)) { s with heap:=s.heap.push { cls :=.type "list",data :=.seq its.toArray },toks:=t' } :=
 I.laid (λ_ _ q=>vO _ q) (vS _) ⟨hz,its,0,hv,v9 _ rfl⟩
theorem Inv.fresh (I:Inv X pins σ H s):H s.heap.objs.size=none:=I.hok.fresh (vS _)
theorem Inv.nI (I:Inv X pins σ H s)(hH:H l=some (.lst xs)):xs.length<=vZ/\∃(its:List vP) (n:Nat),Vals xs its/\xs.length=its.length/\s.heap.get? l=some { cls :=.type "list",data :=.seq its.toArray n }:=by
 obtain ⟨z,its,n,r,e⟩:=I.hok l _ hH
 exact ⟨z,its,n,r,r.length,e⟩
theorem gG {n:Nat}(h:n<=vZ):Builtin.List.listTooLong n=false:=by
 unfold Builtin.List.listTooLong
 exact decide_eq_false (by omega)
end
section
variable  {X:Cx}
def rG:V->List V->Hp->VK->Prop:=λx vs H Q=>∃l xs y,x = .ref l/\vs=[y]/\H l=some (.lst xs)/\xs.length<vZ/\Q .non (upd H l (.lst (xs++[y])))
theorem b7:MtM X "list.append" rG:=by
 intro pins s σ H x vs v us Q I rx rv h
 obtain ⟨l,xs,y,rfl,rfl,hH,hz,q⟩:=h
 cases rx
 obtain ⟨u,rfl,ru⟩:=rv.one
 obtain ⟨z,its,n,r,hl,e⟩:=I.nI hH
 refine AH F.slot_list_append ⟨_,e,rfl⟩ F.entry_list_append (F.args_list_append_2 _ _) (PySem.list_append l its.toArray n u (by rw[vT];omega)) ⟨e,?_⟩
 refine ⟨.non,_,I.rF (its':=its++[u]) hH e (by simp) (r.append (.cons ru .nil)) ?_,rfl,q⟩
 rw[vQ,xC]
 omega
def rH:V->List V->Hp->VK->Prop:=λx vs H Q=>∃l b xs zs,x = .ref l/\vs=[.ref b]/\H l=some (.lst xs)/\H b=some (.lst zs)/\xs.length+zs.length<=vZ/\Q .non (upd H l (.lst (xs++zs)))
theorem dW:MtM X "list.extend" rH:=by
 intro pins s σ H x vs v us Q I rx rv h
 obtain ⟨l,b,xs,zs,rfl,rfl,hH,hB,hz,q⟩:=h
 cases rx
 obtain ⟨u,rfl,ru⟩:=rv.one
 cases ru
 obtain ⟨z,its,n,r,hl,e⟩:=I.nI hH
 obtain ⟨z2,its2,n2,r2,hl2,e2⟩:=I.nI hB
 have hsz:its.toArray.size+its2.toArray.size<=vZ:=by rw[vT,vT];omega
 have hlong:¬ (!its.toArray.isEmpty && Builtin.List.listTooLong (its.toArray.size+its2.toArray.size))=true:=by
  rw[gG hsz,DJ]
  exact wa
 refine AH F.slot_list_extend ⟨_,e,rfl⟩ F.entry_list_extend (F.args_list_extend_2 _ _)
  (AutoSeq1.list_extend_list_list_0 l its.toArray n b its2.toArray n2 hlong (by rw[vT];omega) (by omega)) ⟨e,e2,?_⟩
 refine ⟨.non,_,I.rF (its':=its++its2) hH e (by simp) (r.append r2) ?_,rfl,q⟩
 rw[vQ]
 omega
def rPop:V->List V->Hp->VK->Prop:=λx vs H Q=>∃l xs y,x = .ref l/\vs=[]/\H l=some (.lst xs)/\xs[xs.length-1]? = some y/\Q y (upd H l (.lst xs.dropLast))
theorem ue:MtM X "list.pop" rPop:=by
 intro pins s σ H x vs v us Q I rx rv h
 obtain ⟨l,xs,y,rfl,rfl,hH,hy,q⟩:=h
 cases rx
 have hus:=rv.zero
 subst hus
 obtain ⟨z,its,n,r,hl,e⟩:=I.nI hH
 obtain ⟨u,hu,ru⟩:=r.get hy
 have hy':its.toArray[its.toArray.size-1]? = some u:=by
  show its.toArray[its.length-1]? = some u
  rw[<- v8, <- hl]
  exact hu
 refine AH Dw ⟨_,e,rfl⟩ Di (F.args_list_pop_1 _) (MeetsSeq.list_pop_last l its.toArray n u hy' (by rw[vT];omega)) ⟨e,?_⟩
 refine ⟨y,_,I.rF (its':=its.dropLast) hH e ?_ r.dropLast ?_,ru,q⟩
 ·show its.toArray.eraseIdxIfInBounds (its.toArray.size-1)=its.dropLast.toArray
  rw[vT,AB,lj]
 ·rw[List.length_dropLast]
  omega
def uf:V->List V->Hp->VK->Prop:=λx vs H Q=>∃l xs i k y,x = .ref l/\vs=[.int i]/\H l=some (.lst xs) /\ -(2 ^ 63)<=i/\i<2 ^ 63/\seqIndex? i xs.length=some k/\xs[k]? = some y/\Q y (upd H l (.lst (xs.eraseIdx k)))
theorem j8:MtM X "list.pop" uf:=by
 intro pins s σ H x vs v us Q I rx rv h
 obtain ⟨l,xs,i,k,y,rfl,rfl,hH,h1,h2,hk,hy,q⟩:=h
 cases rx
 obtain ⟨u,rfl,ru⟩:=rv.one
 obtain ⟨t,rfl⟩:=ru
 obtain ⟨z,its,n,r,hl,e⟩:=I.nI hH
 obtain ⟨w,hw,rw'⟩:=r.get hy
 refine AH Dw ⟨_,e,rfl⟩ Di (F.args_list_pop_2 _ _)
  (MeetsSeq.list_pop_at l its.toArray n i t k w (fitsIndex_both h1 h2) (by rw[vT, <- hl];exact hk) (by rw[<- v8];exact hw) (by rw[vT];omega)) ⟨e,?_⟩
 refine ⟨y,_,I.rF (its':=its.eraseIdx k) hH e ?_ (r.eraseIdx k) ?_,rw',q⟩
 ·show its.toArray.eraseIdxIfInBounds k=(its.eraseIdx k).toArray
  rw[AB]
 ·have:=iJ xs k
  omega
def rRep:R2:=λx y H Q=>∃l k xs,x = .ref l/\y = .int k/\H l=some (.lst xs) /\ -(2 ^ 63)<=k/\k<2 ^ 63/\xs.length*k.toNat<=vZ ∧
 ∀p,H p=none->Q (.ref p) (upd H p (.lst (w9 k.toNat xs).flatten))
theorem len_rep {α:Type}(xs:List α)(k:Nat):(w9 k xs).flatten.length=k*xs.length:=by
 induction k with
 | zero=>simp
 | succ k ih=>rw[yq,yr,vQ,ih,Nat.succ_mul,Nat.add_comm]
theorem ug:OpR X (binaryOp .Mult) rRep:=by
 intro pins s σ H x y v u Q I rx ry h
 obtain ⟨l,k,xs,rfl,rfl,hH,h1,h2,hz,q⟩:=h
 cases rx
 obtain ⟨t,rfl⟩:=ry
 obtain ⟨z,its,n,r,hl,e⟩:=I.nI hH
 have hlen:its.toArray.size*k.toNat<=vZ:=by rw[vT, <- hl];exact hz
 have hcap:¬ its.toArray.size*k.toNat>(2 ^ 63-1)/8:=by
  have:(vZ:Nat)<=(2 ^ 63-1)/8:=by decide
  omega
 have hfit:¬ (!Builtin.List.listFitsIndex k)=true:=by
  rw[fitsIndex_both h1 h2]
  exact wa
 have hlong:¬ Builtin.List.listTooLong (its.toArray.size*k.toNat)=true:=by
  rw[gG hlen]
  exact wa
 have hnew:List.foldl (λx1 x2=>x1++x2) #[] (w9 (if its.toArray.isEmpty=true then 0 else k.toNat) its.toArray)=(w9 k.toNat its).flatten.toArray:=by
  have f0:∀m:Nat,List.foldl (λx1 x2=>x1++x2) #[] (w9 m its.toArray)=(w9 m its).flatten.toArray:=λm=>by
   have:=foldl_rep its m []
   rw[zF] at this
   exact this
  rw[f0]
  cases its with
  | nil=>simp
  | cons a r'=>rw[if_neg (by simp)]
 refine wpAny_binaryOp_repeat_ref (T := "list") (U := "int") (by decide) ⟨_,e,rfl⟩ (λs'=>DW s' k t) noFill_list_mul F.fills_int_mul Dx repeat_list F.slot_int_index.lookup
  (AH Dx (DW s k t) F.entry_int_rmul (F.args_int_rmul_2 _ _) (int___rmul___int_list k t l its.toArray n)
   ⟨e,rfl,⟨_,e,rfl⟩,AH F.slot_list_mul ⟨_,e,rfl⟩ F.entry_list_mul (F.args_list_mul_2 _ _) (AutoListH.list___mul___list_int_3 l its.toArray n k t hfit hcap hlong) ⟨e,?_⟩⟩)
 rw[hnew]
 exact ⟨.ref _,_,I.vm (t':=s.toks) (r.rep k.toNat) (by rw[len_rep,C8];exact hz),rfl,q _ I.fresh⟩
end
section
variable  {prog:wu}{w:w4}{A:w6}{E:vP->vR->Prop}{s:vR}
end
section
variable  {X:Cx}
end
end L2
namespace Att
open PySem PySem.W PySem.Calls PyProof.Rows
theorem gg {P:Params}{h:Heap}:∀(ns:List Int) (vs:List vP),WellAll P h vs (ns.map WData.int)->yY vs ns:=by
 intro ns
 induction ns with
 | nil =>
  intro vs w
  rw[C7] at w
  cases w
  exact .nil
 | cons n ns ih =>
  intro vs w
  rw[wQ] at w
  cases w with
  | cons a b =>
   cases a
   exact .cons _ _ (ih _ b)
theorem nJ {l:OpenLaw}{n:Nat}(hn:l.most=some n){P:Params}{h:Heap}{args:List WData}{vals:List vP}
  (hpre:l.row.toRowW.claim.pre args=true) (hwl:WellAll P h vals args) :
  ∃a vs ns,vals=[wz a]/\args=[WData.list (ns.map WData.int)]/\h.get? a=some { cls :=.type "list",data :=.seq vs.toArray }/\yY vs ns/\ns.length<=n:=by
 have hsh:WShape.hasAll [] args [.list .int]=true:=(pre_splitW hpre).1
 have hc:l.pre.holds [] { args:=args }=true:=(pre_splitW hpre).2
 obtain ⟨d,r,rfl,h1,h2⟩:=hasAllW_cons hsh
 obtain rfl:=hasAllW_nil h2
 obtain ⟨xs,rfl,h3⟩:=hasW_list h1
 obtain ⟨ns,rfl⟩:=items_int h3
 have hlen:ns.length<=n:=by
  unfold OpenLaw.pre at hc
  have h4:(WTm.not (.lt (.lit (.int (n:Int))) (.len (.arg 0)))).holds [] { args:=[.list (ns.map .int)] }=true:=by
   have h4:=(holds_andW hc).1
   rw[hn] at h4
   exact h4
  have h5:=condW_of h4 (w_not (w_lt w_lit (w_len_list (w_arg rfl))))
  rw[vM] at h5
  refine Dj λq =>?_
  have q':(n:Int)<((ns.length:Nat):Int):=by omega
  first
   | (rw[decide_eq_true q'] at h5;exact absurd h5 (by decide))
   | (simp at h5;omega)
 cases hwl with
 | cons w1 w2 =>
  cases w2
  cases w1 with
  | list ho hall=>exact ⟨_,_,ns,rfl,rfl,ho,gg ns _ hall,hlen⟩
theorem nK (l:OpenLaw)(args:List WData):l.row.toRowW.claim.post args (.bool true) args=true :=
 postW_of (r:=l.row.toRowW) (X:=(true == true))
  (show WShape.has [] (.bool true) .bool=true by first | rfl | decide | simp[WShape.has,WShape.arms,WShape.armsAll])
  (show (WTm.eq .res (.lit (.bool true))).value [] { args:=args,res:=some (.bool true),after:=args }=some (.bool (true == true)) from w_eq_bool (w_res rfl) w_lit) rfl
theorem j9 {l:OpenLaw}{n:Nat}{q:wu}{loose:List Str}{XP:(Str->Option vP)->Heap->Prop}{YP:w4->Heap->Prop}{d:DefRec}
  (hn:l.most=some n) (hdf:d.params.defaults=[])
  (call:∀(w:w4) (s₀ s₁:vR) (mg mb:Str->Option vP) (fa:Addr) (o:Obj) (pm cd doc:vP) (a:Addr) (vs:List vP) (ns:List Int),
   Ground q loose [] XP w s₀ mg mb s₁.heap->YP w s₁.heap →
   s₁.heap.get? fa=some o->o.data = .func (docDef d.name d.params d.body d.scope pm cd doc)->s₁.heap.CodeRec cd d.name->mg d.name=some (.ref fa) →
   s₁.heap.get? a=some { cls :=.type "list",data :=.seq vs.toArray }->yY vs ns->ns.length<=n->s₁.gens = #[] →
   AZ (wI l.prog w) callerA (.call (.ref fa) ⟨[.ref a],[]⟩) (λr s'=>r = .ok (.ret (.bool true))/\OldK s₁.heap s'.heap/\s'.os=s₁.os/\AllBare s'.gens) s₁) :
  WalkO q loose XP YP l.row.toRowW d [] (λf vs=>PySem.call f vs):=by
 intro w s₀ s₁ mg mb G Y fa o pm cd doc dV kV ho hd hcd hD hmg hg args vals as hpre hlay hrd hwl hlo
 obtain rfl:dV = .none:=Dflts.none hD hdf
 obtain rfl:kV = .none:=Dflts.noKw hD
 obtain ⟨a,vs,ns,rfl,rfl,hobj,hints,hlen⟩:=nJ hn hpre hwl
 refine enter_call (Am (call w s₀ s₁ mg mb fa o pm cd doc a vs ns G Y ho (fd_plain hd) hcd hmg hobj hints hlen hg) λr s' hq =>?_)
 obtain ⟨rfl,h2,h3,h4⟩:=hq
 exact ⟨.inl ⟨.bool true,.bool true,[],rfl,λ_=>rfl,.bool true,nK l _,λ_=>⟨List.Pairwise.nil,λ_ hm=>(nomatch hm)⟩⟩,h2,h3,h4⟩
section
variable  {prog:wu}{w:w4}{A:w6}{E:vP->vR->Prop}{s:vR}{K:Frag}
def ledger (h:Heap)(L d:Addr):List (Addr×Obj):=(xJ h.objs.size).filterMap λa=>if a=L\/a=d then none else (h.get? a).map λo=>(a,o)
end
end Att
namespace L2
open PySem PySem.Spec PyProof.Rows
theorem fL:∀{vs:List vP} {ns:List Int},yY vs ns->Vals (ns.map V.int) vs
 | _,_,.nil =>.nil
 | _,_,.cons n t h =>.cons ⟨t,rfl⟩ (fL h)
def uh (H:Hp):Prop:=∀b,H b=none\/∃o xs,H b=some (.frz o (.lst xs))
theorem pC {P:wu}{w:w4}{K:vV}{mg mb:Str->Option vP}{CX:CXT}{k:Nat}{fa a:Addr}{fd:x8}{x:Str}{sp:Sp}{s₁:vR}{vs:List vP}{ns:List Int}
  (KX:K.In s₁.heap) (hns:s₁.heap.Ns w5 mg) (hb:s₁.heap.Ns builtinsNs mb) (hbb:∀x:Str,x ≠ "__name__" -> mb x=xA x) (hlim:s₁.heap.NoLimit) (hg:s₁.gens = #[])
  (ha:s₁.heap.get? a=some { cls :=.type "list",data :=.seq vs.toArray }) (hi:yY vs ns) (hl:ns.length<=vZ) (hr:cy k callerA)
  (F:∀base:Heap,K.In base->base.Ns w5 mg->cn P w K mg base CX k fa fd [x] sp) (hbind:∀(s:vR) (u:vP),BindsTo s fd ⟨[u],[]⟩ [(x,u)])
  (hsp:∀H:Hp,uh H->SqL K H a (ns.map V.int)->sp [.ref a] H (λv _=>v = .bl true) λ_ _ _=>False)
  (hCX:∀H e s',CX [] H s₁ (λ_ _ _=>False) e s'->False) :
  AZ (wI P w) callerA (.call (.ref fa) ⟨[.ref a],[]⟩) (λr s'=>r = .ok (.ret (.bool true))/\OldK s₁.heap s'.heap/\s'.os=s₁.os/\AllBare s'.gens) s₁:=by
 have rv:=fL hi
 have lenV:=hi.length
 have core:∀H:Hp,uh H->SqL K H a (ns.map V.int)->HOk P w H s₁.heap->(∀b,H b≠none->b=a)->(H a≠none->K.lookup a=none) →
   AZ (wI P w) callerA (.call (.ref fa) ⟨[.ref a],[]⟩) (λr s'=>r = .ok (.ret (.bool true))/\OldK s₁.heap s'.heap/\s'.os=s₁.os/\AllBare s'.gens) s₁:=by
  intro H hO hS hok hA hK
  have base_of:∀{b:Addr} {o:Obj},s₁.heap.get? b=some o->H b=none->(jq s₁.heap H).get? b=some o:=λe n=>oT e n
  have noA:∀{b:Addr} {o:Obj} {es:Array DictEntry} {ep:Nat},s₁.heap.get? b=some o->o.data = .dict es ep->H b=none:=λ{b o es ep} e d=>by
   cases q:H b with
   | none=>rfl
   | some u =>
    have e':b=a:=hA b (by rw[q];simp)
    subst e'
    rw[ha] at e;cases e
    have d':Data.seq vs.toArray _=Data.dict es ep:=d
    cases d'
  have nsK:∀{b:Addr} {m:Str->Option vP},s₁.heap.Ns b m->(jq s₁.heap H).Ns b m:=λ{b m} ⟨o,es,ep,e,d,r⟩=>⟨o,es,ep,base_of e (noA e d),d,r⟩
  have hKb:K.In (jq s₁.heap H):=λb o e=>base_of (KX b o e) (by
   cases q:H b with
   | none=>rfl
   | some u =>
    have e':b=a:=hA b (by rw[q];simp)
    subst e'
    rw[hK (by rw[q];simp)] at e;cases e)
  have hM:Mod K mg (jq s₁.heap H):=⟨hKb,nsK hns,⟨mb,nsK hb,hbb⟩,let ⟨mc,h1,h2⟩:=hlim;⟨mc,nsK h1,h2⟩⟩
  have e0:rp P w K mg (jq s₁.heap H) callerA [] s₁ H:=⟨rfl,hM,λb o e=>rb e,Nat.le_of_eq (nC _ _),trivial,λb hb=>absurd (show b∈([]:List Addr) from hb) (by simp),hok,.of_eq hg⟩
  refine Am ((F _ hKb (nsK hns)).run callerA [] s₁ H ⟨[.ref a],[]⟩ [.ref a] [.ref a] _ _ hr e0 (hbind s₁ (.ref a)) (.cons rfl .nil) (hsp H hO hS)) λr s' h =>?_
  cases r with
  | error e=>exact (hCX H e s' h).elim
  | ok fl =>
   cases fl with
   | next=>exact False.elim h
   | brk=>exact False.elim h
   | cont=>exact False.elim h
   | ret u =>
    obtain ⟨v,H',os,bare,un,hok',r',q⟩:=h
    have q':v = .bl true:=q
    subst q'
    obtain rfl:u=Value.bool true:=r'
    refine ⟨rfl,OldK.of_keep λb o e =>?_,os,bare⟩
    cases q:H b with
    | none=>exact un.keep b o e q (by intro z;exact absurd (show b∈([]:List Addr) from z) (by simp)) (by simp)
    | some u =>
     rcases hO b with z | ⟨ob,xs,z⟩
     ·rw[q] at z;cases z
     ·have z2:=un.frzs b ob _ z
      obtain ⟨e1,_⟩:=hok b _ z
      obtain ⟨e2,_⟩:=hok' b _ z2
      rw[e] at e1;cases e1
      exact e2
 cases hk:K.lookup a with
 | some o =>
  have e:=KX a o hk
  rw[ha] at e
  cases e
  refine core (λ_=>none) (λ_ =>.inl rfl) (.inr ⟨_,vs.toArray,_,hk,rfl,rfl,rfl,by rw[vT,lenV];exact hl,by simpa using rv⟩) (λb u z=>by have z':(none:Option HO)=some u:=z;cases z') (λb z=>absurd rfl z) λz=>absurd rfl z
 | none =>
  refine core (λb=>if b=a then some (.frz { cls :=.type "list",data :=.seq vs.toArray } (.lst (ns.map V.int))) else none) (λb =>?_) (.inl (.inr ⟨{ cls :=.type "list",data :=.seq vs.toArray },if_pos rfl⟩)) (λb u z =>?_) (λb z =>?_) λ_=>hk
  ·by_cases hb:b=a
   ·exact .inr ⟨_,_,if_pos hb⟩
   ·exact .inl (if_neg hb)
  ·by_cases hb:b=a
   ·have z':=(if_pos hb).symm.trans z
    cases z'
    subst hb
    exact ⟨ha,by rw[vM];exact hl,vs,_,rv,ha⟩
   ·have z':=(if_neg hb).symm.trans z
    cases z'
  ·by_cases hb:b=a
   ·exact hb
   ·exact absurd (if_neg hb) z
open PySem PySem.Spec PyProof.Rows
theorem rJ {l:PySem.W.OpenLaw}{n k:Nat}{q:wu}{loose:List Str}{XP:(Str->Option vP)->Heap->Prop}{YP:w4->Heap->Prop}{d:DefRec}{K:Params->vV}{CX:w4->CXT}{sp:w4->Sp}{x:Str}
  (hn:l.most=some n) (hn2:n<=vZ) (hdf:d.params.defaults=[]) (hr:cy k callerA)
  (hY:∀(w:w4) (h:Heap),YP w h->(K w.params).In h)
  (F:∀(w:w4) (mg:Str->Option vP) (fa:Addr) (h:Heap),(K w.params).In h->h.Ns w5 mg->mg d.name=some (.ref fa) →
   ∃fd:x8,(∀(s:vR) (u:vP),BindsTo s fd ⟨[u],[]⟩ [(x,u)]) ∧
    ∀base:Heap,(K w.params).In base->base.Ns w5 mg->cn l.prog w (K w.params) mg base (CX w) k fa fd [x] (sp w))
  (hsp:∀(w:w4) (H:Hp) (a:Addr) (ns:List Int),ns.length<=n->uh H->SqL (K w.params) H a (ns.map V.int)->sp w [.ref a] H (λv _=>v = .bl true) λ_ _ _=>False)
  (hCX:∀(w:w4) (H:Hp) (s:vR) (e:vP) (s':vR),CX w [] H s (λ_ _ _=>False) e s'->False) :
  PySem.W.WalkO q loose XP YP l.row.toRowW d [] (λf vs=>PySem.call f vs):=by
 refine Att.j9 hn hdf λw s₀ s₁ mg mb fa o pm cd doc a vs ns G Y ho hd hcd hmg hobj hints hlen hg =>?_
 have KX:=hY w _ Y
 obtain ⟨fd,hb,hF⟩:=F w mg fa _ KX G.T.g hmg
 exact pC KX G.T.g G.T.b G.T.builtins G.T.nolimit hg hobj hints (wL hlen hn2) hr hF hb (λH hO hS=>hsp w H a ns hlen hO hS) λH e s'=>hCX w H s₁ e s'
open PySem PySem.Spec PyProof.Rows
def cN (s:Stmt):Arguments:=match s with
 | .FunctionDef _ a _ _ _ _ _ _ _ _=>a
 | _=>{ posonlyargs:=[],args:=[],vararg:=none,kwonlyargs:=[],kw_defaults:=[],kwarg:=none,defaults:=[] }
def bI (s:Stmt):List Stmt:=match s with
 | .FunctionDef _ _ b _ _ _ _ _ _ _=>b
 | _=>[]
def aL (s:Stmt):Scope:=match s with
 | .FunctionDef _ _ _ _ _ _ sc _ _ _=>sc
 | _=>{ kind :=.function,names:=[],isGenerator:=false,isCoroutine:=false }
abbrev CX0:CXT:=λ_ _ _ _ _ _=>False
abbrev E0:XK:=λ_ _ _=>False
theorem vn {X:Cx}:Passes CX0 X E0:=λ_ _ _ _ _ _ _ h=>h.elim
structure Fun (K:vV)(x qual:Str)(st:Stmt)(f:Addr)(fd:x8):Prop where
 ex:∃(oc:vP) (od:Option Addr) (kV doc pm:vP) (an:Option Addr) (cdv ct:vP) (osl:Array (Option vP)),
  fd=PySem.W.fnOf x qual (cN st) (bI st) (aL st) .none kV doc pm an cdv ct/\K.lookup f=some ⟨oc,od,.func fd,osl⟩/\PySem.W.codeIn K cdv qual=true
 kp:PySem.W.keepIn K (.ref f)=true
section
variable  {P:wu}{w:w4}{K:vV}{mg:Str->Option vP}{base:Heap}
theorem Fun.ok {x qual:Str}{st:Stmt}{f:Addr}{fd:x8}{N ps:List Str}{k:Nat}{sp:Sp}(F:Fun K x qual st f fd)(S:bh N ps (aL st))(len:∀vs H Q E,sp vs H Q E->vs.length=ps.length)
  (hbody:∀(cdv:vP) (A:w6) (outer:List Env) (s:vR) (H:Hp) (vs:List V) (Q:VK) (E:XK),cy k (A.deeper (envOfC qual (aL st) s.heap.objs.size f cdv))->sp vs H Q E →
   ∃t,PSs (j5 CX0 P w K mg base N qual (aL st) f cdv A outer s H E).nox (bI st) t/\t { nx:=λ_ H'=>Q .non H',rt:=Q } (start N vs) H):cn P w K mg base CX0 (k+1) f fd ps sp:=by
 obtain ⟨oc,od,kV,doc,pm,an,cdv,ct,osl,rfl,lk,hcd⟩:=F.ex
 refine vg lk hcd S len λA outer s H vs Q E hr hsp =>?_
 obtain ⟨t,h,q⟩:=hbody cdv A outer s H vs Q E hr hsp
 exact ⟨t,h.nox,q⟩
theorem Fun.binds {x qual:Str}{st:Stmt}{f:Addr}{fd:x8}{ps:List Str}(F:Fun K x qual st f fd)
  (h:∀(kV doc pm:vP) (an:Option Addr) (cdv ct:vP) (us:List vP),us.length=ps.length->bindArgs (PySem.W.fnOf x qual (cN st) (bI st) (aL st) .none kV doc pm an cdv ct) ⟨us,[]⟩=pure (ps.zip us)):Binds K fd ps []:=by
 obtain ⟨oc,od,kV,doc,pm,an,cdv,ct,osl,rfl,lk,hcd⟩:=F.ex
 exact .all (h kV doc pm an cdv ct)
theorem pD {x qual:Str}{st:Stmt}{f:Addr}{oc:vP}{od an:Option Addr}{osl:Array (Option vP)}{kV doc pm cdv ct:vP}(l:K.lookup f=some ⟨oc,od,.func (PySem.W.fnOf x qual (cN st) (bI st) (aL st) .none kV doc pm an cdv ct),osl⟩)
  (c:PySem.W.codeIn K cdv qual=true) (k:PySem.W.keepIn K (.ref f)=true):Fun K x qual st f (PySem.W.fnOf x qual (cN st) (bI st) (aL st) .none kV doc pm an cdv ct):=⟨⟨oc,od,kV,doc,pm,an,cdv,ct,osl,rfl,l,c⟩,k⟩
end
theorem vo {A:w6}{k:Nat}(hr:cy k A):A.units+1<cLine:=zC (Ae (by decide:1<=64) _) hr.units
theorem cE {n:Nat}(h:n<=1000):n<vZ:=zC h (by decide)
section
variable  {X:Cx}
theorem pv (i:Nat){x:Str}{pos:Pos}(hN:X.N[i]? = some x:=by rfl)(hv:Vis X.env.scope x:=by first | exact Or.inl rfl | exact Or.inr (Or.inl rfl) | exact Or.inr (Or.inr rfl))(hd:(x == ("__debug__" : Str))=false:=by decide)
  (hcd:(x == ("__classdict__" : Str))=false:=by decide):PE X (.Name x pos) (oU i):=tS hN hv hd hcd
end
theorem cS {A B:Prop}(h:B):if false=true then A else B:=by
 rw[if_neg wa]
 exact h
theorem cA {A B:Prop}(h:A):if true=true then A else B:=by
 rw[if_pos rfl]
 exact h
theorem bX {c A B:Prop}[Decidable c](h1:c->A)(h2:¬ c->B):if c then A else B:=by
 by_cases h:c
 ·rw[if_pos h]
  exact h1 h
 ·rw[if_neg h]
  exact h2 h
theorem mF {c A B:Prop}[Decidable c](hc:c)(h:B):if (!decide c)=true then A else B:=by
 rw[decide_eq_true hc]
 exact cS h
def aB (H H':Hp):Prop:=∀b o,H b=some o->H' b=some o
theorem aB.refl (H:Hp):aB H H:=λ_ _ h=>h
theorem aB.trans {H H1 H2:Hp}(a:aB H H1)(b:aB H1 H2):aB H H2:=λc o h=>b c o (a c o h)
theorem aB.free {H H':Hp}(e:aB H H'){l:Addr}(h:H' l=Option.none):H l=Option.none:=by
 cases q:H l with
 | none=>rfl
 | some o =>
  rw[e l o q] at h
  cases h
theorem aB.seq {K:vV}{H H':Hp}{a:Addr}{xs:List V}(e:aB H H')(h:SqL K H a xs):SqL K H' a xs:=by
 rcases h with (h | ⟨o,h⟩) | h
 ·exact .inl (.inl (e _ _ h))
 ·exact .inl (.inr ⟨o,e _ _ h⟩)
 ·exact .inr h
end L2
set_option maxHeartbeats 4000000
namespace L2
open PySem PySem.Spec PyProof.Rows
def kf (on:List (Str×NameKind))(N:List Str)(sc:Scope)(N':List Str)(ix:List (Option Nat)):Bool :=
 decide (sc.kind = .function) &&
 sc.names.all (λy=>match y.2 with
  | .local=>decide (sc.names.lookup y.1=some .local)
  | .cell=>false
  | .free=>decide (on.lookup y.1=some .cell) || decide (on.lookup y.1=some .free)
  | _=>true) &&
 decide (ix.length=N'.length) &&
 (ix.zip N').all (λp=>match p.1 with
  | none=>true
  | some j=>decide (N[j]? = some p.2) && decide (sc.names.lookup p.2=some .free))
theorem fV {ns:List (Str×NameKind)}{y:Str}{k:NameKind}(h:ns.lookup y=some k):(y,k)∈ns:=yS h
structure gH (on:List (Str×NameKind))(N:List Str)(sc:Scope)(N':List Str)(ix:List (Option Nat)):Prop where
 kind:sc.kind = .function
 locs:∀y∈sc.names,y.2 = .local->sc.names.lookup y.1=some .local
 nocell:∀y∈sc.names,y.2 ≠ .cell
 frees:∀y∈sc.names,y.2 = .free->on.lookup y.1=some .cell\/on.lookup y.1=some .free
 len:ix.length=N'.length
 slot:∀(i j:Nat) (y:Str),ix[i]? = some (some j)->N'[i]? = some y->N[j]? = some y/\sc.names.lookup y=some .free
theorem gH.of {on:List (Str×NameKind)}{N:List Str}{sc:Scope}{N':List Str}{ix:List (Option Nat)}(h:kf on N sc N' ix=true):gH on N sc N' ix:=by
 unfold kf at h
 rw[x5,x5,x5] at h
 obtain ⟨⟨⟨h1,h2⟩,h3⟩,h4⟩:=h
 rw[yG] at h2 h4
 refine ⟨of_decide_eq_true h1,λy hy e =>?_,λy hy e =>?_,λy hy e =>?_,of_decide_eq_true h3,λi j y e1 e2 =>?_⟩
 ·have q:=h2 y hy
  rw[e] at q
  exact of_decide_eq_true q
 ·have q:=h2 y hy
  rw[e] at q
  cases q
 ·have q:=h2 y hy
  rw[e] at q
  exact ((Bool.or_eq_true _ _).mp q).imp of_decide_eq_true of_decide_eq_true
 ·have q:=h4 (some j,y) (we (i:=i) (by rw[Bq];exact ⟨e1,e2⟩))
  dsimp only at q
  rw[x5] at q
  exact ⟨of_decide_eq_true q.1,of_decide_eq_true q.2⟩
theorem fW {α β:Type}(f:α -> β -> β)(b:α -> β -> Sem (ForInStep β)):∀(l:List α) (c:β),(∀x∈l,∀d,b x d=pure (.yield (f x d)))->forIn l c b=pure (l.foldl (λd x=>f x d) c)
 | [],c,_=>rfl
 | x :: l,c,h=>by
  rw[List.forIn_cons,h x wJ,pure_bind]
  exact fW f b l (f x c) λy hy=>h y (wD _ hy)
def aS (env:Env)(l:List (Str×NameKind))(c:List (Str×Addr)):List (Str×Addr) :=
 l.foldl (λd y=>if y.2 = .free then (y.1,(env.cells.lookup y.1).getD 0) :: d else d) c
theorem lq {sc:Scope}{env:Env}(h:∀y∈sc.names,y.2 = .free->∃c,env.cells.lookup y.1=some c):closureFor sc env=pure (aS env sc.names []):=by
 simp only[closureFor]
 unfold aS
 rw[fW (λy d=>if y.2 = .free then (y.1,(env.cells.lookup y.1).getD 0) :: d else d)]
 ·rfl
 ·rintro ⟨n,k⟩ hy d
  by_cases hk:k = .free
  ·subst hk
   obtain ⟨c,e⟩:=h _ hy rfl
   have e':env.cells.lookup n=some c:=e
   simp only[beq_self_eq_true,if_true,cellOf,e',Option.getD_some]
   rfl
  ·have hb:(k == NameKind.free)=false:=by simpa using hk
   simp only[hb,xW,if_false,hk]
theorem cB {env:Env}{y:Str}{c:Addr}:∀(l:List (Str×NameKind)) (d:List (Str×Addr)),(∀z∈l,z.2 = .free->∃c,env.cells.lookup z.1=some c)->(aS env l d).lookup y=some c →
  d.lookup y=some c\/env.cells.lookup y=some c
 | [],d,_,h =>.inl h
 | (n,k) :: l,d,hf,h=>by
  have h':(aS env l (if k = .free then (n,(env.cells.lookup n).getD 0) :: d else d)).lookup y=some c:=h
  have ih:=cB l _ (λz hz=>hf z (wD _ hz)) h'
  by_cases hk:k = .free
  ·subst hk
   rw[if_pos rfl] at ih
   rcases ih with q | q
   ·rw[Ab] at q
    cases hx:(y == n) with
    | true =>
     rw[hx] at q
     obtain ⟨c',e⟩:=hf (n,.free) wJ rfl
     have e':env.cells.lookup n=some c':=e
     have q':some ((env.cells.lookup n).getD 0)=some c:=q
     rw[e'] at q'
     have en:y=n:=eq_of_beq hx
     rw[en,e']
     exact .inr q'
    | false =>
     rw[hx] at q
     exact .inl q
   ·exact .inr q
  ·rw[if_neg hk] at ih
   exact ih
theorem dk {env:Env}{y:Str}:∀(l:List (Str×NameKind)) (d:List (Str×Addr)),((y,NameKind.free)∈l\/∃c,d.lookup y=some c)->∃c,(aS env l d).lookup y=some c
 | [],d,h=>by
  rcases h with h | h
  ·cases h
  ·exact h
 | (n,k) :: l,d,h=>by
  show ∃c,(aS env l (if k = .free then (n,(env.cells.lookup n).getD 0) :: d else d)).lookup y=some c
  refine dk l _ ?_
  have old:(∃c,d.lookup y=some c)->∃c,(if k = .free then (n,(env.cells.lookup n).getD 0) :: d else d).lookup y=some c:=λ⟨c,e⟩=>by
   by_cases hk:k = .free
   ·rw[if_pos hk,Ab]
    cases hx:(y == n) with
    | true=>exact ⟨_,rfl⟩
    | false=>exact ⟨c,e⟩
   ·rw[if_neg hk];exact ⟨c,e⟩
  rcases h with h | h
  ·rcases wj.mp h with q | q
   ·cases q
    rw[if_pos rfl,Ab,beq_self_eq_true]
    exact .inr ⟨_,rfl⟩
   ·exact .inl q
  ·exact .inr (old h)
theorem gI {c:Str->NameKind->Bool}{y:Str}:∀l:List (Str×NameKind),(l.map λz=>if c z.1 z.2=true then (z.1,NameKind.cell) else (z.1,z.2)).lookup y=(l.lookup y).map λk=>if c y k=true then NameKind.cell else k
 | []=>rfl
 | (n,k) :: l=>by
  have ih:=gI (c:=c) (y:=y) l
  rw[wQ]
  have e:(if c n k=true then (n,NameKind.cell) else (n,k))=(n,if c n k=true then NameKind.cell else k):=by split <;> rfl
  show List.lookup y ((if c n k=true then (n,NameKind.cell) else (n,k)) :: _)=_
  rw[e,Ab,Ab]
  cases hx:(y == n) with
  | true =>
   have en:y=n:=eq_of_beq hx
   subst en
   rfl
  | false=>exact ih
def blk (X:Cx)(sc:Scope)(cl:List (Str×Addr))(C:Addr)(N':List Str)(s:vR)(H:Hp)(fp:List Addr):Cx :=
 { X with N:=N',s₀:=s,H₀:=H,env:=compEnvC sc cl C X.env,outer:=X.stack,ex:=fp,fn:=λ_=>false,pn:=[],xe:=λ_ _=>False }
def PF (X:Cx)(ifs:List Expr)(t:TT):Prop :=
  ∀(pins:List (Addr×Obj)) (s:vR) (σ:St) (H:Hp) (Q:Bool->Hp->Prop),Inv X pins σ H s->t σ H Q →
    wA (wI X.prog X.w) X.A (forIn ifs true λc r=>if r=true then do let ok ← isTrue c X.env (eval c X.env);pure (ForInStep.yield ok) else pure (ForInStep.yield r)) (TP X pins σ Q) X.xe s
theorem dG {X:Cx}:PF X [] (λ_ H Q=>Q true H):=λ_ _ _ H _ I h=>wpAny_tests_nil ⟨H,I,h⟩
theorem pE {X:Cx}{c:Expr}{t:TT}(h:PT X c t):PF X [c] t:=λpins s σ H Q I q=>wpAny_tests_one (h pins s σ H Q I q)
def inner (ix:List (Option Nat))(σ:St):St:=ix.map λo=>match o with | none=>none | some j=>(σ[j]?).join
def iK (J:It)(g:TG)(tc:TT)(te:TE)(τ:St)(Q:VK)(H1:Hp):Prop:=∃W:Nat->Nat->St->List V->Hp->Prop,(∃m,W 0 m τ [] H1)/\∀i m τ ys H,W i m τ ys H →
 (J.stop i H/\ys.length<=vZ/\∀l,H l=none->Q (.ref l) (upd H l (.lst ys))) ∨
 (J.go i H/\∀x H',J.yld i H x H'->g x τ H' λτ2 H2=>tc τ2 H2 λb H3=>if b=true then te τ2 H3 λy H4=>ys.length<vZ/\∃m',m'<m/\W (i+1) m' τ2 (ys++[y]) H4 else ∃m',m'<m/\W (i+1) m' τ2 ys H3)
def pF (ix:List (Option Nat))(wi:TI)(g:TG)(tc:TT)(te:TE):TE:=λσ H Q=>wi σ H λJ H1=>iK J g tc te (inner ix σ) Q H1
section
variable  {X:Cx}{sc:Scope}{N':List Str}{ix:List (Option Nat)}{pins:List (Addr×Obj)}{σ:St}{H:Hp}{s:vR}
theorem uj (I:Inv X pins σ H s)(K:gH X.env.scope.names X.N sc N' ix){C:Addr}{fp:List Addr}(hC:s.heap.objs.size<=C)(f:∀b∈fp,gz X pins H b)(fl:∀b∈fp,b<s.heap.objs.size) :
  (blk X sc (aS X.env sc.names []) C N' s H fp).Ok:=by
 have hcl:∀y∈sc.names,y.2 = .free->∃c,X.env.cells.lookup y.1=some c:=λy hy e=>I.ok.has y.1 (K.frees y hy e)
 have up:∀y c,(aS X.env sc.names []).lookup y=some c->X.env.cells.lookup y=some c:=λy c e=>by
  rcases cB sc.names [] hcl e with q | q
  ·cases q
  ·exact q
 have nfs:∀b∈fp,b∉frs X.stack:=λb hb z=>by
  rcases wj.mp (I.js b z) with q | q
  ·exact (f b hb).2.1 q
  ·exact (f b hb).2.2.1 q
 refine ⟨I.ok.mod,K.kind,I.ok.glob,I.ok.blt,hC,λy z c h1 h2=>I.ok.inj y z c (up _ _ h1) (up _ _ h2),λy hy =>?_,(λy c h=>nomatch h),I.ok.hd,I.ok.frames,.inl rfl,λb hb =>?_,λb o e=>I.bs b o e,wL I.ok.bsz I.sz,λb o e hb =>?_,nfs,I.stack,I.mj⟩
 ·have hy':(relabel sc X.env).names.lookup y=some .cell\/(relabel sc X.env).names.lookup y=some .free:=hy
  have em:=gI (c:=λn k=>k == .free && X.env.scope.kind == .function && X.env.kindOf n == some .cell) (y:=y) sc.names
  have em':(relabel sc X.env).names.lookup y=_:=em
  rw[em'] at hy'
  cases hq:sc.names.lookup y with
  | none=>rw[hq] at hy';rcases hy' with q | q <;> cases q
  | some k =>
   have km:=fV hq
   have hk:k = .free:=by
    rw[hq] at hy'
    simp only[B8,Option.some.injEq] at hy'
    by_cases hc:(k == .free && X.env.scope.kind == .function && X.env.kindOf y == some .cell)=true
    ·rw[x5,x5] at hc
     exact by simpa using hc.1.1
    ·rw[if_neg hc] at hy'
     rcases hy' with q | q
     ·exact absurd q (K.nocell _ km)
     ·exact q
   subst hk
   exact dk sc.names [] (.inl km)
 ·exact ⟨wg (wq (fl b hb) hC),λy c e=>(f b hb).2.2.2.2.1 y c (up y c e)⟩
 ·rcases (f b hb).2.2.2.1 with q | q
  ·exact I.ok.noex b o e q
  ·exact absurd (wq (v3 e) (wL I.ok.bsz q)) (xq _)
theorem rK (I:Inv X pins σ H s)(K:gH X.env.scope.names X.N sc N' ix){C:Addr}{fp:List Addr}(hC:s.heap.objs.size<=C)(f:∀b∈fp,gz X pins H b)(fl:∀b∈fp,b<s.heap.objs.size)
  {h1:Heap} {t:Nat} {m:Str->Option vP} (k:∀b o,s.heap.get? b=some o->h1.get? b=some o) (ns:h1.Ns C m) :
  Inv (blk X sc (aS X.env sc.names []) C N' s H fp) [] (inner ix σ) H { s with heap:=h1,toks:=t }:=by
 have hcl:∀y∈sc.names,y.2 = .free->∃c,X.env.cells.lookup y.1=some c:=λy hy e=>I.ok.has y.1 (K.frees y hy e)
 have up:∀y c,(aS X.env sc.names []).lookup y=some c->X.env.cells.lookup y=some c:=λy c e=>by
  rcases cB sc.names [] hcl e with q | q
  ·cases q
  ·exact q
 refine ⟨uj I K hC f fl,rfl,I.bare,Un.kept k,⟨m,ns,λi y v e1 e2 e3 =>?_⟩,λy c e =>?_,I.hok.fresh hC,λy c e=>I.freeC y c (up y c e),(λp hp=>nomatch hp),I.hok.kept k,?_⟩
 ·have e2':(ix.map λo=>match o with | none=>none | some j=>(σ[j]?).join)[i]? = some (some v):=e2
  rw[wm] at e2'
  cases hi:ix[i]? with
  | none=>rw[hi] at e2';cases e2'
  | some o =>
   cases o with
   | none=>rw[hi] at e2';cases e2'
   | some j =>
    rw[hi] at e2'
    have e4:(σ[j]?).join=some v:=wB e2'
    have e5:σ[j]? = some (some v):=by
     cases hj:σ[j]? with
     | none=>rw[hj] at e4;cases e4
     | some z=>rw[hj] at e4;rw[show z=some v from e4]
    obtain ⟨n1,n2⟩:=K.slot i j y hi e1
    have mem:=fV n2
    have kc:X.env.kindOf y=some .cell\/X.env.kindOf y=some .free:=K.frees _ mem rfl
    obtain ⟨m',_,hl⟩:=I.loc
    obtain ⟨u,r,l⟩:=hl j y v n1 e5 (.inr kc)
    refine ⟨u,r,?_⟩
    rcases l with ⟨q,_⟩ | ⟨_,c,q,z⟩
    ·rcases kc with kc | kc <;> (rw[kc] at q;cases q)
    ·obtain ⟨c',hc'⟩:=dk (env:=X.env) (y:=y) sc.names [] (.inl mem)
     have:=up y c' hc'
     rw[q] at this
     cases this
     refine .inr ⟨?_,c,hc',z.keeps k⟩
     have em:=gI (c:=λn k=>k == .free && X.env.scope.kind == .function && X.env.kindOf n == some .cell) (y:=y) sc.names
     have em':(relabel sc X.env).names.lookup y=_:=em
     rcases kc with kc | kc
     ·left
      show (relabel sc X.env).names.lookup y=some .cell
      rw[em',n2]
      simp only[B8,kc,I.ok.kind]
      rfl
     ·right
      show (relabel sc X.env).names.lookup y=some .free
      rw[em',n2]
      simp only[B8,kc,I.ok.kind]
      rfl
 ·obtain ⟨v,z⟩:=I.cell y c (up y c e)
  exact ⟨v,z.keeps k⟩
 ·show (ix.map _).length=N'.length
  rw[vM]
  exact K.len
end
open PySem PySem.Spec PyProof.Rows
theorem lx {prog:wu}{w:w4}{A:w6}{R:Result->vR->Prop}{s:vR}{elt target iter:Expr}{ifs:List Expr}{sc:Scope}{pos:Pos}{it acc:vP}{env:Env}(J:Nat->vR->Prop)
    (turn:∀n s,J n s->wA (wI prog w) A (pyNext it) (λr s1=>match r with
      | none=>R (.ok .next) s1
      | some v=>wA (wI prog w) A (letOwnedTupleGo target it v) (λ_ s2=>wA (wI prog w) A (assign target env v) (λ_ s3 =>
          wA (wI prog w) A (forIn ifs true λc r=>if r=true then do let ok ← isTrue c env (eval c env);pure (ForInStep.yield ok) else pure (ForInStep.yield r)) (λok s4 =>
            if ok=true then wA (wI prog w) A (eval elt env) (λx s5=>wA (wI prog w) A (call (.builtin "list.append") [acc,x]) (λ_ s6=>∃m,m<n/\J m s6) (λ_ _=>False) s5) (λ_ _=>False) s4
            else ∃m,m<n/\J m s4) (λ_ _=>False) s3) (λ_ _=>False) s2) (λ_ _=>False) s1) (λ_ _=>False) s)
    (n:Nat) (h:J n s):AZ (wI prog w) A (.compLoop (.ListComp elt [⟨target,iter,ifs,0⟩] sc pos) 0 it acc env) R s:=by
  refine codeAny_loop rfl J (λk t q =>?_) n h
  show wA _ A (Sem.onRaise (compTurn (.ListComp elt [⟨target,iter,ifs,0⟩] sc pos) 0 it acc env) (λx=>do noteFrame x env;theTreesLotGoes x)) _ _ t
  refine wpAny_noted ?_
  rw[compTurn_list]
  have no:∀{E:vP->vR->Prop} (x:vP) (t:vR),False->E x t:=λ_ _ z=>z.elim
  refine vN (wpAny_standAt (vN (yt (turn k t q) (λr s1 h1 =>?_) no)))
  cases r with
  | none=>exact vW h1
  | some v =>
    refine vN (yt h1 (λ_ s2 h2=>vN (yt h2 (λ_ s3 h3=>vN (yt h3 (λok s4 h4 =>?_) no)) no)) no)
    cases ok with
    | false=>exact vW ⟨rfl,h4⟩
    | true=>exact vN (vN (yt h4 (λx s5 h5=>vN (yt h5 (λ_ s6 h6=>vW (vW ⟨rfl,h6⟩)) no)) no))
section
variable  {X:Cx}
def rL (X:Cx)(pins:List (Addr×Obj))(σ:St)(Q:VK)(use:Option (vP->Sem Unit))(Q2:vP->vR->Prop):Prop :=
 ∀(s4:vR) (H3:Hp) (acc C:Addr) (ys:List V) (oC:Obj),Inv X (pins++[(C,oC)]) σ (upd H3 acc (.lst ys)) s4->(∃m,s4.heap.Ns C m)->X.s₀.heap.objs.size<=C->(∀x c,X.env.cells.lookup x=some c->c≠C)->(∀p∈X.pn++pins,p.1≠C)->Q (.ref acc) (upd H3 acc (.lst ys)) →
  compPost (wI X.prog X.w) X.A X.xe use Q2 (.ref acc) C (.ok .next) s4
theorem iL {elt target iter:Expr}{ifs:List Expr}{sc:Scope}{pos ps:Pos}{wi:TI}{g:TG}{tc:TT}{te:TE}{N':List Str}{ix:List (Option Nat)}{use:Option (vP->Sem Unit)}{Q2:vP->vR->Prop}
  {pins:List (Addr×Obj)} {s:vR} {σ:St} {H:Hp} {Q:VK}
  (hcalm:X.calm=true) (hi:PI X target iter wi) (hk:kf X.env.scope.names X.N sc N' ix=true)
  (hg:∀cl C s H fp,PG (blk X sc cl C N' s H fp) target g) (hc:∀cl C s H fp,PF (blk X sc cl C N' s H fp) ifs tc) (he:∀cl C s H fp,PE (blk X sc cl C N' s H fp) elt te)
  (hs:∀x,foldedSetIterable iter X.env x=pure x) (fin:rL X pins σ Q use Q2) (I:Inv X pins σ H s) (h:pF ix wi g tc te σ H Q) :
  wA (wI X.prog X.w) X.A (comprehension (.ListComp elt [⟨target,iter,ifs,0⟩] sc pos) sc X.env ps (newList []) false (eval iter X.env) use) Q2 X.xe s:=by
 have K:=gH.of hk
 have hcl:∀y∈sc.names,y.2 = .free->∃c,X.env.cells.lookup y.1=some c:=λy hy e=>I.ok.has y.1 (K.frees y hy e)
 refine wpAny_comprehension_free rfl hs (lq hcl) K.kind K.locs (thn (hi pins s σ H _ I h) λv s1 h1=>thn h1 λitv s2 h2 =>?_)
 obtain ⟨it,fp,tn,J,H2,e,I2,T,st2,f2,W,⟨m0,w0⟩,turn⟩:=h2
 subst e
 refine xo (wpAny_newFunctionEnv K.nocell (by intro y hy;simp at hy) (λh1 ns1 sb1 =>?_) K.kind)
 dsimp only at ns1 sb1 ⊢
 generalize hP:s2.heap.push { cls :=.type "list",dict:=none,data :=.seq ([]:List vP).toArray }=G at ns1 sb1 ⊢
 have sG:G.objs.size=s2.heap.objs.size+1:=by rw[<- hP,yw]
 have fl:∀b∈fp,b<s2.heap.objs.size:=λb hb=>by
  obtain ⟨o,e,_⟩:=T.obj _ _ st2 b hb
  exact v3 e
 have hC:s2.heap.objs.size<=G.objs.size:=by rw[sG];exact zv _
 have aC:s2.heap.objs.size≠G.objs.size:=by rw[sG];exact wg (xO _)
 have old:∀b o,s2.heap.get? b=some o->h1.get? b=some o:=λb o e=>by
  have lt:=v3 e
  have ne:b≠G.objs.size:=wg (wq lt hC)
  rw[sb1.2 b ne]
  exact vO _ (hP ▸ vO _ e)
 have accO:h1.PlainList s2.heap.objs.size #[]:=⟨_,by
  rw[sb1.2 _ aC]
  exact vO _ (hP ▸ v9 _ rfl)⟩
 have IB:=rK (t:=s2.toks+([]:List (Str×vP)).length) I2 K hC f2 fl old ns1
 have up:∀y c,(aS X.env sc.names []).lookup y=some c->X.env.cells.lookup y=some c:=λy c e=>by
  rcases cB sc.names [] hcl e with q | q
  ·cases q
  ·exact q
 have accNotCell:∀y c,(aS X.env sc.names []).lookup y=some c->c≠s2.heap.objs.size:=λy c e z=>by
  obtain ⟨v,q⟩:=I2.cell y c (up y c e)
  exact absurd q.lt (by rw[z];exact xq _)
 have accFs:s2.heap.objs.size∉frs X.stack:=λz=>by
  rcases wj.mp (I2.js _ z) with q | q
  ·exact absurd I2.lt (by rw[<- q];exact xq _)
  ·exact I2.tQ (vS _) q
 have accFp:s2.heap.objs.size∉fp:=λz=>absurd (fl _ z) (xq _)
 have stat:∀{H':Hp} {ob:Obj},(∀b∈fp,H' b=none)->∀b∈fp,gz (blk X sc (aS X.env sc.names []) G.objs.size N' s2 H2 fp) [(s2.heap.objs.size,ob)] H' b:=λ{H' ob} hn b hb=>by
  refine ⟨hn b hb,wg (wq (fl b hb) hC),IB.ok.exfs b hb,.inl hb,λy c e=>(f2 b hb).2.2.2.2.1 y c (up y c e),λp hp z =>?_⟩
  have ep:p=(s2.heap.objs.size,ob):=by simpa [blk] using hp
  subst ep
  exact accFp (by rw[show s2.heap.objs.size=b from z];exact hb)
 have accPin:∀{pl:List (Addr×Obj)} {σ':St} {H':Hp} {s':vR} {its:Array vP} {n:Nat},Inv (blk X sc (aS X.env sc.names []) G.objs.size N' s2 H2 fp) pl σ' H' s'->s'.heap.get? s2.heap.objs.size=some { cls :=.type "list",data :=.seq its n } →
   H' s2.heap.objs.size=none->Inv (blk X sc (aS X.env sc.names []) G.objs.size N' s2 H2 fp) [(s2.heap.objs.size,{ cls :=.type "list",data :=.seq its n })] σ' H' s':=λ{pl σ' H' s' its n} J' e nn=>J'.fc λp hp=>by
  have ep:p=(s2.heap.objs.size,({ cls :=.type "list",data :=.seq its n }:Obj)):=by simpa [blk] using hp
  subst ep
  exact ⟨e,nn,aC,accFs,λv z=>nomatch z⟩
 have loop:AZ (wI X.prog X.w) X.A (.compLoop (.ListComp elt [⟨target,iter,ifs,0⟩] sc pos) 0 (.ref it) (.ref s2.heap.objs.size) (compEnvC sc (aS X.env sc.names []) G.objs.size X.env))
   (compPost (wI X.prog X.w) X.A X.xe use Q2 (.ref s2.heap.objs.size) G.objs.size) { s2 with heap:=h1,toks:=s2.toks+([]:List (Str×vP)).length }:=by
  refine lx (λn s'=>∃i ys its nn σ' H',Inv (blk X sc (aS X.env sc.names []) G.objs.size N' s2 H2 fp) [(s2.heap.objs.size,{ cls :=.type "list",data :=.seq its nn })] σ' H' s'/\Vals ys its.toList/\tn i s'.heap/\(∀b∈fp,H' b=none)/\W i n σ' ys H')
   (λn s3 h3 =>?_) m0 ?_
  ·obtain ⟨i,ys,its,nn,σ3,H3,I3,r3,st3,fr3,w3⟩:=h3
   obtain ⟨e3,a3,_,_,_⟩:=I3.pin (s2.heap.objs.size,{ cls :=.type "list",data :=.seq its nn }) (by simp[blk])
   rcases turn i n σ3 ys H3 w3 with ⟨stop,zl,q3⟩ | ⟨go,step⟩
   ·refine thn (T.done (blk X sc (aS X.env sc.names []) G.objs.size N' s2 H2 fp) rfl rfl rfl hcalm i _ s3 σ3 H3 _ I3 (stat fr3) st3 stop) λr s4 ⟨hr,I4⟩ =>?_
    subst hr
    obtain ⟨e4,a4,_,_,_⟩:=I4.pin (s2.heap.objs.size,{ cls :=.type "list",data :=.seq its nn }) (by simp[blk])
    obtain ⟨m4,n4,_⟩:=I4.loc
    obtain ⟨oC,es4,ep4,c4,d4,r4⟩:=id n4
    have ltA:∀b o,s2.heap.get? b=some o->b≠s2.heap.objs.size:=λb o e=>wg (v3 e)
    have B:=I4.base
    have hok:HOk X.prog X.w (upd H3 s2.heap.objs.size (.lst ys)) s4.heap:=λb o e=>by
     by_cases hb:b=s2.heap.objs.size
     ·subst hb
      rw[ah] at e
      cases e
      exact ⟨zl,its.toList,nn,r3,e4⟩
     ·rw[aA hb] at e
      refine (I4.hok b o e).jZ (λc u hc q=>q) (λc q =>?_) (λc xs q =>?_)
      ·rw[aA (aF q a4)];exact q
      ·rw[aA (aF q a4)];exact q
    have I5:Inv X pins σ (upd H3 s2.heap.objs.size (.lst ys)) s4:=by
     refine I2.uZ (ch:=fp) I4.os ⟨λb o e n hb hx=>B.keep b o e n hb hx,λb o e n hb hx=>B.slot b o e n hb hx,λb o e n hx =>?_,λb o e hx=>B.there b o e hx,λb xs e =>?_,λb o u e =>?_,λb ps e =>?_⟩ hok I4.bare (λb hb =>?_)
     ·rw[aA (ltA b o e)];exact B.free b o e n hx
     ·have q:=B.tups b xs e
      rw[aA (aF q a4)];exact q
     ·have q:=B.frzs b o u e
      rw[aA (aF q a4)];exact q
     ·obtain ⟨more,q⟩:=B.tbls b ps e
      exact ⟨more,by rw[aA (aF q a4)];exact q⟩
     ·obtain ⟨g0,g1,g2,g3,g4,g5⟩:=f2 b hb
      exact ⟨g3,g1,g4,g5⟩
    have cL:G.objs.size≠X.env.locals:=Bl (wq I2.lt hC)
    have I6:Inv X (pins++[(G.objs.size,oC)]) σ (upd H3 s2.heap.objs.size (.lst ys)) s4:=I5.fc λp hp=>by
     rcases vY.mp hp with q | q
     ·exact I5.pin p (wC _ q)
     ·have ep:p=(G.objs.size,oC):=by simpa using q
      subst ep
      exact ⟨c4,by rw[aA (xF aC)];exact I4.free,cL,I2.tQ hC,λv z=>by rw[d4] at z;cases z⟩
    refine fin s4 H3 s2.heap.objs.size G.objs.size ys oC I6 ⟨m4,n4⟩ (wL I2.sz hC) (λy c e z =>?_) (λp hp z =>?_) (q3 _ a4)
    ·obtain ⟨v,q⟩:=I2.cell y c e
     exact absurd (wq q.lt hC) (by rw[z];exact xq _)
    ·exact absurd (wq (v3 (I2.pin p hp).1) hC) (by rw[z];exact xq _)
   ·refine thn (T.item (blk X sc (aS X.env sc.names []) G.objs.size N' s2 H2 fp) rfl rfl rfl hcalm i _ s3 σ3 H3 _ I3 (stat fr3) st3 go) λr s4 ⟨u,hr,h4⟩ =>?_
    subst hr
    refine thn h4 λ_ s5 ⟨x,H5,I5,r5,y5,st5,fr5⟩ =>?_
    have I5':=I5.pinned (stat fr5) (T.obj _ _ st5)
    refine thn (hg _ _ _ _ _ _ s5 σ3 H5 x u _ I5' r5 (step x H5 y5)) λ_ s6 ⟨σ6,H6,I6,q6⟩ =>?_
    refine thn (hc _ _ _ _ _ _ s6 σ6 H6 _ I6 q6) λok s7 ⟨H7,I7,q7⟩ =>?_
    have back:∀{σ7:St} {H7:Hp} {s7:vR},Inv (blk X sc (aS X.env sc.names []) G.objs.size N' s2 H2 fp) ([(s2.heap.objs.size,{ cls :=.type "list",data :=.seq its nn })]++eG fp s5.heap) σ7 H7 s7->tn (i+1) s7.heap/\∀b∈fp,H7 b=none:=λJ7 =>
     ⟨T.keep _ _ _ st5 λb hb o e=>(J7.pin (b,o) (wC _ (wC _ (cG hb e)))).1,λb hb=>by
      obtain ⟨o,e,d⟩:=T.obj _ _ st5 b hb
      exact (J7.pin (b,o) (wC _ (wC _ (cG hb e)))).2.1⟩
    cases ok with
    | false =>
     rw[if_neg (by decide)] at q7
     obtain ⟨m',lm,w7⟩:=q7
     show ∃m,m<n/\_
     exact ⟨m',lm,i+1,ys,its,nn,σ6,H7,I7.cX,r3,(back I7).1,(back I7).2,w7⟩
    | true =>
     rw[if_pos rfl] at q7
     refine thn (he _ _ _ _ _ _ s7 σ6 H7 _ I7 q7) λz s8 ⟨y,H8,I8,r8,lz,m',lm,w8⟩ =>?_
     obtain ⟨e8,a8,_,_,_⟩:=I8.pin (s2.heap.objs.size,{ cls :=.type "list",data :=.seq its nn }) (by simp[blk])
     have sz:its.size<=vZ:=by
      have l:ys.length=its.size:=r3.length.trans vX
      rw[<- l]
      exact zE lz
     refine wpAny_list_append_plain ⟨nn,e8⟩ (λh' pl' sb' =>?_) sz
     obtain ⟨n9,e9⟩:=pl'
     have I8p:Inv (blk X sc (aS X.env sc.names []) G.objs.size N' s2 H2 fp) (eG fp s5.heap) σ6 H8 s8:=I8.fc λp hp=>I8.pin p (wC _ (wC _ hp))
     have I9:=I8p.turned (it:=s2.heap.objs.size) (h':=h') (t':=s8.toks) (λb o ne e=>by rw[sb'.2 b ne];exact e) a8 aC (.inr (vS _)) (λy c e=>accNotCell y c e) (λp hp z=>by
      have hp':p∈eG fp s5.heap:=by simpa [blk] using hp
      exact accFp (by rw[<- z];exact (iD hp').1))
     have b9:tn (i+1) h'/\∀b∈fp,H8 b=none :=
      ⟨T.keep _ _ _ st5 λb hb o e=>(I9.pin (b,o) (wC _ (cG hb e))).1,(back I8).2⟩
     exact ⟨m',lm,i+1,ys++[y],its.push z,n9,σ6,H8,accPin I9 e9 a8,by rw[zi];exact r3.append (.cons r8 .nil),b9.1,b9.2,w8⟩
  ·obtain ⟨n0,e0⟩:=accO
   exact ⟨0,[], #[],n0,_,H2,accPin IB e0 (I2.hok.fresh (vS _)),.nil,T.keep _ _ _ st2 λb hb o e=>old b o e,λb hb=>(f2 b hb).1,w0⟩
 exact codeAny_compStart_list loop (T.self _ 0 _ _ _ (T.keep _ _ _ st2 λb hb o e=>old b o e) loop)
theorem dX {elt target iter:Expr}{ifs:List Expr}{sc:Scope}{pos:Pos}{wi:TI}{g:TG}{tc:TT}{te:TE}(N':List Str)(ix:List (Option Nat))
  (hcalm:X.calm=true) (hi:PI X target iter wi) (hk:kf X.env.scope.names X.N sc N' ix=true)
  (hg:∀cl C s H fp,PG (blk X sc cl C N' s H fp) target g) (hc:∀cl C s H fp,PF (blk X sc cl C N' s H fp) ifs tc) (he:∀cl C s H fp,PE (blk X sc cl C N' s H fp) elt te)
  (hs:∀x,foldedSetIterable iter X.env x=pure x:=by intro _;rfl):PE X (.ListComp elt [⟨target,iter,ifs,0⟩] sc pos) (pF ix wi g tc te):=by
 intro pins s σ H Q I h
 rw[eval_ListComp]
 refine iL hcalm hi hk hg hc he hs (λs4 H3 acc C ys oC I4 ns hC hc hp q =>?_) I h
 obtain ⟨m,ns⟩:=ns
 refine ⟨m,ns,λh' sb=>⟨.ref acc,_,?_,rfl,q⟩⟩
 obtain ⟨_,n0,n1,n2,_⟩:=I4.pin (C,oC) (by simp)
 exact (I4.cX).turned (it:=C) (h':=h') (t':=s4.toks) (λb o ne e=>by rw[sb.2 b ne];exact e) n0 n1 (.inr hC) hc hp
theorem dq {elt target iter:Expr}{ifs:List Expr}{sc:Scope}{pos pos' spos:Pos}{wi:TI}{g:TG}{tc:TT}{te:TE}{i:Nat}{x:Str}(N':List Str)(ix:List (Option Nat))
    (hcalm:X.calm=true) (hN:X.N.Nodup) (hx:X.N[i]? = some x) (hl:X.env.scope.names.lookup x=some .local)
    (hi:PI X target iter wi) (hk:kf X.env.scope.names X.N sc N' ix=true)
    (hg:∀cl C s H fp,PG (blk X sc cl C N' s H fp) target g) (hc:∀cl C s H fp,PF (blk X sc cl C N' s H fp) ifs tc) (he:∀cl C s H fp,PE (blk X sc cl C N' s H fp) elt te)
    (hsw:swapsWith (.ListComp elt [⟨target,iter,ifs,0⟩] sc pos) (some (.Name x pos')) spos.line X.env=pure true:=by rfl)
    (hs:∀x,foldedSetIterable iter X.env x=pure x:=by intro _;rfl):PS X (.Assign [.Name x pos'] (.ListComp elt [⟨target,iter,ifs,0⟩] sc pos) spos) (tY (pF ix wi g tc te) (fe i)):=by
  intro pins s σ H D I h
  rw[exec_Assign_Name_used _ _ _ _ hsw]
  refine vN (wpAny_standAt (vN ?_))
  show wA _ X.A (do let _ ← comprehension (.ListComp elt [⟨target,iter,ifs,0⟩] sc pos) sc X.env _ (newList []) false (eval iter X.env) (some (assign (.Name x pos') X.env))) _ _ s
  refine vN (yt (iL (Q:=λv H1=>D.nx (σ.set i (some v)) H1) (Q2:=λ_ s'=>SP X pins D .next s') hcalm hi hk hg hc he hs (λs4 H3 acc C ys oC I4 ns hC hc hp q =>?_) I h) (λ_ s' q=>vW (vW q)) λ_ _ e=>e)
  obtain ⟨m,ns⟩:=ns
  obtain ⟨e0,n0,n1,n2,_⟩:=I4.pin (C,oC) (by simp)
  show wA _ X.A (assign (.Name x pos') X.env (.ref acc)) _ _ s4
  refine thn ((ak (i:=i) hN hx (.inl hl) (.inr hl)) (pins++[(C,oC)]) s4 σ _ (.ref acc) (.ref acc) _ I4 rfl q) λ_ s5 ⟨σ5,H5,I5,q5⟩ =>?_
  obtain ⟨e5,k0,k1,k2,_⟩:=I5.pin (C,oC) (by simp)
  obtain ⟨o',es',ep',c',r'⟩:=ns
  have e':=e0.symm.trans c'
  cases e'
  refine ⟨m,⟨_,es',ep',e5,r'⟩,λh' sb=>⟨σ5,H5,?_,q5⟩⟩
  exact (I5.cX).turned (it:=C) (h':=h') (t':=s5.toks) (λb o ne e=>by rw[sb.2 b ne];exact e) k0 k1 (.inr hC) hc hp
end
open PySem PySem.Spec PyProof.Rows
section
variable  {X:Cx}
theorem jy {j:Int}(h0:0<j)(h:j<2 ^ 200):j.natAbs.log2<9000:=by
 have h1:j.natAbs<2 ^ 200:=by omega
 have h2:j.natAbs.log2<200:=(Nat.log2_lt (by omega)).mpr h1
 omega
def vp (_ j:Int):Prop:=0<j/\j<2 ^ 200
theorem az:cc X (.builtin "divmod") (λxs H Q=>∃i j,xs=[.int i,.int j]/\vp i j/\∀p,H p=none->Q (.ref p) (upd H p (.tup [.int (i/j),.int (i%j)]))):=by
 intro pins s σ H xs us Q I r h
 obtain ⟨i,j,rfl,⟨h1,h2⟩,q⟩:=h
 obtain ⟨u,w',rfl,⟨t,rfl⟩,⟨t',rfl⟩⟩:=vals2 r
 refine divmod_int (by omega) ?_ (.inl (PyProof.noPylong_of_log2 (jy h1 h2)))
 rw[Be i (by omega),Bf i (by omega)]
 refine ⟨.ref s.heap.objs.size,_,?_,rfl,q _ I.fresh⟩
 refine I.laid (λb o e=>vO _ e) (vS _) ⟨by simp only[wO,yT];rw[AG];decide,[.int (i/j) s.toks,.int (i%j) (s.toks+1)],.cons ⟨_,rfl⟩ (.cons ⟨_,rfl⟩ .nil),?_⟩
 exact ⟨_,v9 s.heap rfl,⟨rfl,rfl⟩,0,rfl⟩
def vq (K:vV):R2:=λx y H Q=>∃l b xs zs,x = .ref l/\y = .ref b/\SqL K H l xs/\SqL K H b zs/\xs.length+zs.length<=vZ/\∀p,H p=none->Q (.ref p) (upd H p (.lst (xs++zs)))
theorem jz:OpR X (binaryOp .Add) (vq X.K):=by
 intro pins s σ H x y v u Q I rx ry h
 obtain ⟨l,b,xs,zs,rfl,rfl,hH,hB,hz,q⟩:=h
 cases rx
 cases ry
 obtain ⟨its,r,e,z⟩:=I.list hH
 obtain ⟨its2,r2,e2,z2⟩:=I.list hB
 obtain ⟨⟨c1,d1,da1,sl1⟩,n,e,k1,k2,k3⟩:=e
 obtain ⟨⟨c2,d2,da2,sl2⟩,n2,e2,g1,g2,g3⟩:=e2
 simp only at k1 k3 g1 g3
 subst k1 k3 g1 g3
 have l1:=r.length
 have l2:=r2.length
 have ea:its.toArray++its2.toArray=(its++its2).toArray:=by simp
 refine Ck ⟨_,e,rfl⟩ ⟨_,e2,rfl⟩ noFill_list_add seq_list_add PySem.F.slot_list_add PySem.F.entry_list_add
  (PySem.F.args_list_add_2 _ _) (list_addW l b its.toArray its2.toArray n n2 d1 d2 sl1 sl2 (by rw[vT,vT];omega)) ⟨e,e2,?_⟩
 rw[ea]
 exact ⟨.ref _,_,I.vm (t':=s.toks) (r.append r2) (by rw[vQ];omega),rfl,q _ I.fresh⟩
theorem fX:cc X (.builtin "isinstance") (λxs H Q=>∃x T t b,xs=[x,.ty T]/\fK X.K H x t/\PySem.W.kitOne X.K t (.type T)=some b/\Q (.bl b) H):=by
 intro pins s σ H xs us Q I r h
 obtain ⟨x,T,t,b,rfl,ty,e,q⟩:=h
 obtain ⟨u,w',rfl,ru,rw'⟩:=vals2 r
 cases (show w'=yF T from rw')
 exact nG I ru ty e λtk=>⟨.bl b,H,I.tok tk,rfl,q⟩
end
def mG (k:Nat)(tc:TT)(te:TE)(τ:St)(Pv:Nat->List V->Hp->Prop)(i:Nat)(x:V)(ys:List V)(H:Hp):Prop :=
 ∀(R1:V->Hp->Prop) (R0:Hp->Prop),(∀y H4,Pv (i+1) (ys++[y]) H4->R1 y H4)->(∀H3,Pv (i+1) ys H3->R0 H3)->tc (τ.set k (some x)) H λb H3=>if b=true then te (τ.set k (some x)) H3 R1 else R0 H3
theorem gJ {K:vV}{a:Addr}{xs:List V}{k:Nat}{tc:TT}{te:TE}{τ:St}{H:Hp}{Q:VK}(Pv:Nat->List V->Hp->Prop)(h0:Pv 0 [] H)(hz:xs.length<=vZ)
  (hl:∀i ys H,i<=xs.length->Pv i ys H->SqL K H a xs) (hs:∀i x ys H,xs[i]? = some x->ys.length<=i->Pv i ys H->mG k tc te τ Pv i x ys H)
  (hd:∀ys H,ys.length<=xs.length->Pv xs.length ys H->∀l,H l=none->Q (.ref l) (upd H l (.lst ys))) :
  iK (Itl K a) (fe k) tc te τ Q H:=by
 refine ⟨λi m σ ys H=>m=xs.length-i/\i<=xs.length/\(∀x,σ.set k (some x)=τ.set k (some x))/\ys.length<=i/\Pv i ys H,⟨xs.length,by simp,wM _,λ_=>rfl,vS _,h0⟩,?_⟩
 rintro i m σ ys H ⟨rfl,hi,hτ,hy,p⟩
 have q:=hl i ys H hi p
 by_cases hlt:i<xs.length
 ·refine .inr ⟨⟨xs,xs[i],q,by simp[hlt]⟩,λx H' y =>?_⟩
  obtain ⟨e,y⟩:=y
  subst e
  show tc (σ.set k (some x)) _ _
  rw[hτ x]
  have hσ:∀z,(τ.set k (some x)).set k (some z)=τ.set k (some z):=λz=>by rw[AL]
  refine hs i x ys _ (y xs q) hy p _ _ (λy4 H4 p4=>⟨by omega,xs.length-(i+1),by omega,rfl,hlt,hσ,by rw[vQ,xC];omega,p4⟩) λH3 p3=>⟨xs.length-(i+1),by omega,rfl,hlt,hσ,by omega,p3⟩
 ·have e:i=xs.length:=by omega
  subst e
  exact .inl ⟨⟨xs,q,vS _⟩,by omega,hd ys H hy p⟩
theorem nL {K:vV}{a:Addr}{xs:List V}{k:Nat}{tc:TT}{te:TE}{τ:St}{H:Hp}{Q:VK}(Pv:Nat->List V->Hp->Prop)(h0:Pv 0 [] H)(hz:xs.length<=vZ)
  (hl:∀i ys H,i<=xs.length->Pv i ys H->SqT K H a xs) (hs:∀i x ys H,xs[i]? = some x->ys.length<=i->Pv i ys H->mG k tc te τ Pv i x ys H)
  (hd:∀ys H,ys.length<=xs.length->Pv xs.length ys H->∀l,H l=none->Q (.ref l) (upd H l (.lst ys))) :
  iK (Itt K a) (fe k) tc te τ Q H:=by
 refine ⟨λi m σ ys H=>m=xs.length-i/\i<=xs.length/\(∀x,σ.set k (some x)=τ.set k (some x))/\ys.length<=i/\Pv i ys H,⟨xs.length,by simp,wM _,λ_=>rfl,vS _,h0⟩,?_⟩
 rintro i m σ ys H ⟨rfl,hi,hτ,hy,p⟩
 have q:=hl i ys H hi p
 by_cases hlt:i<xs.length
 ·refine .inr ⟨⟨xs,xs[i],q,by simp[hlt]⟩,λx H' y =>?_⟩
  obtain ⟨e,y⟩:=y
  subst e
  show tc (σ.set k (some x)) _ _
  rw[hτ x]
  have hσ:∀z,(τ.set k (some x)).set k (some z)=τ.set k (some z):=λz=>by rw[AL]
  refine hs i x ys _ (y xs q) hy p _ _ (λy4 H4 p4=>⟨by omega,xs.length-(i+1),by omega,rfl,hlt,hσ,by rw[vQ,xC];omega,p4⟩) λH3 p3=>⟨xs.length-(i+1),by omega,rfl,hlt,hσ,by omega,p3⟩
 ·have e:i=xs.length:=by omega
  subst e
  exact .inl ⟨⟨xs,q,vS _⟩,by omega,hd ys H hy p⟩
theorem cO {lo:Int}{n:Nat}{k:Nat}{tc:TT}{te:TE}{τ:St}{H:Hp}{Q:VK}(Pv:Nat->List V->Hp->Prop)(h0:Pv 0 [] H)(hz:n<=vZ)
  (hs:∀i ys H,i<n->ys.length<=i->Pv i ys H->mG k tc te τ Pv i (.int (lo+i)) ys H)
  (hd:∀ys H,ys.length<=n->Pv n ys H->∀l,H l=none->Q (.ref l) (upd H l (.lst ys))) :
  iK (Itr lo n) (fe k) tc te τ Q H:=by
 refine ⟨λi m σ ys H=>m=n-i/\i<=n/\(∀x,σ.set k (some x)=τ.set k (some x))/\ys.length<=i/\Pv i ys H,⟨n,by simp,wM _,λ_=>rfl,vS _,h0⟩,?_⟩
 rintro i m σ ys H ⟨rfl,hi,hτ,hy,p⟩
 by_cases hlt:i<n
 ·refine .inr ⟨hlt,λx H' y =>?_⟩
  obtain ⟨e,y⟩:=y
  subst e y
  show tc (σ.set k (some (.int (lo+i)))) _ _
  rw[hτ]
  have hσ:∀z,(τ.set k (some (.int (lo+i)))).set k (some z)=τ.set k (some z):=λz=>by rw[AL]
  refine hs i ys _ hlt hy p _ _ (λy4 H4 p4=>⟨by omega,n-(i+1),by omega,rfl,hlt,hσ,by rw[vQ,xC];omega,p4⟩) λH3 p3=>⟨n-(i+1),by omega,rfl,hlt,hσ,by omega,p3⟩
 ·have e:i=n:=by omega
  subst e
  exact .inl ⟨vS _,by omega,hd ys H hy p⟩
structure Cal (P:wu)(w:w4)(K:vV)(mg:Str->Option vP)(base:Heap)(k:Nat)(x:Str)(ps:List Str)(sp:Sp):Prop where
 ex:∃f fd,cn P w K mg base CX0 k f fd ps sp/\mg x=some (.ref f)/\PySem.W.keepIn K (.ref f)=true/\Binds K fd ps []
theorem bQ {X:Cx}{j k:Nat}{x:Str}{ps:List Str}{sp:Sp}{e:Expr}{es:List Expr}{t:TA}{p pos:Pos}(C:Cal X.prog X.w X.K X.mg X.base k x ps sp)(hr:cy j X.A)(hj:k<=j)(hg:Gl X x)(ha:PA X (e :: es) t)
  (hdb:(x == ("__debug__" : Str))=false:=by decide) (he:xb (e :: es) X.env=(false,eval e X.env) :: xb es X.env:=by rfl) (hpl:(Aw pos (xb es X.env)).any (·.1)=false:=by rfl) :
  PE X (.Call (.Name x p) (e :: es) [] pos) (sV sp [] E0 t):=by
 obtain ⟨f,fd,F,m,kp,b⟩:=C.ex
 exact rq F (hr.mono hj) hg m kp b .nil vn ha hdb he hpl
theorem ae {H:Hp}{p:Addr}(h:H p=none)(o:HO):aB H (upd H p o):=λb u q=>by rw[aA (aF q h)];exact q
theorem small {n:Nat}(h:n<=1000):n<=vZ:=zE (cE h)
open PySem PySem.Spec PyProof.Rows
section
variable  {X:Cx}
theorem kg {its:List vP}{bs:List Bool}(h:Vals (bs.map V.bl) its){prog:wu}{w:w4}{A:w6}:TruthOf prog w A (λi v=>its.toArray[i]? = some v) (λi=>bs.getD i false):=by
 intro i v s Q E hv q
 have l:=h.length
 rw[vM] at l
 have hi:i<its.length:=by
  rw[wW] at hv
  exact (v7.mp hv).1
 have e:(bs.map V.bl)[i]? = some (.bl (bs.getD i false)):=by
  rw[wm,v5,vU (by omega)]
  rfl
 obtain ⟨u,e1,e2⟩:=h.get e
 rw[wW,e1] at hv
 have ev:u=v:=wB hv
 subst ev
 cases (show u=Value.bool _ from e2)
 exact yO q
theorem all_range (bs:List Bool):((xJ bs.length).all λi=>bs.getD i false)=bs.all id:=by
 rw[yQ,yG,yG]
 constructor
 ·intro h x hx
  obtain ⟨i,e⟩:=xt.mp hx
  have hi:i<bs.length:=(v7.mp e).1
  have q:=h i (xh.mpr hi)
  rw[v5,e] at q
  exact q
 ·intro h i hi
  have hi':=xh.mp hi
  rw[v5,vU hi']
  exact h _ (yH hi')
theorem pG (hc:X.calm=true):cc X (.builtin "all") (λxs H Q=>∃(p:Addr) (bs:List Bool),xs=[.ref p]/\SqL X.K H p (bs.map V.bl)/\Q (.bl (bs.all id)) H):=by
 intro pins s σ H xs us Q I r h
 obtain ⟨p,bs,rfl,hs,q⟩:=h
 obtain ⟨u,rfl,ru⟩:=vals1 r
 cases (show u=wz p from ru)
 obtain ⟨its,rv,pl,hz⟩:=I.list hs
 have l:=rv.length
 rw[vM] at l
 have hpl:p<s.heap.objs.size:=by obtain ⟨o,_,e,_⟩:=pl;exact v3 e
 refine call_all_walk (AF pl.isList ?_)
 have hd:X.A.in1.handled=none:=I.ok.hd hc
 refine ⟨s.heap.objs.size,_,_,_,_,_,_,rfl,DS hd s.heap.objs.size p (wg hpl) its.toArray,⟨⟨_,v9 _ rfl,rfl,rfl⟩,?_⟩,kg rv,λh' tk k =>?_⟩
 ·exact pl.isList.at λo e=>vO _ e
 ·have e:((xJ its.toArray.size).all λi=>bs.getD i false)=bs.all id:=by rw[vT, <- l,all_range]
  rw[e]
  refine ⟨.bl (bs.all id),H,I.kept (t':=tk) (λb o eb=>k b o ?_ (vO _ eb)),rfl,q⟩
  intro hb
  have:b=s.heap.objs.size:=by simpa using hb
  exact absurd (v3 eb) (by rw[this];exact xq _)
end
open PySem PySem.Spec PyProof.Rows
def sW (K:vV)(k l:Nat):TG:=u7 K 2 (oW (fe k) (oW (fe l) u6))
def vt (k l:Nat)(tc:TT)(te:TE)(τ:St)(Pv:Nat->List V->Hp->Prop)(i:Nat)(a b:V)(ys:List V)(H:Hp):Prop :=
 ∀(R1:V->Hp->Prop) (R0:Hp->Prop),(∀y H4,Pv (i+1) (ys++[y]) H4->R1 y H4)->(∀H3,Pv (i+1) ys H3->R0 H3)->tc ((τ.set k (some a)).set l (some b)) H λc H3=>if c=true then te ((τ.set k (some a)).set l (some b)) H3 R1 else R0 H3
theorem gK {K:vV}{p:Addr}{ts:List (Addr×V×V)}{k l:Nat}{tc:TT}{te:TE}{τ:St}{H:Hp}{Q:VK}(Pv:Nat->List V->Hp->Prop)(hkl:k≠l)(h0:Pv 0 [] H)(hz:ts.length<=vZ)
  (hl:∀i ys H,i<=ts.length->Pv i ys H->SqL K H p (ts.map λt =>.ref t.1)/\∀t∈ts,SqT K H t.1 [t.2.1,t.2.2])
  (hs:∀i t ys H,ts[i]? = some t->ys.length<=i->Pv i ys H->vt k l tc te τ Pv i t.2.1 t.2.2 ys H)
  (hd:∀ys H,ys.length<=ts.length->Pv ts.length ys H->∀r,H r=none->Q (.ref r) (upd H r (.lst ys))):iK (Itl K p) (sW K k l) tc te τ Q H:=by
 refine ⟨λi m σ ys H=>m=ts.length-i/\i<=ts.length/\(∀a b,(σ.set k (some a)).set l (some b)=(τ.set k (some a)).set l (some b))/\ys.length<=i/\Pv i ys H,⟨ts.length,by simp,wM _,λ_ _=>rfl,vS _,h0⟩,?_⟩
 rintro i m σ ys H ⟨rfl,hi,hτ,hy,pv⟩
 obtain ⟨q,qt⟩:=hl i ys H hi pv
 have ln:(ts.map λt:Addr×V×V=>V.ref t.1).length=ts.length:=vM _
 by_cases hlt:i<ts.length
 ·have et:ts[i]? = some ts[i]:=vU hlt
  have em:(ts.map λt:Addr×V×V=>V.ref t.1)[i]? = some (.ref ts[i].1):=by rw[wm,et];rfl
  refine .inr ⟨⟨_,_,q,em⟩,λx H' y =>?_⟩
  obtain ⟨e,y⟩:=y
  subst e
  have ex:=y _ q
  rw[em] at ex
  cases ex
  have st:=qt ts[i] (yH hlt)
  refine ⟨ts[i].1,_,rfl,st,rfl,_,_,rfl,_,_,rfl,rfl,?_⟩
  rw[hτ]
  have hσ:∀a b,((((τ.set k (some ts[i].2.1)).set l (some ts[i].2.2)).set k (some a)).set l (some b))=(τ.set k (some a)).set l (some b):=λa b=>by
   rw[List.set_comm _ _ (xF hkl),AL,AL]
  refine hs i ts[i] ys _ et hy pv _ _ (λy4 H4 p4=>⟨by omega,ts.length-(i+1),by omega,rfl,hlt,hσ,by rw[vQ,xC];omega,p4⟩) λH3 p3=>⟨ts.length-(i+1),by omega,rfl,hlt,hσ,by omega,p3⟩
 ·have e:i=ts.length:=by omega
  subst e
  exact .inl ⟨⟨_,q,by rw[ln];exact vS _⟩,by omega,hd ys H hy pv⟩
open PySem PySem.Spec PyProof.Rows
section
variable  {X:Cx}{K:vV}
theorem pH (h:X.K=K:=by rfl):IxR X (vj K):=by subst h;exact dU
theorem rM (h:X.K=K:=by rfl):IxR X (vk K):=by subst h;exact bH
end
open PySem PySem.Spec PyProof.Rows
theorem Inv.gL {X:Cx}{pins:List (Addr×Obj)}{σ:St}{H:Hp}{s:vR}{h':Heap}{t':Nat}{ch:List Addr}{T:Addr}{o:HO}(I:Inv X pins σ H s)(f:∀b∈ch,gz X pins H b)
  (k:∀b ob,b∉ch->s.heap.get? b=some ob->h'.get? b=some ob) (th:∀b∈ch,∃ob,h'.get? b=some ob) (hT:s.heap.objs.size<=T) (new:a6 X.prog X.w (upd H T o) h' T o):Inv X pins σ (upd H T o) { s with heap:=h',toks:=t' }:=by
 have hn:H T=none:=I.hok.fresh hT
 have nT:∀b ob,s.heap.get? b=some ob->b≠T:=λb ob e=>wg (wq (v3 e) hT)
 refine I.step (g':=s.gens) (d':=s.drawn) (ch:=ch) (λb hb =>?_) (λb ob _ _ hc e _=>k b ob hc e) (λb ob _ _ hc e _=>⟨ob.slots,k b ob hc e⟩) (λb ob _ e n=>by rw[aA (nT b ob e)];exact n)
  (λb ob hc e=>⟨ob,k b ob hc e⟩) (λb xs e=>by rw[aA (aF e hn)];exact e) (λb ob u e=>by rw[aA (aF e hn)];exact e) (λb ps e=>⟨#[],by rw[aA (aF e hn),e];simp⟩) (λm hm =>?_) (λb u e =>?_) I.bare
 ·obtain ⟨g0,g1,g2,g3,g4,g5⟩:=f b hb
  exact ⟨g3,g1,g4,g5⟩
 ·obtain ⟨ob,es,ep,ho,r⟩:=hm
  exact ⟨ob,es,ep,k _ ob (λz=>(f _ z).2.1 rfl) ho,r⟩
 ·by_cases hb:b=T
  ·subst hb
   rw[ah] at e
   cases e
   exact new
  ·rw[aA hb] at e
   refine (I.hok b u e).jZ (λc v hc q=>k c v ?_ q) (λc q=>by rw[aA (aF q hn)];exact q) λc xs q=>by rw[aA (aF q hn)];exact q
   intro z
   have n0:=(f c z).1
   rcases hc with hc | hc
   ·rw[hc,e] at n0;cases n0
   ·rw[hc] at n0;cases n0
def Ite (K:vV)(a:Addr):It :=
 ⟨λi H=>∃xs v,SqL K H a xs/\xs[i]? = some v,λi H x H'=>∃T v,H T=none/\x = .ref T/\H'=upd H T (.tup [.int i,v])/\∀xs,SqL K H a xs->xs[i]? = some v,λi H=>∃xs,SqL K H a xs/\xs.length<=i⟩
theorem nM {P:wu}{w:w4}{K:vV}{elts:List Expr}{k:Nat}{pos:Pos}(a e it:Addr)(hne:e≠it):Turn P w K (.Tuple elts k pos) (Ite K a) [e,it] e (λi h=>(∃old,IsEnum h e it i old)/\h.IsListIter it a i) where
 mem:=by simp
 obj:=λi h ⟨⟨old,h1⟩,h2⟩ b hb=>by
  rcases wj.mp hb with q | q
  ·subst q
   exact ⟨_,h1,λv z=>nomatch z⟩
  ·have q':b=it:=by simpa using q
   subst q'
   obtain ⟨o,ho,_,hd⟩:=h2
   exact ⟨o,ho,λv z=>by rw[hd] at z;cases z⟩
 keep:=λi h h' ⟨⟨old,h1⟩,h2⟩ kp=>⟨⟨old,kp e (by simp) _ h1⟩,h2.at λo x=>kp it (by simp) o x⟩
 item:=λX eP eW eK hcalm i pins s σ H E I f ⟨⟨old,h1⟩,h2⟩ go=>by
  subst eP eW eK
  obtain ⟨xs,v,hs,hv⟩:=go
  obtain ⟨its,r,pl,hz⟩:=I.list hs
  obtain ⟨u,eu,ru⟩:=r.get hv
  refine wpAny_pyNext_enum_item h1 h2 pl.isList (x:=u) (by rw[wW];exact eu) hne λh' o1 o2 o3 o4 kp =>?_
  refine ⟨_,rfl,?_⟩
  refine Bk o1 λh2' e2 sb =>?_
  have eT:e≠s.heap.objs.size:=wg (v3 h1)
  have kp2:∀b ob,b∉[e,it]->s.heap.get? b=some ob->h2'.get? b=some ob:=λb ob hb eb=>by
   have n1:b≠e:=λz=>hb (by simp[z])
   have n2:b≠it:=λz=>hb (by simp[z])
   rw[sb.2 b n1]
   exact kp b ob n1 n2 eb
  have li:h2'.IsListIter it a (i+1):=o2.at λob eb=>by rw[sb.2 it (xF hne)];exact eb
  have tp:h2'.get? s.heap.objs.size=some { cls :=.type "tuple",data :=.seq #[.int i s.toks,u] }:=by rw[sb.2 _ (xF eT)];exact o3
  refine ⟨.ref s.heap.objs.size,upd H s.heap.objs.size (.tup [.int i,v]),I.gL (ch:=[e,it]) f kp2 (λb hb =>?_) (vS _) ?_,rfl,⟨s.heap.objs.size,v,I.hok.fresh (vS _),rfl,rfl,λys hy =>?_⟩,⟨⟨_,e2⟩,li⟩,λb hb =>?_⟩
  ·rcases wj.mp hb with q | q
   ·subst q;exact ⟨_,e2⟩
   ·have q':b=it:=by simpa using q
    subst q'
    obtain ⟨ob,ho,_⟩:=li
    exact ⟨ob,ho⟩
  ·refine ⟨(by show 2<=vZ;decide),[.int i s.toks,u],.cons ⟨_,rfl⟩ (.cons ru .nil),_,tp,⟨rfl,rfl⟩,_,rfl⟩
  ·rw[I.j2 hy hs];exact hv
  ·have ne:b≠s.heap.objs.size:=by
    rcases wj.mp hb with q | q
    ·rw[q];exact eT
    ·have q':b=it:=by simpa using q
     rw[q']
     obtain ⟨ob,ho,_⟩:=h2
     exact wg (v3 ho)
   rw[aA ne]
   exact (f b hb).1
 done:=λX eP eW eK hcalm i pins s σ H E I f ⟨⟨old,h1⟩,h2⟩ stop=>by
  subst eP eW eK
  obtain ⟨xs,hs,hl⟩:=stop
  obtain ⟨its,r,pl,hz⟩:=I.list hs
  have l:=r.length
  refine wpAny_pyNext_enum_end (I.ok.hd hcalm) h1 h2 pl.isList (by rw[wW];exact zZ.mpr (by omega)) λh' ex=>⟨rfl,?_⟩
  obtain ⟨g0,g1,g2,g3,g4,g5⟩:=f it (by simp)
  exact I.turned (it:=it) (h':=h') (t':=s.toks) (λb o ne eb=>ex b o ne eb) g0 g1 g3 g4 g5
 self:=λA i s Q E ⟨⟨old,h1⟩,_⟩ q=>by
  refine BI ⟨_,h1,rfl⟩ zG (xP zG ⟨_,h1,rfl⟩ B0 ?_ (BK _))
  show wA _ _ (ret (.ref e)) _ _ s
  exact vW ⟨_,rfl, "enumerate",_,⟨_,h1,rfl⟩,zH.lookup,q⟩
open PySem PySem.Spec PyProof.Rows
open PySem.AutoSeq1 (wpAny_loadPart')
section
variable  {prog:wu}{w:w4}{A:w6}{E:vP->vR->Prop}{s:vR}
theorem lA {it t:Addr}{i:Nat}{items:Array vP}{x:vP}{Q:vP->vR->Prop}(hi:s.heap.IsTupleIter it t i)(hl:s.heap.IsTuple t items)(hx:items[i]? = some x)
  (q:∀h',h'.IsTupleIter it t (i+1)->Heap.SameBut it s.heap h'->Q x { s with heap:=h' }):wA (wI prog w) A (Builtin.SmallTypes.nextOf (.ref it)) Q E s:=by
 obtain ⟨o,eo,oc,od⟩:=id hi
 obtain ⟨ol,el,_,nl,dl⟩:=hl
 unfold Builtin.SmallTypes.nextOf
 refine vN (x6 (name:=Str.ofString "__next__") hi.typeIs zc (xP zc hi.typeIs A9 ?_ (A5 _)))
 show wA _ _ (field (.ref it) 0 >>= _) _ _ s;refine vN (yj eo od (x :=.ref t) rfl ?_)
 show wA _ _ (if (wz t == yv)=true then _ else _) _ _ s;rw[if_neg (show ¬ ((wz t == yv)=true) from wa)]
 show wA _ _ (field (.ref it) 1 >>= _) _ _ s;refine vN (yj eo od (x :=.int i 0) rfl ?_)
 show wA _ _ (seqItems? (.ref t) >>= _) _ _ s;refine vN (Aa el dl ?_)
 simp only[yM,hx];refine vN (AJ eo od (by simp) (vW ⟨x,rfl,vW (q _ ?_ (Af ..))⟩))
 exact ⟨_,xG _ eo (AM (ze od _)),(CU ..).trans oc,by rw[ze od];simp[Bp]⟩
theorem dH {it t:Addr}{i:Nat}{items:Array vP}{Q:vP->vR->Prop}(hh:A.handled=none)(hi:s.heap.IsTupleIter it t i)(hl:s.heap.IsTuple t items)(hx:items[i]? = none)
  (q:∀h' e,Heap.ExtBut it s.heap h'->(∃o,h'.get? e=some o/\o.cls = .type "StopIteration")->E (.ref e) { s with heap:=h' }):wA (wI prog w) A (Builtin.SmallTypes.nextOf (.ref it)) Q E s:=by
 obtain ⟨o,eo,oc,od⟩:=id hi
 obtain ⟨ol,el,_,nl,dl⟩:=hl
 unfold Builtin.SmallTypes.nextOf
 refine vN (x6 (name:=Str.ofString "__next__") hi.typeIs zc (xP zc hi.typeIs A9 ?_ (A5 _)))
 show wA _ _ (field (.ref it) 0 >>= _) _ _ s;refine vN (yj eo od (x :=.ref t) rfl ?_)
 show wA _ _ (if (wz t == yv)=true then _ else _) _ _ s;rw[if_neg (show ¬ ((wz t == yv)=true) from wa)]
 show wA _ _ (field (.ref it) 1 >>= _) _ _ s;refine vN (yj eo od (x :=.int i 0) rfl ?_)
 show wA _ _ (seqItems? (.ref t) >>= _) _ _ s;refine vN (Aa el dl ?_)
 simp only[yM,hx];refine vN (zd (vN (AJ eo od (by simp) ?_)))
 show wA _ _ (newExc (.type "StopIteration") [] >>= _) _ _ _;refine vN ?_
 simp only[newExc,newTuple];refine vN (xo ?_ (by size_fits))
 refine vN (m:=firstArgMember _ _) (yl (a:=yv) (by first | rfl | (simp only[firstArgMember];rfl)) ?_);refine xo ?_ (by size_fits)
 simp only[raiseNew];refine vN (wpAny_handled ?_)
 first | (rw[show A.in1.handled=none from hh]) | (rw[hh])
 refine vN (vW (wpAny_throw ?_));exact q _ _ (((Af ..).extBut.push _).push _) ⟨_,v9 _ rfl,rfl⟩
theorem nN (hh:A.handled=none)(it l:Addr)(hne:l≠it)(items:Array vP) :
  Draws prog w A it [it,l] items.size (λi v=>items[i]? = some v) (λi h=>h.IsTupleIter it l i/\h.IsTuple l items) where
 live:=λ_ _ st=>by obtain ⟨o,ho,_⟩:=st.1;exact ⟨o,ho⟩
 frame:=λ_ _ _ st hk=>⟨st.1.at λo e=>hk it (by simp) o e,by obtain ⟨o,e,r⟩:=st.2;exact ⟨o,hk l (by simp) o e,r⟩⟩
 item:=λi s Q E hi st hQ=>by
  refine lA st.1 st.2 (x:=items[i]) (by simp[hi]) λh' hit' hs' =>?_
  obtain ⟨o,e,r⟩:=st.2
  exact hQ _ h' s.toks (by simp[hi]) ⟨hit',o,by rw[hs'.2 l hne];exact e,r⟩ hs'
 done:=λs Q E st hE=>dH hh st.1 st.2 (by simp) hE
theorem jA (l:Addr)(items:Array vP)(n:Nat)(dct:Option Addr)(sl:Array (Option vP)) :
  Meets (Builtin.«enumerate.__new__» ⟨[.type "enumerate",.ref l],[]⟩) (λ_ R s=>s.heap.get? l=some { cls :=.type "tuple",dict:=dct,data :=.seq items n,slots:=sl } ∧
   R (.ok (.ret (.ref (s.heap.push { cls :=.type "tuple_iterator",data :=.fields #[.ref l,.int 0 0] }).objs.size)))
    { s with heap:=(s.heap.push { cls :=.type "tuple_iterator",data :=.fields #[.ref l,.int 0 0] }).push { cls :=.type "enumerate",data :=.fields #[.none,.bool false,.ref s.heap.objs.size,Bp 0,.none,.none] } }) :=
 .of_wp λprog w A R s h=>by
  obtain ⟨hp,g,d,tk,os⟩:=s;obtain ⟨hl,h⟩:=h
  have hsub:=sub_enumerate
  have hT:Heap.IsTuple (Shared.heap ⟨hp,g,d,tk,os⟩) l items:=⟨_,hl,rfl,n,rfl⟩
  wp_walk using wpAny_loadPart' hl
  refine wpAny_stack_any λst=>vW ?_
  split
  ·rename_i c _ _ _ _ _
   cases (c == yF "enumerate") <;> (wp_walk using wpAny_loadPart' hl,yD hT;exact ⟨_,rfl,h⟩)
  ·wp_walk using wpAny_loadPart' hl,yD hT;exact ⟨_,rfl,h⟩
theorem iu {l:Addr}{items:Array vP}{Q:vP->vR->Prop}(hL:s.heap.IsTuple l items)
  (h:∀h',IsEnum h' (s.heap.objs.size+1) s.heap.objs.size 0 .none->h'.IsTupleIter s.heap.objs.size l 0->h'.objs.size=s.heap.objs.size+2->(∀b o,s.heap.get? b=some o->h'.get? b=some o)->Q (.ref (s.heap.objs.size+1)) { s with heap:=h' }) :
  wA (wI prog w) A (call (.type "enumerate") [.ref l]) Q E s:=by
 obtain ⟨⟨c,dct,dt,sl⟩,hl,hc,n,hd⟩:=hL
 replace hc:c = .type "tuple" := hc
 replace hd:dt = .seq items n:=hd
 subst hc hd
 refine Dd F.called_enumerate (by decide) (F.typeCall_enumerate_1 _) (F.newCall_enumerate_1 _) (λobj=>F.args_object_init_2 obj _) F.entry_enumerate_new (jA l items n dct sl) ⟨hl,?_⟩
 have hz:(s.heap.push { cls :=.type "tuple_iterator",data :=.fields #[.ref l,.int 0 0] }).objs.size=s.heap.objs.size+1:=yw ..
 show _/\_
 rw[hz]
 have he:IsEnum ((s.heap.push { cls :=.type "tuple_iterator",data :=.fields #[.ref l,.int 0 0] }).push { cls :=.type "enumerate",data :=.fields #[.none,.bool false,.ref s.heap.objs.size,Bp 0,.none,.none] }) (s.heap.objs.size+1) s.heap.objs.size 0 .none:=by
  have:=v9 (s.heap.push { cls :=.type "tuple_iterator",data :=.fields #[.ref l,.int 0 0] }) (o:={ cls :=.type "enumerate",data :=.fields #[.none,.bool false,.ref s.heap.objs.size,Bp 0,.none,.none] }) rfl
  rw[hz] at this;exact this
 exact ⟨⟨_,he,rfl⟩,h _ he ⟨_,vO _ (v9 _ rfl),rfl,rfl⟩ (by rw[yw,hz]) λb o x=>vO _ (vO _ x)⟩
end
theorem dr {prog:wu}{w:w4}{A:w6}{E:vP->vR->Prop}{s:vR}{e it t:Addr}{i:Nat}{items:Array vP}{old:vP}{Q:Option vP->vR->Prop}(hh:A.in1.handled=none)(he:IsEnum s.heap e it i old)(hi:s.heap.IsTupleIter it t i)
  (hl:s.heap.IsTuple t items) (hx:items[i]? = none) (q:∀h',Heap.ExtBut it s.heap h'->Q none { s with heap:=h' }):wA (wI prog w) A (pyNext (.ref e)) Q E s:=by
 have hT:s.TypeIs (.ref e) "enumerate" :=⟨_,he,rfl⟩
 unfold pyNext
 refine vN (Au (x6 (name:=Str.ofString "__next__") hT zH (xP zH hT F.entry_enumerate_next ?_ (F.args_enumerate_next_1 _))))
 show wA _ _ (field (.ref e) 2 >>= _) _ _ _;refine vN (yj he rfl (x :=.ref it) rfl ?_)
 refine vN (dH hh hi hl hx λh' x he' hx' =>?_)
 obtain ⟨o,ho,hc⟩:=hx'
 refine vN (Ad (T := "StopIteration") (b:=true) ⟨o,ho,hc⟩ isSubtype_stop ?_);exact vW (q _ he')
def ItE (K:vV)(a:Addr):It :=
 ⟨λi H=>∃xs v,SqT K H a xs/\xs[i]? = some v,λi H x H'=>∃T v,H T=none/\x = .ref T/\H'=upd H T (.tup [.int i,v])/\∀xs,SqT K H a xs->xs[i]? = some v,λi H=>∃xs,SqT K H a xs/\xs.length<=i⟩
theorem lB {P:wu}{w:w4}{K:vV}{elts:List Expr}{k:Nat}{pos:Pos}(a e it:Addr)(hne:e≠it)(hai:a≠it)(hae:a≠e):Turn P w K (.Tuple elts k pos) (ItE K a) [e,it] e (λi h=>(∃old,IsEnum h e it i old)/\h.IsTupleIter it a i) where
 mem:=by simp
 obj:=λi h ⟨⟨old,h1⟩,h2⟩ b hb=>by
  rcases wj.mp hb with q | q
  ·subst q
   exact ⟨_,h1,λv z=>nomatch z⟩
  ·have q':b=it:=by simpa using q
   subst q'
   obtain ⟨o,ho,_,hd⟩:=h2
   exact ⟨o,ho,λv z=>by rw[hd] at z;cases z⟩
 keep:=λi h h' ⟨⟨old,h1⟩,h2⟩ kp=>⟨⟨old,kp e (by simp) _ h1⟩,h2.at λo x=>kp it (by simp) o x⟩
 item:=λX eP eW eK hcalm i pins s σ H E I f ⟨⟨old,h1⟩,h2⟩ go=>by
  subst eP eW eK
  obtain ⟨xs,v,hs,hv⟩:=go
  obtain ⟨its,r,pl,hz⟩:=I.tuple hs
  obtain ⟨u,eu,ru⟩:=r.get hv
  have hi:i<its.toArray.size:=by rw[vT];exact (v7.mp eu).1
  have hd:X.A.in1.handled=none:=I.ok.hd hcalm
  refine wpAny_pyNext_enum_itemD (nN hd it a hai its.toArray) h1 ⟨h2,(show s.heap.IsTuple a its.toArray from pl)⟩ hi hne (by simp[hne,xF hae]) λx h' tk px o1 o2 o3 o4 kp =>?_
  rw[wW,eu] at px
  have px':u=x:=wB px
  subst px'
  refine ⟨_,rfl,?_⟩
  refine Bk o1 λh2' e2 sb =>?_
  have eT:e≠s.heap.objs.size:=wg (v3 h1)
  have kp2:∀b ob,b∉[e,it]->s.heap.get? b=some ob->h2'.get? b=some ob:=λb ob hb eb=>by
   have n1:b≠e:=λz=>hb (by simp[z])
   have n2:b≠it:=λz=>hb (by simp[z])
   rw[sb.2 b n1]
   exact kp b ob n1 n2 eb
  have li:h2'.IsTupleIter it a (i+1):=o2.1.at λob eb=>by rw[sb.2 it (xF hne)];exact eb
  have tp:h2'.get? s.heap.objs.size=some { cls :=.type "tuple",data :=.seq #[.int i tk,u] }:=by rw[sb.2 _ (xF eT)];exact o3
  refine ⟨.ref s.heap.objs.size,upd H s.heap.objs.size (.tup [.int i,v]),I.gL (ch:=[e,it]) f kp2 (λb hb =>?_) (vS _) ?_,rfl,⟨s.heap.objs.size,v,I.hok.fresh (vS _),rfl,rfl,λys hy =>?_⟩,⟨⟨_,e2⟩,li⟩,λb hb =>?_⟩
  ·rcases wj.mp hb with q | q
   ·subst q;exact ⟨_,e2⟩
   ·have q':b=it:=by simpa using q
    subst q'
    obtain ⟨ob,ho,_⟩:=li
    exact ⟨ob,ho⟩
  ·refine ⟨(by show 2<=vZ;decide),[.int i tk,u],.cons ⟨_,rfl⟩ (.cons ru .nil),_,tp,⟨rfl,rfl⟩,_,rfl⟩
  ·rw[I.fI hy hs];exact hv
  ·have ne:b≠s.heap.objs.size:=by
    rcases wj.mp hb with q | q
    ·rw[q];exact eT
    ·have q':b=it:=by simpa using q
     rw[q']
     obtain ⟨ob,ho,_⟩:=h2
     exact wg (v3 ho)
   rw[aA ne]
   exact (f b hb).1
 done:=λX eP eW eK hcalm i pins s σ H E I f ⟨⟨old,h1⟩,h2⟩ stop=>by
  subst eP eW eK
  obtain ⟨xs,hs,hl⟩:=stop
  obtain ⟨its,r,pl,hz⟩:=I.tuple hs
  have l:=r.length
  have hd:X.A.in1.handled=none:=I.ok.hd hcalm
  refine dr (A:=X.A) hd h1 h2 (show s.heap.IsTuple a its.toArray from pl) (by rw[wW];exact zZ.mpr (by omega)) λh' ex=>⟨rfl,?_⟩
  obtain ⟨g0,g1,g2,g3,g4,g5⟩:=f it (by simp)
  exact I.turned (it:=it) (h':=h') (t':=s.toks) (λb o ne eb=>ex b o ne eb) g0 g1 g3 g4 g5
 self:=λA i s Q E ⟨⟨old,h1⟩,_⟩ q=>by
  refine BI ⟨_,h1,rfl⟩ zG (xP zG ⟨_,h1,rfl⟩ B0 ?_ (BK _))
  show wA _ _ (ret (.ref e)) _ _ s
  exact vW ⟨_,rfl, "enumerate",_,⟨_,h1,rfl⟩,zH.lookup,q⟩
open PySem PySem.Spec PyProof.Rows
def vv (K:vV)(ta:TA):TI:=λσ H R=>ta σ H λvs H1=>∃a,vs=[.ref a]/\(((∃xs,SqL K H1 a xs)/\R (Ite K a) H1)\/((∃xs,SqT K H1 a xs)/\R (ItE K a) H1))
section
variable  {X:Cx}
theorem rN {a:Expr}{ta:TA}{p pos pos':Pos}{elts:List Expr}{k:Nat}(hg:Gl X "enumerate")(hm:X.mg "enumerate" = none)(ha:PA X [a] ta)(hs:xb [a] X.env=[(false,eval a X.env)]:=by rfl) :
  PI X (.Tuple elts k pos') (.Call (.Name "enumerate" p) [a] [] pos) (vv X.K ta):=by
 intro pins s σ H R I h
 refine Call_ (cR I hg hm boot_enumerate (xu (thn (ha pos pins s σ H _ I h) λus s1 ⟨vs,H1,I1,r1,q1⟩ =>?_) hs rfl))
 obtain ⟨l,e,q1⟩:=q1
 subst e
 obtain ⟨u,rfl,ru⟩:=vals1 r1
 cases (show u=wz l from ru)
 have fp:∀b∈[s1.heap.objs.size+1,s1.heap.objs.size],gz X pins H1 b:=λb hb=>by
  have ge:s1.heap.objs.size<=b:=by
   rcases wj.mp hb with q | q
   ·rw[q];exact zv _
   ·have q':b=s1.heap.objs.size:=by simpa using q
    rw[q'];exact vS _
  exact I1.oZ ge (I1.hok.fresh ge)
 have ne:s1.heap.objs.size+1≠s1.heap.objs.size:=Bl (xO _)
 rcases q1 with ⟨⟨xs,hq⟩,q⟩ | ⟨⟨xs,hq⟩,q⟩
 ·obtain ⟨its,rv,pl,hz⟩:=I1.list hq
  refine call_enumerate_list pl.isList λh' he li _ kp =>?_
  have T:=nM (P:=X.prog) (w:=X.w) (K:=X.K) (elts:=elts) (k:=k) (pos:=pos') l _ _ ne
  refine T.self _ 0 _ _ _ ⟨⟨_,he⟩,li⟩ ?_
  exact ⟨_,_,_,_,H1,rfl,I1.kept (t':=s1.toks) kp,T,⟨⟨_,he⟩,li⟩,fp,q⟩
 ·obtain ⟨its,rv,pl,hz⟩:=I1.tuple hq
  have lt:l<s1.heap.objs.size:=by obtain ⟨o,e,_⟩:=pl;exact v3 e
  refine iu (show s1.heap.IsTuple l its.toArray from pl) λh' he li _ kp =>?_
  have T:=lB (P:=X.prog) (w:=X.w) (K:=X.K) (elts:=elts) (k:=k) (pos:=pos') l _ _ ne (wg lt) (wg (xB lt))
  refine T.self _ 0 _ _ _ ⟨⟨_,he⟩,li⟩ ?_
  exact ⟨_,_,_,_,H1,rfl,I1.kept (t':=s1.toks) kp,T,⟨⟨_,he⟩,li⟩,fp,q⟩
end
def vw (J:It)(g:TG)(tb:TS)(D:Ends)(σ:St)(H:Hp):Prop:=∃W:Nat->Nat->St->Hp->Prop,(∃m,W 0 m σ H)/\∀i m σ H,W i m σ H →
 (J.stop i H/\D.nx σ H)\/(J.go i H/\∃N:St->Hp->Prop,(∀σ' H',N σ' H'->∃m',m'<m/\W (i+1) m' σ' H')/\∀x H',J.yld i H x H'->g x σ H' λσ2 H2=>tb { D with nx:=N,ct:=N,bk:=D.nx } σ2 H2)
theorem uW {K:vV}{a:Addr}{xs:List V}{g:TG}{tb:TS}{D:Ends}{σ:St}{H:Hp}(Pv:Nat->St->Hp->Prop)(h0:Pv 0 σ H)(hl:∀i σ H,i<=xs.length->Pv i σ H->SqL K H a xs)
  (hs:∀i x σ H T,xs[i]? = some x->H T=none->Pv i σ H->g (.ref T) σ (upd H T (.tup [.int i,x])) λσ2 H2=>tb { D with nx:=Pv (i+1),ct:=Pv (i+1),bk:=D.nx } σ2 H2) (hd:∀σ H,Pv xs.length σ H->D.nx σ H):vw (Ite K a) g tb D σ H:=by
 refine ⟨λi m σ H=>m=xs.length-i/\i<=xs.length/\Pv i σ H,⟨xs.length,by simp,wM _,h0⟩,?_⟩
 rintro i m σ H ⟨rfl,hi,p⟩
 have q:=hl i σ H hi p
 by_cases hlt:i<xs.length
 ·refine .inr ⟨⟨xs,xs[i],q,by simp[hlt]⟩,Pv (i+1),λσ' H' p'=>⟨xs.length-(i+1),by omega,rfl,hlt,p'⟩,λx H' y =>?_⟩
  obtain ⟨T,v,hT,ex,eH,hv⟩:=y
  subst ex eH
  exact hs i v σ H T (hv xs q) hT p
 ·have e:i=xs.length:=by omega
  subst e
  exact .inl ⟨⟨xs,q,vS _⟩,hd σ H p⟩
theorem nO {K:vV}{a:Addr}{xs:List V}{g:TG}{tb:TS}{D:Ends}{σ:St}{H:Hp}(Pv:Nat->St->Hp->Prop)(h0:Pv 0 σ H)(hl:∀i σ H,i<=xs.length->Pv i σ H->SqT K H a xs)
  (hs:∀i x σ H T,xs[i]? = some x->H T=none->Pv i σ H->g (.ref T) σ (upd H T (.tup [.int i,x])) λσ2 H2=>tb { D with nx:=Pv (i+1),ct:=Pv (i+1),bk:=D.nx } σ2 H2) (hd:∀σ H,Pv xs.length σ H->D.nx σ H):vw (ItE K a) g tb D σ H:=by
 refine ⟨λi m σ H=>m=xs.length-i/\i<=xs.length/\Pv i σ H,⟨xs.length,by simp,wM _,h0⟩,?_⟩
 rintro i m σ H ⟨rfl,hi,p⟩
 have q:=hl i σ H hi p
 by_cases hlt:i<xs.length
 ·refine .inr ⟨⟨xs,xs[i],q,by simp[hlt]⟩,Pv (i+1),λσ' H' p'=>⟨xs.length-(i+1),by omega,rfl,hlt,p'⟩,λx H' y =>?_⟩
  obtain ⟨T,v,hT,ex,eH,hv⟩:=y
  subst ex eH
  exact hs i v σ H T (hv xs q) hT p
 ·have e:i=xs.length:=by omega
  subst e
  exact .inl ⟨⟨xs,q,vS _⟩,hd σ H p⟩
end L2
namespace Srt
open PySem PyProof.Rows
def gal:Bool->wo->Array wo->Nat->Nat->Nat->StateT wK Sem (Option Nat):=sortPriv% PySem.Builtin.gallop
def mLo:Array wo->Array wo->StateT wK Sem (Array wo):=sortPriv% PySem.Builtin.mergeLo
def mHi:Array wo->Array wo->StateT wK Sem (Array wo):=sortPriv% PySem.Builtin.mergeHi
def mAt:Nat->StateT wK Sem Bool:=sortPriv% PySem.Builtin.mergeAt
def sZ:StateT wK Sem Unit:=sortPriv% PySem.Builtin.sortRuns
def uo:Nat->Nat->StateT wK Sem (Option Nat):=sortPriv% PySem.Builtin.countRun
def pI:Nat->Nat->Nat->StateT wK Sem Bool:=sortPriv% PySem.Builtin.binarySort
theorem uq (lf:Bool)(ky:wo)(ar:Array wo)(bs n ht:Nat):gal lf ky ar bs n ht=(do
    let far (i:Nat):StateT wK Sem (Option Bool):=do
      let z ← elem' ar (bs+i)
      if lf then lt' z ky else return (← lt' ky z).map (!·)
    let mut la:=0;let mut of:=1
    let mut lo:=0;let mut hi:=0
    let some rt ← far ht | return none
    if rt then
      let mx:=n-ht
      for _ in [0:n] do
        if of≥mx then break
        let some mo ← far (ht+of)
          | return none
        if !mo then break
        la:=of;of:=2*of+1
      lo:=ht+la+1;hi:=ht+min of mx
    else
      let mx:=ht+1
      for _ in [0:n] do
        if of≥mx then break
        let some fd ← far (ht-of)
          | return none
        if fd then break
        la:=of;of:=2*of+1
      lo:=ht+1-min of mx;hi:=ht-la
    for _ in [0:n] do
      if lo≥hi then break
      let md:=lo+(hi-lo)/2
      let some mo ← far md | return none
      if mo then lo:=md+1 else hi:=md
    return some hi):=rfl
section
variable  {prog:wu}{w:w4}{A:w6}{E:vP->vR->Prop}{s:vR}
theorem pJ {lf:Bool}{ky:wo}{ar:Array wo}{bs n ht:Nat}{st:wK}{Q:Option Nat->wK->Prop}(p:Nat->Bool)
    (hf:∀i,i<n->∀(Q:Option Bool->wK->Prop),Q (some (p i)) st->wpS (wI prog w) A E s (do let z ← elem' ar (bs+i);if lf then lt' z ky else return (← lt' ky z).map (!·)) Q st)
    (hp:∀i j,i<=j->j<n->p j=true->p i=true) (hh:ht<n)
    (h:∀k,k<=n->(∀i,i<k->p i=true)->(∀i,k<=i->i<n->p i=false)->Q (some k) st):wpS (wI prog w) A E s (gal lf ky ar bs n ht) Q st:=by
  rw[uq]
  dsimp only
  refine wd (hf ht hh _ ?_)
  dsimp only
  cases hr:p ht with
  | true =>
    rw[if_pos rfl]
    refine wd (yz (xH (I:=λx c st'=>st=st'/\∃la of,c=(none,la,of)/\la<of/\x+1<=of/\ht+la<n/\p (ht+la)=true)
      (Q:=λc st'=>st=st'/\∃la of,c=(none,la,of)/\la<of/\ht+la<n/\p (ht+la)=true/\(n-ht<=of\/(ht+of<n/\p (ht+of)=false))) ?step ?fin ⟨rfl,0,1,rfl,by omega,by omega,by omega,by simpa using hr⟩) ?post)
    case fin =>
      rintro c st' ⟨rfl,la,of,rfl,b1,b2,b3,b4⟩
      exact ⟨rfl,la,of,rfl,b1,b3,b4,.inl (by omega)⟩
    case step =>
      rintro x c st' _ hx ⟨rfl,la,of,rfl,b1,b2,b3,b4⟩
      dsimp only
      by_cases hge:of≥n-ht
      · rw[if_pos hge]
        exact wt ⟨rfl,la,of,rfl,b1,b3,b4,.inl hge⟩
      · rw[if_neg hge]
        refine wd (hf _ (by omega) _ ?_)
        dsimp only
        cases hm:p (ht+of) with
        | true =>
          simp only[BL,xW,if_false]
          exact wt ⟨rfl,of,2*of+1,rfl,by omega,by omega,by omega,hm⟩
        | false =>
          simp only[Bool.not_false,if_true]
          exact wt ⟨rfl,la,of,rfl,b1,b3,b4,.inr ⟨by omega,hm⟩⟩
    case post =>
      rintro c st' ⟨rfl,la,of,rfl,b1,b3,b4,b5⟩
      have h1:(ht+la+1)<=(ht+min of (n-ht)):=by omega
      have h2:(ht+min of (n-ht))<=n:=by omega
      have h3:∀i,i<(ht+la+1)->p i=true:=λi hi=>hp i (ht+la) (by omega) b3 b4
      have h4:∀i,(ht+min of (n-ht))<=i->i<n->p i=false:=λi hi hn=>by
        rcases b5 with b5 | ⟨b5,b6⟩
        · omega
        · cases hpi:p i with
          | false=>rfl
          | true=>rw[hp (ht+of) i (by omega) hn hpi] at b6;cases b6
      dsimp only
      refine wd (yz (xH (I:=λx c st'=>st=st'/\∃lo hi,c=(none,lo,hi)/\lo<=hi/\hi<=n/\hi-lo<=n-x/\(∀i,i<lo->p i=true)/\(∀i,hi<=i->i<n->p i=false))
        (Q:=λc st'=>st=st'/\∃k,c=(none,k,k)/\k<=n/\(∀i,i<k->p i=true)/\(∀i,k<=i->i<n->p i=false)) ?step ?fin ⟨rfl,(ht+la+1),(ht+min of (n-ht)),rfl,h1,h2,by omega,h3,h4⟩) ?post)
      case fin =>
        rintro c st' ⟨rfl,lo,hi,rfl,a1,a2,a3,a4,a5⟩
        have e:lo=hi:=by omega
        subst e
        exact ⟨rfl,lo,rfl,a2,a4,a5⟩
      case post =>
        rintro c st' ⟨rfl,k,rfl,a2,a4,a5⟩
        exact wt (h k a2 a4 a5)
      case step =>
        rintro x c st' _ hx ⟨rfl,lo,hi,rfl,a1,a2,a3,a4,a5⟩
        dsimp only
        by_cases hge:lo≥hi
        · rw[if_pos hge]
          have e:lo=hi:=by omega
          subst e
          exact wt ⟨rfl,lo,rfl,a2,a4,a5⟩
        · rw[if_neg hge]
          refine wd (hf _ (by omega) _ ?_)
          dsimp only
          cases hm:p (lo+(hi-lo)/2) with
          | true =>
            rw[if_pos rfl]
            exact wt ⟨rfl,_,_,rfl,by omega,a2,by omega,λi hi'=>hp i _ (by omega) (by omega) hm,a5⟩
          | false =>
            rw[if_neg (by simp)]
            refine wt ⟨rfl,_,_,rfl,by omega,by omega,by omega,a4,λi hi' hn =>?_⟩
            cases hpi:p i with
            | false=>rfl
            | true=>rw[hp _ i hi' hn hpi] at hm;cases hm
  | false =>
    rw[if_neg (by simp)]
    refine wd (yz (xH (I:=λx c st'=>st=st'/\∃la of,c=(none,la,of)/\la<of/\x+1<=of/\la<=ht/\p (ht-la)=false)
      (Q:=λc st'=>st=st'/\∃la of,c=(none,la,of)/\la<of/\la<=ht/\p (ht-la)=false/\(ht+1<=of\/(of<=ht/\p (ht-of)=true))) ?step ?fin ⟨rfl,0,1,rfl,by omega,by omega,by omega,by simpa using hr⟩) ?post)
    case fin =>
      rintro c st' ⟨rfl,la,of,rfl,b1,b2,b3,b4⟩
      exact ⟨rfl,la,of,rfl,b1,b3,b4,.inl (by omega)⟩
    case step =>
      rintro x c st' _ hx ⟨rfl,la,of,rfl,b1,b2,b3,b4⟩
      dsimp only
      by_cases hge:of≥ht+1
      · rw[if_pos hge]
        exact wt ⟨rfl,la,of,rfl,b1,b3,b4,.inl hge⟩
      · rw[if_neg hge]
        refine wd (hf _ (by omega) _ ?_)
        dsimp only
        cases hm:p (ht-of) with
        | true =>
          rw[if_pos rfl]
          exact wt ⟨rfl,la,of,rfl,b1,b3,b4,.inr ⟨by omega,hm⟩⟩
        | false =>
          rw[if_neg (by simp)]
          exact wt ⟨rfl,of,2*of+1,rfl,by omega,by omega,by omega,hm⟩
    case post =>
      rintro c st' ⟨rfl,la,of,rfl,b1,b3,b4,b5⟩
      have h1:(ht+1-min of (ht+1))<=(ht-la):=by omega
      have h2:(ht-la)<=n:=by omega
      have h3:∀i,i<(ht+1-min of (ht+1))->p i=true:=λi hi=>by
        rcases b5 with b5 | ⟨b5,b6⟩
        · omega
        · exact hp i (ht-of) (by omega) (by omega) b6
      have h4:∀i,(ht-la)<=i->i<n->p i=false:=λi hi hn=>by
        cases hpi:p i with
        | false=>rfl
        | true=>rw[hp (ht-la) i hi hn hpi] at b4;cases b4
      dsimp only
      refine wd (yz (xH (I:=λx c st'=>st=st'/\∃lo hi,c=(none,lo,hi)/\lo<=hi/\hi<=n/\hi-lo<=n-x/\(∀i,i<lo->p i=true)/\(∀i,hi<=i->i<n->p i=false))
        (Q:=λc st'=>st=st'/\∃k,c=(none,k,k)/\k<=n/\(∀i,i<k->p i=true)/\(∀i,k<=i->i<n->p i=false)) ?step ?fin ⟨rfl,(ht+1-min of (ht+1)),(ht-la),rfl,h1,h2,by omega,h3,h4⟩) ?post)
      case fin =>
        rintro c st' ⟨rfl,lo,hi,rfl,a1,a2,a3,a4,a5⟩
        have e:lo=hi:=by omega
        subst e
        exact ⟨rfl,lo,rfl,a2,a4,a5⟩
      case post =>
        rintro c st' ⟨rfl,k,rfl,a2,a4,a5⟩
        exact wt (h k a2 a4 a5)
      case step =>
        rintro x c st' _ hx ⟨rfl,lo,hi,rfl,a1,a2,a3,a4,a5⟩
        dsimp only
        by_cases hge:lo≥hi
        · rw[if_pos hge]
          have e:lo=hi:=by omega
          subst e
          exact wt ⟨rfl,lo,rfl,a2,a4,a5⟩
        · rw[if_neg hge]
          refine wd (hf _ (by omega) _ ?_)
          dsimp only
          cases hm:p (lo+(hi-lo)/2) with
          | true =>
            rw[if_pos rfl]
            exact wt ⟨rfl,_,_,rfl,by omega,a2,by omega,λi hi'=>hp i _ (by omega) (by omega) hm,a5⟩
          | false =>
            rw[if_neg (by simp)]
            refine wt ⟨rfl,_,_,rfl,by omega,by omega,by omega,a4,λi hi' hn =>?_⟩
            cases hpi:p i with
            | false=>rfl
            | true=>rw[hp _ i hi' hn hpi] at hm;cases hm
end
open PySem PyProof.Rows
structure Cmp (prog:wu)(w:w4)(A:w6)(s:vR)(O:A4)(key:wo->O.α)(U:wo->Prop)(κ:SortKind):Prop where
 lt:∀(E:vP->vR->Prop) (st:wK) (x y:wo) (Q:Option Bool->wK->Prop),kindOf st=κ -> U x->U y->Q (some (O.blt (key x) (key y))) st->wpS (wI prog w) A E s (lt' x y) Q st
section
variable  {prog:wu}{w:w4}{A:w6}{E:vP->vR->Prop}{s:vR}{O:A4}{key:wo->O.α}{U:wo->Prop}{κ:SortKind}
theorem aU {ar:Array wo}{i:Nat}{z:wo}{st:wK}{Q:wo->wK->Prop}(h:ar[i]? = some z)(hq:Q z st):wpS (wI prog w) A E s (elem' ar i) Q st:=by
 rw[elem'_eq,h]
 exact wt hq
theorem ur (C:Cmp prog w A s O key U κ){ky:wo}{ar:Array wo}{bs n ht:Nat}{st:wK}{Q:Option Nat->wK->Prop}(g:Nat->wo)(hk:kindOf st=κ)(uk:U ky)
  (hg:∀i,i<n->ar[bs+i]? = some (g i)) (hu:∀i,i<n->U (g i)) (hs:∀i j,i<=j->j<n->O.kle (key (g i)) (key (g j))) (hh:ht<n)
  (h:∀k,k<=n->(∀i,i<k->O.kle (key (g i)) (key ky))->(∀i,k<=i->i<n->O.klt (key ky) (key (g i)))->Q (some k) st):wpS (wI prog w) A E s (gal false ky ar bs n ht) Q st:=by
 refine pJ (λi => !O.blt (key ky) (key (g i))) (λi hi R hr =>?_) (λi j hij hj hp =>?_) hh (λk hk' h1 h2=>h k hk' (λi hi =>?_) λi hi hn =>?_)
 ·refine wd (aU (hg i hi) ?_)
  rw[if_neg (by simp)]
  exact wd (C.lt _ st ky (g i) _ hk uk (hu i hi) (wt hr))
 ·have a1:O.blt (key ky) (key (g j))=false:=by simpa using hp
  have a2:O.kle (key (g i)) (key ky):=wR (hs i j hij hj) a1
  have a3:O.blt (key ky) (key (g i))=false:=a2
  simp[a3]
 ·have a1:=h1 i hi
  exact (by simpa using a1:O.blt (key ky) (key (g i))=false)
 ·have a1:=h2 i hi hn
  exact (by simpa using a1:O.blt (key ky) (key (g i))=true)
theorem uu (C:Cmp prog w A s O key U κ){ky:wo}{ar:Array wo}{bs n ht:Nat}{st:wK}{Q:Option Nat->wK->Prop}(g:Nat->wo)(hk:kindOf st=κ)(uk:U ky)
  (hg:∀i,i<n->ar[bs+i]? = some (g i)) (hu:∀i,i<n->U (g i)) (hs:∀i j,i<=j->j<n->O.kle (key (g i)) (key (g j))) (hh:ht<n)
  (h:∀k,k<=n->(∀i,i<k->O.klt (key (g i)) (key ky))->(∀i,k<=i->i<n->O.kle (key ky) (key (g i)))->Q (some k) st):wpS (wI prog w) A E s (gal true ky ar bs n ht) Q st:=by
 refine pJ (λi=>O.blt (key (g i)) (key ky)) (λi hi R hr =>?_) (λi j hij hj hp =>?_) hh (λk hk' h1 h2=>h k hk' (λi hi=>h1 i hi) λi hi hn=>h2 i hi hn)
 ·refine wd (aU (hg i hi) ?_)
  rw[if_pos rfl]
  exact C.lt _ st (g i) ky _ hk (hu i hi) uk hr
 ·exact KeyOrd.klt_of_kle_of_klt (hs i j hij hj) hp
end
open PySem PyProof.Rows
section
variable  {O:A4}(key:wo->O.α)
def Le (p q:wo):Prop:=O.kle (key p) (key q)
structure MW (a b o:Array wo)(x y:Nat):Prop where
 hx:x<=a.size
 hy:y<=b.size
 perm:(o.toList++(a.toList.drop x++b.toList.drop y)).Perm (a.toList++b.toList)
 sorted:o.toList.Pairwise (Le key)
 below:∀p∈o.toList,∀z∈a.toList.drop x++b.toList.drop y,Le key p z
def cU (a b r:Array wo):Prop:=r.toList.Perm (a.toList++b.toList)/\r.toList.Pairwise (Le key)
variable  {key}
theorem MW.fin {a b o:Array wo}{x y:Nat}(m:MW key a b o x y){t:List wo}{r:Array wo}(hr:r.toList=o.toList++t)(ht:t.Perm (a.toList.drop x++b.toList.drop y))(hs:t.Pairwise (Le key)):cU key a b r:=by
 unfold cU
 rw[hr]
 exact ⟨(yA _ ht).trans m.perm,xT.mpr ⟨m.sorted,hs,λp hp q hq=>m.below p hp q (ht.mem_iff.mp hq)⟩⟩
theorem MW.take {a b o:Array wo}{x y x' y':Nat}(m:MW key a b o x y){t:List wo}{r:Array wo}(hr:r.toList=o.toList++t)(hx:x'<=a.size)(hy:y'<=b.size)
  (ht:(t++(a.toList.drop x'++b.toList.drop y')).Perm (a.toList.drop x++b.toList.drop y)) (hs:t.Pairwise (Le key)) (hb:∀p∈t,∀z∈a.toList.drop x'++b.toList.drop y',Le key p z):MW key a b r x' y':=by
 have sub:∀z,z∈t\/z∈a.toList.drop x'++b.toList.drop y'->z∈a.toList.drop x++b.toList.drop y:=λz hz=>ht.mem_iff.mp (vY.mpr hz)
 refine ⟨hx,hy,?_,?_,?_⟩
 ·rw[hr,wF]
  exact (yA _ ht).trans m.perm
 ·rw[hr]
  exact xT.mpr ⟨m.sorted,hs,λp hp q hq=>m.below p hp q (sub q (.inl hq))⟩
 ·rw[hr]
  intro p hp z hz
  rcases vY.mp hp with h | h
  ·exact m.below p h z (sub z (.inr hz))
  ·exact hb p h z hz
theorem drop_cons {α:Type}{l:List α}{i:Nat}{z:α}(h:l[i]? = some z):l.drop i=z :: l.drop (i+1):=by
 obtain ⟨hi,e⟩:=v7.mp h
 rw[Br hi,e]
theorem drop_take {α:Type}(l:List α)(i k:Nat):l.drop i=(l.drop i).take k++l.drop (i+k):=by
 rw[<- DK,xX]
theorem aJ {a:Array wo}{i:Nat}{z:wo}(h:a[i]? = some z):a.toList[i]? = some z:=by rw[v8];exact h
theorem MW.fY {a b o:Array wo}{x y:Nat}{z:wo}(m:MW key a b o x y)(h:a[x]? = some z)(ha:a.toList.Pairwise (Le key))(hb:∀t∈b.toList.drop y,Le key z t):MW key a b (o.push z) (x+1) y:=by
 have e:=drop_cons (aJ h)
 have hx:x<a.size:=(x9.mp h).1
 have pa:(z :: a.toList.drop (x+1)).Pairwise (Le key):=by rw[<- e];exact ha.sublist (xE _ _)
 refine m.take (t:=[z]) (by rw[zi]) hx m.hy (by rw[e];exact Bs _) (yK _ _) λp hp t ht =>?_
 have ep:p=z:=by simpa using hp
 subst ep
 rcases vY.mp ht with q | q
 ·exact (CH.mp pa).1 t q
 ·exact hb t q
theorem MW.iM {a b o:Array wo}{x y:Nat}{z:wo}(m:MW key a b o x y)(h:b[y]? = some z)(hb:b.toList.Pairwise (Le key))(ha:∀t∈a.toList.drop x,Le key z t):MW key a b (o.push z) x (y+1):=by
 have e:=drop_cons (aJ h)
 have hy:y<b.size:=(x9.mp h).1
 have pb:(z :: b.toList.drop (y+1)).Pairwise (Le key):=by rw[<- e];exact hb.sublist (xE _ _)
 refine m.take (t:=[z]) (by rw[zi]) m.hx hy (by rw[e,B9];exact Dk.symm) (yK _ _) λp hp t ht =>?_
 have ep:p=z:=by simpa using hp
 subst ep
 rcases vY.mp ht with q | q
 ·exact ha t q
 ·exact (CH.mp pb).1 t q
theorem ext_toList (a:Array wo)(x k:Nat):(a.extract x (x+k)).toList=(a.toList.drop x).take k:=by
 rw[yI,yf,zw]
theorem dY (a:Array wo)(x:Nat):(a.extract x a.size).toList=a.toList.drop x:=by
 rw[yI,yf]
 exact xv (by rw[wX,vX];exact vS _)
theorem aM {l:List wo}(h:l.Pairwise (Le key)){i j:Nat}{p q:wo}(hi:l[i]? = some p)(hj:l[j]? = some q)(hij:i<=j):Le key p q:=by
 by_cases e:i=j
 ·subst e
  rw[hi] at hj
  cases hj
  exact yg _
 ·obtain ⟨h1,e1⟩:=v7.mp hi
  obtain ⟨h2,e2⟩:=v7.mp hj
  have:=z9.mp h i j h1 h2 (by omega)
  rw[e1,e2] at this
  exact this
theorem aT {l:List wo}{i:Nat}{t:wo}(h:t∈l.drop i):∃j,i<=j/\l[j]? = some t:=by
 obtain ⟨n,e⟩:=xt.mp h
 rw[zD] at e
 exact ⟨i+n,by omega,e⟩
theorem fZ {l:List wo}{i k:Nat}{t:wo}(h:t∈(l.drop i).take k):∃j,j<k/\l[i+j]? = some t:=by
 obtain ⟨n,e⟩:=xt.mp h
 rw[yh] at e
 split at e
 ·rw[zD] at e
  exact ⟨n,by omega,e⟩
 ·cases e
theorem MW.pK {a b o:Array wo}{x y k:Nat}(m:MW key a b o x y)(hk:x+k<=a.size)(ha:a.toList.Pairwise (Le key))(hb:∀j p,j<k->a.toList[x+j]? = some p->∀t∈b.toList.drop y,Le key p t):MW key a b (o++a.extract x (x+k)) (x+k) y:=by
 refine m.take (t:=(a.toList.drop x).take k) (by rw[wU,ext_toList]) hk m.hy ?_ ?_ λp hp t ht =>?_
 ·rw[<- wF, <- drop_take]
 ·exact ha.sublist ((xQ _ _).trans (xE _ _))
 ·obtain ⟨j,hj,e⟩:=fZ hp
  rcases vY.mp ht with q | q
  ·obtain ⟨i,hi,e2⟩:=aT q
   exact aM ha e e2 (by omega)
  ·exact hb j p hj e t q
theorem MW.pL {a b o:Array wo}{x y k:Nat}(m:MW key a b o x y)(hk:y+k<=b.size)(hb:b.toList.Pairwise (Le key))(ha:∀j p,j<k->b.toList[y+j]? = some p->∀t∈a.toList.drop x,Le key p t):MW key a b (o++b.extract y (y+k)) x (y+k):=by
 refine m.take (t:=(b.toList.drop y).take k) (by rw[wU,ext_toList]) m.hx hk ?_ ?_ λp hp t ht =>?_
 ·rw[drop_take b.toList y k]
  have e:((b.toList.drop y).take k++b.toList.drop (y+k)).take k=(b.toList.drop y).take k:=by rw[<- drop_take]
  rw[e]
  refine (List.perm_append_comm_assoc _ _ _)
 ·exact hb.sublist ((xQ _ _).trans (xE _ _))
 ·obtain ⟨j,hj,e⟩:=fZ hp
  rcases vY.mp ht with q | q
  ·exact ha j p hj e t q
  ·obtain ⟨i,hi,e2⟩:=aT q
   exact aM hb e e2 (by omega)
theorem MW.nP {a b o:Array wo}{x y:Nat}(m:MW key a b o x y)(ha:a.toList.Pairwise (Le key))(hy:y=b.size):cU key a b (o++a.extract x a.size++b.extract y b.size):=by
 subst hy
 have e:b.toList.drop b.size=[]:=B1 (by rw[vX];exact vS _)
 refine m.fin (t:=a.toList.drop x) (by rw[wU,wU,dY,dY,e,xN]) (by rw[e,xN]) (ha.sublist (xE _ _))
theorem MW.nQ {a b o:Array wo}{x y:Nat}(m:MW key a b o x y)(hb:b.toList.Pairwise (Le key))(hx:x=a.size):cU key a b (o++a.extract x a.size++b.extract y b.size):=by
 subst hx
 have e:a.toList.drop a.size=[]:=B1 (by rw[vX];exact vS _)
 refine m.fin (t:=b.toList.drop y) (by rw[wU,wU,dY,dY,e,xN]) (by rw[e,zF]) (hb.sublist (xE _ _))
theorem MW.last {a b o:Array wo}{x y:Nat}(m:MW key a b o x y)(ha:a.toList.Pairwise (Le key))(hb:b.toList.Pairwise (Le key))(hx:x+1=a.size)(hl:∀p q,p∈b.toList->a[a.size-1]? = some q->Le key p q):cU key a b (o++b.extract y b.size++a.extract x a.size):=by
 refine m.fin (t:=b.toList.drop y++a.toList.drop x) (by rw[wU,wU,dY,dY,wF]) zf ?_
 refine xT.mpr ⟨hb.sublist (xE _ _),ha.sublist (xE _ _),λp hp q hq=>hl p q (zX hp) ?_⟩
 obtain ⟨i,hi,e⟩:=aT hq
 rw[v8] at e
 have hi2:i<a.size:=(x9.mp e).1
 rw[show a.size-1=i by omega]
 exact e
theorem MW.size {a b o:Array wo}{x y:Nat}(m:MW key a b o x y):o.size+(a.size-x)+(b.size-y)=a.size+b.size:=by
 have e:=m.perm.length_eq
 simp only[vQ,wX,vX] at e
 omega
end
structure Sm (st st':wK):Prop where
 k:kindOf st'=kindOf st
 a:wx st'=wx st
 p:wH st'=wH st
 f:failedOf st'=failedOf st
theorem Sm.refl (st:wK):Sm st st:=⟨rfl,rfl,rfl,rfl⟩
theorem Sm.mg {st st':wK}(h:Sm st st')(n:Nat):Sm st (SortSt.mk' (kindOf st') (wx st') (wH st') n (failedOf st')):=⟨h.k,h.a,h.p,h.f⟩
open PySem PyProof.Rows
section
variable  {prog:wu}{w:w4}{A:w6}{E:vP->vR->Prop}{s:vR}{O:A4}{key:wo->O.α}{U:wo->Prop}{κ:SortKind}
theorem aX {a:Array wo}{i:Nat}(h:i<a.size):∃z,a[i]? = some z:=⟨a[i],by simp[h]⟩
theorem bR {a:Array wo}{i:Nat}{z:wo}(h:a[i]? = some z):z∈a.toList:=xt.mpr ⟨i,by rw[v8];exact h⟩
theorem ltq {x n:Nat}(h:x<=n)(c:¬ (x == n)=true):x<n:=CI h λz=>c (beq_iff_eq.mpr z)
abbrev LoC:=Option (Array wo)×Array wo×Nat×Nat×Nat×Nat×Nat
def rO (a b o:Array wo)(x y mg ac bc:Nat):StateT wK Sem (ForInStep LoC):=do
  let z ← elem' a x
  if (x+1+1 == a.size)=true then pure (.done (some (o.push z++b.extract y b.size++a.extract (x+1) a.size),o.push z,x+1,y,mg,ac,bc))
  else if (decide (ac<7) && decide (bc<7))=true then pure (.done (none,o.push z,x+1,y,mg,ac,bc))
  else pure (.yield (none,o.push z,x+1,y,mg,ac,bc))
def rP (a b o:Array wo)(x y mg ac bc:Nat):StateT wK Sem (ForInStep LoC):=do
  let z ← elem' b y
  if (y+1 == b.size)=true then pure (.done (some (o.push z++a.extract x a.size++b.extract (y+1) b.size),o.push z,x,y+1,mg,ac,bc))
  else do
    let z2 ← elem' a x
    let __x ← gal true z2 b (y+1) (b.size-(y+1)) 0
    match __x with
    | some k =>
      if k>0 then
        if (y+1+k == b.size)=true then pure (.done (some (o.push z++b.extract (y+1) (y+1+k)++a.extract x a.size++b.extract (y+1+k) b.size),o.push z++b.extract (y+1) (y+1+k),x,y+1+k,mg,ac,k))
        else rO a b (o.push z++b.extract (y+1) (y+1+k)) x (y+1+k) mg ac k
      else rO a b (o.push z) x (y+1) mg ac k
    | _=>pure (.done (some (o.push z++a.extract x a.size++b.extract (y+1) b.size),o.push z,x,y+1,mg,ac,bc))
def nR (a b p:Array wo)(x y ac bc mg:Nat):StateT wK Sem (ForInStep LoC):=do
  modify (λs=>SortSt.mk' (kindOf s) (wx s) (wH s) mg (failedOf s))
  let z ← elem' b y
  let __x ← gal false z a x (a.size-x) 0
  match __x with
  | some k =>
    if k>0 then
      if (x+k+1 == a.size)=true then pure (.done (some (p++a.extract x (x+k)++b.extract y b.size++a.extract (x+k) a.size),p++a.extract x (x+k),x+k,y,mg,k,bc))
      else if (x+k == a.size)=true then pure (.done (some (p++a.extract x (x+k)++a.extract (x+k) a.size++b.extract y b.size),p++a.extract x (x+k),x+k,y,mg,k,bc))
      else rP a b (p++a.extract x (x+k)) (x+k) y mg k bc
    else rP a b p x y mg k bc
  | _=>pure (.done (some (p++a.extract x a.size++b.extract y b.size),p,x,y,mg,ac,bc))
def LoQ (key:wo->O.α)(a b:Array wo)(st:wK)(n:Nat)(r:ForInStep LoC)(st':wK):Prop:=match r with
 | .done c=>Sm st st'/\((∃r p x y mg ac bc,c=(some r,p,x,y,mg,ac,bc)/\cU key a b r)\/∃p x y mg ac bc,c=(none,p,x,y,mg,ac,bc)/\MW key a b p x y/\x+1<a.size/\y<b.size/\n<=p.size)
 | .yield c=>Sm st st'/\∃p x y mg ac bc,c=(none,p,x,y,mg,ac,bc)/\MW key a b p x y/\x+1<a.size/\y<b.size/\n<=p.size
theorem LoQ.out {a b:Array wo}{st st':wK}{n:Nat}{r:Array wo}{c:Array wo×Nat×Nat×Nat×Nat×Nat}(sm:Sm st st')(f:cU key a b r):LoQ key a b st n (.done (some r,c)) st':=by
 obtain ⟨p,x,y,mg,ac,bc⟩:=c
 exact ⟨sm,.inl ⟨_,_,_,_,_,_,_,rfl,f⟩⟩
theorem mH {a b:Array wo}{st st':wK}(ha:a.toList.Pairwise (Le key))(hb:b.toList.Pairwise (Le key))(hl:∀p q,p∈b.toList->a[a.size-1]? = some q->Le key p q)
  {o:Array wo} {x y mg ac bc n:Nat} {za:wo} (sm:Sm st st') (ea:a[x]? = some za) (m4:MW key a b (o.push za) (x+1) y) (hx:x+1<a.size) (hy:y<b.size) (hn:n<=o.size):wpS (wI prog w) A E s (rO a b o x y mg ac bc) (LoQ key a b st n) st':=by
 unfold rO
 refine wd (aU ea ?_)
 by_cases d5:(x+1+1 == a.size)=true
 ·rw[if_pos d5]
  exact wt (LoQ.out sm (m4.last ha hb (beq_iff_eq.mp d5) hl))
 rw[if_neg d5]
 have hx2:x+1+1<a.size:=ltq hx d5
 have hn':n<=(o.push za).size:=by rw[zI];exact AD hn
 split
 ·exact wt ⟨sm,.inr ⟨_,_,_,_,_,_,rfl,m4,hx2,hy,hn'⟩⟩
 ·exact wt ⟨sm,_,_,_,_,_,_,rfl,m4,hx2,hy,hn'⟩
theorem mJ (C:Cmp prog w A s O key U κ){a b:Array wo}{st st':wK}(hκ:kindOf st=κ)(ua:∀p∈a.toList,U p)(ub:∀p∈b.toList,U p)
  (ha:a.toList.Pairwise (Le key)) (hb:b.toList.Pairwise (Le key)) (hl:∀p q,p∈b.toList->a[a.size-1]? = some q->Le key p q)
  {o:Array wo} {x y mg ac bc n:Nat} {zb:wo} (sm:Sm st st') (eb:b[y]? = some zb) (mk:MW key a b o x y) (bl:∀t∈a.toList.drop x,Le key zb t) (hx1:x+1<a.size) (hy:y<b.size) (hn:n<=o.size):wpS (wI prog w) A E s (rP a b o x y mg ac bc) (LoQ key a b st n) st':=by
 unfold rP
 refine wd (aU eb ?_)
 have m2:=mk.iM eb hb bl
 by_cases d3:(y+1 == b.size)=true
 ·rw[if_pos d3]
  exact wt (LoQ.out sm (m2.nP ha (beq_iff_eq.mp d3)))
 rw[if_neg d3]
 have hy1:y+1<b.size:=ltq hy d3
 have hxa:x<a.size:=zQ hx1
 obtain ⟨za,ea⟩:=aX hxa
 refine wd (aU ea ?_)
 refine wd (uu C (λi=>(b[y+1+i]?).getD za) (sm.k.trans hκ) (ua _ (bR ea)) (λi hi =>?_) (λi hi =>?_) (λi j hij hj =>?_) (CV hy1) λk1 hk1 g1 g2 =>?_)
 ·obtain ⟨z,e⟩:=aX (show y+1+i<b.size by omega)
  rw[e];rfl
 ·obtain ⟨z,e⟩:=aX (show y+1+i<b.size by omega)
  rw[e];exact ub _ (bR e)
 ·obtain ⟨z,e⟩:=aX (show y+1+i<b.size by omega)
  obtain ⟨z',e'⟩:=aX (show y+1+j<b.size by omega)
  rw[e,e'];exact aM hb (aJ e) (aJ e') (Ae hij _)
 dsimp only at g1 g2 ⊢
 have tb:∀j q,j<k1->b.toList[y+1+j]? = some q->∀t∈a.toList.drop x,Le key q t:=λj q hj e t ht=>by
  have z:=g1 j hj
  rw[v8] at e
  rw[e] at z
  obtain ⟨n,hn,e2⟩:=aT ht
  exact wR (xR z) (aM ha (aJ ea) e2 hn)
 have hk1':y+1+k1<=b.size:=by omega
 have m3:=m2.pL (k:=k1) hk1' hb tb
 have bl2:∀t∈b.toList.drop (y+1+k1),Le key za t:=λt ht=>by
  obtain ⟨n,hn,e2⟩:=aT ht
  rw[v8] at e2
  have hn2:n<b.size:=(x9.mp e2).1
  have z:=g2 (n-(y+1)) (by omega) (by omega)
  rw[show y+1+(n-(y+1))=n by omega,e2] at z
  exact z
 have hn1:n<=(o.push zb).size:=by rw[zI];exact AD hn
 by_cases k2:k1>0
 ·rw[if_pos k2]
  by_cases d4:(y+1+k1 == b.size)=true
  ·rw[if_pos d4]
   exact wt (LoQ.out sm (m3.nP ha (beq_iff_eq.mp d4)))
  rw[if_neg d4]
  exact mH ha hb hl sm ea (m3.fY ea ha bl2) hx1 (ltq hk1' d4) (wL hn1 (by rw[zR];exact zz _ _))
 ·rw[if_neg k2]
  obtain rfl:k1=0:=zA k2
  exact mH ha hb hl sm ea (m2.fY ea ha bl2) hx1 hy1 hn1
theorem mK (C:Cmp prog w A s O key U κ){a b:Array wo}{st st':wK}(hκ:kindOf st=κ)(ua:∀p∈a.toList,U p)(ub:∀p∈b.toList,U p)
  (ha:a.toList.Pairwise (Le key)) (hb:b.toList.Pairwise (Le key)) (hl:∀p q,p∈b.toList->a[a.size-1]? = some q->Le key p q)
  {p:Array wo} {x y ac bc n:Nat} (mg:Nat) (sm:Sm st st') (m:MW key a b p x y) (hx:x+1<a.size) (hy:y<b.size) (hn:n<=p.size):wpS (wI prog w) A E s (nR a b p x y ac bc mg) (LoQ key a b st n) st':=by
 unfold nR
 obtain ⟨zb,eb⟩:=aX hy
 refine wd (yP ?_)
 refine wd (aU eb ?_)
 refine wd (ur C (λi=>(a[x+i]?).getD zb) ((sm.mg _).k.trans hκ) (ub _ (bR eb)) (λi hi =>?_) (λi hi =>?_) (λi j hij hj =>?_) (CV (zQ hx)) λk hk h1 h2 =>?_)
 ·obtain ⟨z,e⟩:=aX (show x+i<a.size by omega)
  rw[e];rfl
 ·obtain ⟨z,e⟩:=aX (show x+i<a.size by omega)
  rw[e];exact ua _ (bR e)
 ·obtain ⟨z,e⟩:=aX (show x+i<a.size by omega)
  obtain ⟨z',e'⟩:=aX (show x+j<a.size by omega)
  rw[e,e'];exact aM ha (aJ e) (aJ e') (Ae hij _)
 dsimp only at h1 h2 ⊢
 have ta:∀j q,j<k->a.toList[x+j]? = some q->∀t∈b.toList.drop y,Le key q t:=λj q hj e t ht=>by
  have z:=h1 j hj
  rw[v8] at e
  rw[e] at z
  obtain ⟨n,hn,e2⟩:=aT ht
  exact wR (show O.kle (key q) (key zb) from z) (aM hb (aJ eb) e2 hn)
 have hk':x+k<=a.size:=by omega
 have mk:=m.pK (k:=k) hk' ha ta
 have bl:∀t∈a.toList.drop (x+k),Le key zb t:=λt ht=>by
  obtain ⟨n,hn,e2⟩:=aT ht
  rw[v8] at e2
  have hn2:n<a.size:=(x9.mp e2).1
  have z:=h2 (n-x) (by omega) (by omega)
  rw[show x+(n-x)=n by omega,e2] at z
  exact xR z
 by_cases k0:k>0
 ·rw[if_pos k0]
  by_cases d1:(x+k+1 == a.size)=true
  ·rw[if_pos d1]
   exact wt (LoQ.out (sm.mg _) (mk.last ha hb (beq_iff_eq.mp d1) hl))
  rw[if_neg d1]
  by_cases d2:(x+k == a.size)=true
  ·rw[if_pos d2]
   exact wt (LoQ.out (sm.mg _) (mk.nQ hb (beq_iff_eq.mp d2)))
  rw[if_neg d2]
  exact mJ C hκ ua ub ha hb hl (sm.mg _) eb mk bl (ltq (ltq hk' d2) d1) hy (wL hn (by rw[zR];exact zz _ _))
 ·rw[if_neg k0]
  obtain rfl:k=0:=zA k0
  exact mJ C hκ ua ub ha hb hl (sm.mg _) eb m bl hx hy hn
theorem rQ (C:Cmp prog w A s O key U κ){a b:Array wo}{st st':wK}(hκ:kindOf st=κ)(ua:∀p∈a.toList,U p)(ub:∀p∈b.toList,U p)
  (ha:a.toList.Pairwise (Le key)) (hb:b.toList.Pairwise (Le key)) (hl:∀p q,p∈b.toList->a[a.size-1]? = some q->Le key p q)
  {p:Array wo} {x y ac bc n mg:Nat} (sm:Sm st st') (m:MW key a b p x y) (hx:x+1<a.size) (hy:y<b.size) (hn:n<=p.size):wpS (wI prog w) A E s (if mg>1 then nR a b p x y ac bc (mg-1) else nR a b p x y ac bc mg) (LoQ key a b st n) st':=by
 split
 ·exact mK C hκ ua ub ha hb hl (mg-1) sm m hx hy hn
 ·exact mK C hκ ua ub ha hb hl mg sm m hx hy hn
abbrev LoD:=Option (Array wo)×Array wo×Nat×Nat×Nat×Nat
abbrev LoE:=Option (Array wo)×Array wo×Nat×Nat×Nat
def pM (a b:Array wo)(mg:Nat)(c:LoD):StateT wK Sem (ForInStep LoD):=do
  let u ← elem' b c.2.2.2.1
  let v ← elem' a c.2.2.1
  let __x ← lt' u v
  match __x with
  | some bw =>
    if bw=true then do
      let z ← elem' b c.2.2.2.1
      if (c.2.2.2.1+1 == b.size)=true then pure (.done (some (c.2.1.push z++a.extract c.2.2.1 a.size++b.extract (c.2.2.2.1+1) b.size),c.2.1.push z,c.2.2.1,c.2.2.2.1+1,0,c.2.2.2.2.2+1))
      else if c.2.2.2.2.2+1≥mg then pure (.done (none,c.2.1.push z,c.2.2.1,c.2.2.2.1+1,0,c.2.2.2.2.2+1))
      else pure (.yield (none,c.2.1.push z,c.2.2.1,c.2.2.2.1+1,0,c.2.2.2.2.2+1))
    else do
      let z ← elem' a c.2.2.1
      if (c.2.2.1+1+1 == a.size)=true then pure (.done (some (c.2.1.push z++b.extract c.2.2.2.1 b.size++a.extract (c.2.2.1+1) a.size),c.2.1.push z,c.2.2.1+1,c.2.2.2.1,c.2.2.2.2.1+1,0))
      else if c.2.2.2.2.1+1≥mg then pure (.done (none,c.2.1.push z,c.2.2.1+1,c.2.2.2.1,c.2.2.2.2.1+1,0))
      else pure (.yield (none,c.2.1.push z,c.2.2.1+1,c.2.2.2.1,c.2.2.2.2.1+1,0))
  | _=>pure (.done (some (c.2.1++a.extract c.2.2.1 a.size++b.extract c.2.2.2.1 b.size),c.2.1,c.2.2.1,c.2.2.2.1,c.2.2.2.2.1,c.2.2.2.2.2))
def uv (a b:Array wo)(c:LoC):StateT wK Sem (ForInStep LoC) :=
 if c.2.2.2.2.1>1 then nR a b c.2.1 c.2.2.1 c.2.2.2.1 c.2.2.2.2.2.1 c.2.2.2.2.2.2 (c.2.2.2.2.1-1) else nR a b c.2.1 c.2.2.1 c.2.2.2.1 c.2.2.2.2.2.1 c.2.2.2.2.2.2 c.2.2.2.2.1
def lC (a b:Array wo)(c:LoE):StateT wK Sem (ForInStep LoE):=do
  let d ← forIn [0:a.size+b.size] ((none,c.2.1,c.2.2.1,c.2.2.2.1,0,0):LoD) λ_ d=>pM a b c.2.2.2.2 d
  match d.1 with
  | some r=>pure (.done (some r,d.2.1,d.2.2.1,d.2.2.2.1,c.2.2.2.2))
  | none=>do
    rule "list.sort.gallop"
    let e ← forIn [0:a.size+b.size] ((none,d.2.1,d.2.2.1,d.2.2.2.1,c.2.2.2.2+1,d.2.2.2.2.1,d.2.2.2.2.2):LoC) λ_ e=>uv a b e
    match e.1 with
    | some r=>pure (.done (some r,e.2.1,e.2.2.1,e.2.2.2.1,e.2.2.2.2.1))
    | none=>do
      modify (λs=>SortSt.mk' (kindOf s) (wx s) (wH s) (e.2.2.2.2.1+1) (failedOf s))
      pure (.yield (none,e.2.1,e.2.2.1,e.2.2.2.1,e.2.2.2.2.1+1))
theorem rR (a b:Array wo):mLo a b=(do
    rule "list.sort.merge-lo"
    let z ← elem' b 0
    if (1 == b.size)=true then pure (#[z]++a.extract 0 a.size++b.extract 1 b.size)
    else if (0+1 == a.size)=true then pure (#[z]++b.extract 1 b.size++a.extract 0 a.size)
    else do
      let g ← get
      let c ← forIn [0:a.size+b.size] ((none, #[z],0,1,gallopOf g):LoE) λ_ c=>lC a b c
      match c.1 with
      | some r=>pure r
      | none=>unsupported "internal:list.sort.merge-bound"):=by
  kernel_rfl
def LdI (key:wo->O.α)(a b:Array wo)(st:wK)(n:Nat)(c:LoD)(st':wK):Prop:=Sm st st'/\∃o' x y ac bc,c=(none,o',x,y,ac,bc)/\MW key a b o' x y/\x+1<a.size/\y<b.size/\n<=o'.size
def LdQ (key:wo->O.α)(a b:Array wo)(st:wK)(n:Nat)(c:LoD)(st':wK):Prop:=Sm st st'/\((∃r o x y ac bc,c=(some r,o,x,y,ac,bc)/\cU key a b r)\/∃o' x y ac bc,c=(none,o',x,y,ac,bc)/\MW key a b o' x y/\x+1<a.size/\y<b.size/\n<=o'.size)
theorem pN (C:Cmp prog w A s O key U κ){a b:Array wo}{st st':wK}(hκ:kindOf st=κ)(ua:∀p∈a.toList,U p)(ub:∀p∈b.toList,U p)
  (ha:a.toList.Pairwise (Le key)) (hb:b.toList.Pairwise (Le key)) (hl:∀p q,p∈b.toList->a[a.size-1]? = some q->Le key p q)
  {mg n m':Nat} {c:LoD} (I:LdI key a b st n c st') (hm:m'<=n+1) {Q:ForInStep LoD->wK->Prop} (h:∀r st',(match r with | .done c'=>LdQ key a b st (n+1) c' st' | .yield c'=>LdI key a b st m' c' st')->Q r st'):wpS (wI prog w) A E s (pM a b mg c) Q st':=by
 obtain ⟨sm2,o',x,y,ac,bc,rfl,m,hx,hy,hz⟩:=I
 unfold pM
 obtain ⟨za,ea⟩:=aX (zQ hx)
 obtain ⟨zb,eb⟩:=aX hy
 refine wd (aU eb (wd (aU ea (wd (C.lt _ st' zb za _ (sm2.k.trans hκ) (ub _ (bR eb)) (ua _ (bR ea)) ?_)))))
 dsimp only
 have sz:∀z,n+1<=(o'.push z).size:=λz=>by rw[zI];exact BU hz
 cases hlt:O.blt (key zb) (key za) with
 | true =>
  rw[if_pos rfl]
  refine wd (aU eb ?_)
  have m1:=m.iM eb hb λt ht=>by
   obtain ⟨n,hn,e⟩:=aT ht
   exact wR (xR hlt) (aM ha (aJ ea) e hn)
  by_cases c3:(y+1 == b.size)=true
  ·rw[if_pos c3]
   exact wt (h _ _ ⟨sm2,.inl ⟨_,_,_,_,_,_,rfl,m1.nP ha (beq_iff_eq.mp c3)⟩⟩)
  ·rw[if_neg c3]
   have c3':=ltq hy c3
   split
   ·exact wt (h _ _ ⟨sm2,.inr ⟨_,_,_,_,_,rfl,m1,hx,c3',sz _⟩⟩)
   ·exact wt (h _ _ ⟨sm2,_,_,_,_,_,rfl,m1,hx,c3',wL hm (sz _)⟩)
 | false =>
  rw[if_neg wa]
  refine wd (aU ea ?_)
  have m1:=m.fY ea ha λt ht=>by
   obtain ⟨n,hn,e⟩:=aT ht
   exact wR (show O.kle (key za) (key zb) from hlt) (aM hb (aJ eb) e hn)
  by_cases c3:(x+1+1 == a.size)=true
  ·rw[if_pos c3]
   exact wt (h _ _ ⟨sm2,.inl ⟨_,_,_,_,_,_,rfl,m1.last ha hb (beq_iff_eq.mp c3) hl⟩⟩)
  ·rw[if_neg c3]
   have c3':=ltq hx c3
   split
   ·exact wt (h _ _ ⟨sm2,.inr ⟨_,_,_,_,_,rfl,m1,c3',hy,sz _⟩⟩)
   ·exact wt (h _ _ ⟨sm2,_,_,_,_,_,rfl,m1,c3',hy,wL hm (sz _)⟩)
def LeI (key:wo->O.α)(a b:Array wo)(st:wK)(n:Nat)(c:LoE)(st':wK):Prop:=Sm st st'/\∃o x y mg,c=(none,o,x,y,mg)/\MW key a b o x y/\x+1<a.size/\y<b.size/\n+1<=o.size
def LeQ (key:wo->O.α)(a b:Array wo)(st:wK)(c:LoE)(st':wK):Prop:=Sm st st'/\((∃r o x y mg,c=(some r,o,x,y,mg)/\cU key a b r)\/∃o x y mg,c=(none,o,x,y,mg)/\MW key a b o x y/\x+1<a.size/\y<b.size/\a.size+b.size+1<=o.size)
theorem nU (C:Cmp prog w A s O key U κ){a b:Array wo}{st st':wK}(hκ:kindOf st=κ)(ua:∀p∈a.toList,U p)(ub:∀p∈b.toList,U p)
  (ha:a.toList.Pairwise (Le key)) (hb:b.toList.Pairwise (Le key)) (na:0<a.size) (hl:∀p q,p∈b.toList->a[a.size-1]? = some q->Le key p q)
  {n:Nat} {c:LoE} (I:LeI key a b st n c st'):wpS (wI prog w) A E s (lC a b c) (λr st'=>match r with | .done c'=>LeQ key a b st c' st' | .yield c'=>LeI key a b st (n+1) c' st') st':=by
 obtain ⟨sm1,o,x,y,mg,rfl,m,hx,hy,hz⟩:=I
 unfold lC
 have q1:1<=a.size+b.size:=wL na (zz _ _)
 refine wd (yz (xH (I:=λj c st'=>LdI key a b st (o.size+min j 1) c st') (Q:=LdQ key a b st (o.size+1)) (λj c st2 _ hj J=>pN (n:=o.size+min j 1) (m':=o.size+min (j+1) 1) C hκ ua ub ha hb hl J (by omega) λr st' k =>?_) (λc st' J =>?_) ⟨sm1,o,x,y,0,0,rfl,m,hx,hy,vS _⟩) ?_)
 ·cases r with
  | done c'=>exact k.imp id λz=>z.imp id λ⟨o',x,y,ac,bc,e,m,hx,hy,hz⟩=>⟨o',x,y,ac,bc,e,m,hx,hy,by omega⟩
  | yield c'=>exact k
 ·obtain ⟨sm,o',x,y,ac,bc,e,m,hx,hy,hz⟩:=J
  exact ⟨sm,.inr ⟨o',x,y,ac,bc,e,m,hx,hy,by omega⟩⟩
 rintro c st2 ⟨sm2,⟨r,o',x,y,ac,bc,rfl,fr⟩ | ⟨o',x,y,ac,bc,rfl,m,hx,hy,hz2⟩⟩
 ·exact wt ⟨sm2,.inl ⟨_,_,_,_,_,rfl,fr⟩⟩
 dsimp only
 refine wd (Cp (zd ⟨rfl,?_⟩))
 refine wd (yz (xH (I:=λ_ c st'=>LoQ key a b st o'.size (.yield c) st') (Q:=λc st'=>LoQ key a b st o'.size (.done c) st') (λj c st3 _ hj J =>?_) (λc st' J=>⟨J.1,.inr J.2⟩) ⟨sm2,o',x,y,_,ac,bc,rfl,m,hx,hy,vS _⟩) ?_)
 ·obtain ⟨sm3,p,x,y,mg,ac,bc,rfl,m,hx,hy,hz3⟩:=J
  refine yz (rQ C hκ ua ub ha hb hl sm3 m hx hy hz3) ?_
  intro r st' h
  cases r <;> exact h
 rintro c st3 ⟨sm3,⟨r,p,x,y,mg,ac,bc,rfl,fr⟩ | ⟨p,x,y,mg,ac,bc,rfl,m,hx,hy,hz3⟩⟩
 ·exact wt ⟨sm3,.inl ⟨_,_,_,_,_,rfl,fr⟩⟩
 ·dsimp only
  exact wd (yP (wt ⟨sm3.mg _,p,x,y,_,rfl,m,hx,hy,by omega⟩))
theorem uw (C:Cmp prog w A s O key U κ){a b:Array wo}{st:wK}{Q:Array wo->wK->Prop}(hκ:kindOf st=κ)(ua:∀p∈a.toList,U p)(ub:∀p∈b.toList,U p)
  (ha:a.toList.Pairwise (Le key)) (hb:b.toList.Pairwise (Le key)) (na:0<a.size) (nb:0<b.size) (h0:∀p q,b[0]? = some p->a[0]? = some q->Le key p q) (hl:∀p q,p∈b.toList->a[a.size-1]? = some q->Le key p q)
  (h:∀r st',Sm st st'->cU key a b r->Q r st'):wpS (wI prog w) A E s (mLo a b) Q st:=by
 rw[rR]
 refine wd (Cp (zd ⟨rfl,?_⟩))
 obtain ⟨b0,eb0⟩:=aX nb
 obtain ⟨a0,ea0⟩:=aX na
 have a0le:∀t∈a.toList,Le key a0 t:=λt ht=>by
  obtain ⟨i,e⟩:=xt.mp ht
  exact aM ha (aJ ea0) e (wM _)
 have m0:MW key a b #[] 0 0:=⟨wM _,wM _,Bs _,List.Pairwise.nil,λp hp=>by cases hp⟩
 have m1:MW key a b #[b0] 0 1:=m0.iM eb0 hb λt ht=>wR (h0 _ _ eb0 ea0) (a0le t ht)
 refine wd (aU eb0 ?_)
 by_cases c1:(1 == b.size)=true
 ·rw[if_pos c1]
  exact wt (h _ st (Sm.refl st) (m1.nP ha (beq_iff_eq.mp c1)))
 rw[if_neg c1]
 by_cases c2:(0+1 == a.size)=true
 ·rw[if_pos c2]
  exact wt (h _ st (Sm.refl st) (m1.last ha hb (beq_iff_eq.mp c2) hl))
 rw[if_neg c2]
 refine wd (BR ?_)
 refine wd (yz (xH (I:=λi c st'=>LeI key a b st i c st') (Q:=LeQ key a b st) (λi c st1 _ _ J=>yz (nU C hκ ua ub ha hb na hl J) λr st' h=>by cases r <;> exact h) (λc st' J =>?_) ⟨Sm.refl st,_,_,_,_,rfl,m1,ltq na c2,ltq nb c1,vS _⟩) ?_)
 ·obtain ⟨sm,o,x,y,mg,e,m,hx,hy,hz⟩:=J
  exact ⟨sm,.inr ⟨o,x,y,mg,e,m,hx,hy,by omega⟩⟩
 rintro c st' ⟨sm,⟨r,o,x,y,mg,rfl,fr⟩ | ⟨o,x,y,mg,rfl,m,hx,hy,hz⟩⟩
 ·exact wt (h r st' sm fr)
 ·have:=m.size
  omega
end
open PySem PyProof.Rows
section
variable  {O:A4}(key:wo->O.α)
structure MV (a b o:Array wo)(x y:Nat):Prop where
 hx:x<=a.size
 hy:y<=b.size
 perm:((a.toList.take x++b.toList.take y)++o.toList.reverse).Perm (a.toList++b.toList)
 sorted:o.toList.reverse.Pairwise (Le key)
 above:∀p∈a.toList.take x++b.toList.take y,∀q∈o.toList.reverse,Le key p q
variable  {key}
theorem MV.fin {a b o:Array wo}{x y:Nat}(m:MV key a b o x y){t:List wo}{r:Array wo}(hr:r.toList=t++o.toList.reverse)(ht:t.Perm (a.toList.take x++b.toList.take y))(hs:t.Pairwise (Le key)):cU key a b r:=by
 unfold cU
 rw[hr]
 exact ⟨(y7 _ ht).trans m.perm,xT.mpr ⟨hs,m.sorted,λp hp q hq=>m.above p (ht.mem_iff.mp hp) q hq⟩⟩
theorem MV.take {a b o:Array wo}{x y x' y':Nat}(m:MV key a b o x y){t:List wo}{r:Array wo}(hr:r.toList.reverse=t++o.toList.reverse)(hx:x'<=a.size)(hy:y'<=b.size)
  (ht:((a.toList.take x'++b.toList.take y')++t).Perm (a.toList.take x++b.toList.take y)) (hs:t.Pairwise (Le key)) (hb:∀p∈a.toList.take x'++b.toList.take y',∀q∈t,Le key p q):MV key a b r x' y':=by
 have sub:∀z,z∈a.toList.take x'++b.toList.take y'\/z∈t->z∈a.toList.take x++b.toList.take y:=λz hz=>ht.mem_iff.mp (vY.mpr hz)
 refine ⟨hx,hy,?_,?_,?_⟩
 ·rw[hr, <- wF]
  exact (y7 _ ht).trans m.perm
 ·rw[hr]
  exact xT.mpr ⟨hs,m.sorted,λp hp q hq=>m.above p (sub p (.inr hp)) q hq⟩
 ·rw[hr]
  intro p hp z hz
  rcases vY.mp hz with h | h
  ·exact hb p hp z h
  ·exact m.above p (sub p (.inl hp)) z h
theorem aY {l:List wo}{k:Nat}{t:wo}(h:t∈l.take k):∃j,j<k/\l[j]? = some t:=by
 obtain ⟨n,e⟩:=xt.mp h
 rw[yh] at e
 split at e
 ·exact ⟨n,by omega,e⟩
 ·cases e
theorem iN {l:List wo}{x:Nat}{z:wo}(hx:1<=x)(h:l[x-1]? = some z):l.take x=l.take (x-1)++[z]:=by
 obtain ⟨n,rfl⟩:∃n,x=n+1:=⟨x-1,by omega⟩
 rw[Nat.add_sub_cancel] at h ⊢
 rw[zS,h]
 rfl
theorem mL (a:Array wo)(c x:Nat)(hx:x<=a.size):(a.extract c x).toList=(a.toList.take x).drop c:=by
 rw[yI,yf,List.drop_take]
theorem dZ (a:Array wo)(x:Nat):(a.extract 0 x).toList=a.toList.take x:=by
 rw[yI,yf,Bt,C9]
theorem MV.fY {a b o:Array wo}{x y:Nat}{z:wo}(m:MV key a b o x y)(h1:1<=x)(h:a[x-1]? = some z)(ha:a.toList.Pairwise (Le key))(hb:∀t∈b.toList.take y,Le key t z):MV key a b (o.push z) (x-1) y:=by
 have e:=iN h1 (aJ h)
 refine m.take (t:=[z]) (by rw[zi,yU];rfl) (by have:=m.hx;omega) m.hy ?_ (yK _ _) λp hp q hq =>?_
 ·rw[e,wF,wF]
  exact yA _ zf
 ·have eq:q=z:=by simpa using hq
  subst eq
  rcases vY.mp hp with r | r
  ·obtain ⟨j,hj,e2⟩:=aY r
   exact aM ha e2 (aJ h) (by omega)
  ·exact hb p r
theorem MV.iM {a b o:Array wo}{x y:Nat}{z:wo}(m:MV key a b o x y)(h1:1<=y)(h:b[y-1]? = some z)(hb:b.toList.Pairwise (Le key))(ha:∀t∈a.toList.take x,Le key t z):MV key a b (o.push z) x (y-1):=by
 have e:=iN h1 (aJ h)
 refine m.take (t:=[z]) (by rw[zi,yU];rfl) m.hx (by have:=m.hy;omega) ?_ (yK _ _) λp hp q hq =>?_
 ·rw[e,wF]
 ·have eq:q=z:=by simpa using hq
  subst eq
  rcases vY.mp hp with r | r
  ·exact ha p r
  ·obtain ⟨j,hj,e2⟩:=aY r
   exact aM hb e2 (aJ h) (by omega)
theorem mM (l:List wo){c x:Nat}(h:c<=x):l.take x=l.take c++(l.take x).drop c:=by
 have e:(l.take x).take c=l.take c:=by rw[List.take_take,Nat.min_eq_left h]
 rw[<- e,xX]
theorem gM {l:List wo}{c x:Nat}{t:wo}(h:t∈(l.take x).drop c):∃j,c<=j/\j<x/\l[j]? = some t:=by
 obtain ⟨j,hj,e⟩:=aT h
 rw[yh] at e
 split at e
 ·exact ⟨j,hj,by omega,e⟩
 ·cases e
theorem MV.pK {a b o:Array wo}{x y c:Nat}(m:MV key a b o x y)(hc:c<=x)(ha:a.toList.Pairwise (Le key))(hb:∀j p,c<=j->j<x->a.toList[j]? = some p->∀t∈b.toList.take y,Le key t p):MV key a b (o++(a.extract c x).reverse) c y:=by
 refine m.take (t:=(a.toList.take x).drop c) (by rw[wU,yU,zh,A0,mL _ _ _ m.hx]) (wL hc m.hx) m.hy ?_ ?_ λp hp q hq =>?_
 ·refine List.Perm.trans ?_ (y7 _ (List.Perm.of_eq (mM a.toList hc).symm))
  rw[wF,wF]
  exact yA _ zf
 ·exact ha.sublist ((xE _ _).trans (xQ _ _))
 ·obtain ⟨j,h1,h2,e⟩:=gM hq
  rcases vY.mp hp with r | r
  ·obtain ⟨i,hi,e2⟩:=aY r
   exact aM ha e2 e (by omega)
  ·exact hb j q h1 h2 e p r
theorem MV.pL {a b o:Array wo}{x y c:Nat}(m:MV key a b o x y)(hc:c<=y)(hb:b.toList.Pairwise (Le key))(ha:∀j p,c<=j->j<y->b.toList[j]? = some p->∀t∈a.toList.take x,Le key t p):MV key a b (o++(b.extract c y).reverse) x c:=by
 refine m.take (t:=(b.toList.take y).drop c) (by rw[wU,yU,zh,A0,mL _ _ _ m.hy]) m.hx (wL hc m.hy) ?_ ?_ λp hp q hq =>?_
 ·rw[wF, <- mM b.toList hc]
 ·exact hb.sublist ((xE _ _).trans (xQ _ _))
 ·obtain ⟨j,h1,h2,e⟩:=gM hq
  rcases vY.mp hp with r | r
  ·exact ha j q h1 h2 e p r
  ·obtain ⟨i,hi,e2⟩:=aY r
   exact aM hb e2 e (by omega)
theorem MV.nQ {a b o:Array wo}{x y:Nat}(m:MV key a b o x y)(hb:b.toList.Pairwise (Le key))(hx:x=0):cU key a b (a.extract 0 x++b.extract 0 y++o.reverse):=by
 subst hx
 refine m.fin (t:=b.toList.take y) (by rw[wU,wU,dZ,dZ,zh,Bu,zF]) (by rw[Bu,zF]) (hb.sublist (xQ _ _))
theorem MV.nP {a b o:Array wo}{x y:Nat}(m:MV key a b o x y)(ha:a.toList.Pairwise (Le key))(hy:y=0):cU key a b (a.extract 0 x++b.extract 0 y++o.reverse):=by
 subst hy
 refine m.fin (t:=a.toList.take x) (by rw[wU,wU,dZ,dZ,zh,Bu,xN]) (by rw[Bu,xN]) (ha.sublist (xQ _ _))
theorem MV.first {a b o:Array wo}{x y:Nat}(m:MV key a b o x y)(ha:a.toList.Pairwise (Le key))(hb:b.toList.Pairwise (Le key))(hy:y=1)(hl:∀p q,b[0]? = some p->q∈a.toList->Le key p q):cU key a b (b.extract 0 y++a.extract 0 x++o.reverse):=by
 refine m.fin (t:=b.toList.take y++a.toList.take x) (by rw[wU,wU,dZ,dZ,zh]) zf ?_
 refine xT.mpr ⟨hb.sublist (xQ _ _),ha.sublist (xQ _ _),λp hp q hq=>hl p q ?_ (zY hq)⟩
 obtain ⟨i,hi,e⟩:=aY hp
 rw[v8] at e
 rw[show i=0 by omega] at e
 exact e
theorem MV.size {a b o:Array wo}{x y:Nat}(m:MV key a b o x y):o.size+x+y=a.size+b.size:=by
 have e:=m.perm.length_eq
 have h1:=m.hx
 have h2:=m.hy
 simp only[vQ,wN,vX,xK] at e
 omega
end
open PySem PyProof.Rows
section
variable  {prog:wu}{w:w4}{A:w6}{E:vP->vR->Prop}{s:vR}{O:A4}{key:wo->O.α}{U:wo->Prop}{κ:SortKind}
abbrev HiC:=Option (Array wo)×Nat×Nat×Array wo×Nat×Nat×Nat
def rS (a b:Array wo)(x y:Nat)(o:Array wo)(mg ac bc:Nat):StateT wK Sem (ForInStep HiC):=do
  let z ← elem' a (x-1)
  if (x-1 == 0)=true then pure (.done (some (a.extract 0 (x-1)++b.extract 0 y++(o.push z).reverse),x-1,y,o.push z,mg,ac,bc))
  else if (decide (ac<7) && decide (bc<7))=true then pure (.done (none,x-1,y,o.push z,mg,ac,bc))
  else pure (.yield (none,x-1,y,o.push z,mg,ac,bc))
def rT (a b:Array wo)(x y:Nat)(o:Array wo)(mg ac bc:Nat):StateT wK Sem (ForInStep HiC):=do
  let z ← elem' b (y-1)
  if (y-1 == 1)=true then pure (.done (some (b.extract 0 (y-1)++a.extract 0 x++(o.push z).reverse),x,y-1,o.push z,mg,ac,bc))
  else do
    let z2 ← elem' a (x-1)
    let __x ← gal true z2 b 0 (y-1) (y-1-1)
    match __x with
    | some c =>
      if y-1-c>0 then
        if (c == 1)=true then pure (.done (some (b.extract 0 c++a.extract 0 x++(o.push z++(b.extract c (y-1)).reverse).reverse),x,c,o.push z++(b.extract c (y-1)).reverse,mg,ac,y-1-c))
        else if (c == 0)=true then pure (.done (some (a.extract 0 x++b.extract 0 c++(o.push z++(b.extract c (y-1)).reverse).reverse),x,c,o.push z++(b.extract c (y-1)).reverse,mg,ac,y-1-c))
        else rS a b x c (o.push z++(b.extract c (y-1)).reverse) mg ac (y-1-c)
      else rS a b x (y-1) (o.push z) mg ac (y-1-c)
    | _=>pure (.done (some (a.extract 0 x++b.extract 0 (y-1)++(o.push z).reverse),x,y-1,o.push z,mg,ac,bc))
def nV (a b:Array wo)(x y:Nat)(p:Array wo)(ac bc mg:Nat):StateT wK Sem (ForInStep HiC):=do
  modify (λs=>SortSt.mk' (kindOf s) (wx s) (wH s) mg (failedOf s))
  let z ← elem' b (y-1)
  let __x ← gal false z a 0 x (x-1)
  match __x with
  | some c =>
    if x-c>0 then
      if (c == 0)=true then pure (.done (some (a.extract 0 c++b.extract 0 y++(p++(a.extract c x).reverse).reverse),c,y,p++(a.extract c x).reverse,mg,x-c,bc))
      else rT a b c y (p++(a.extract c x).reverse) mg (x-c) bc
    else rT a b x y p mg (x-c) bc
  | _=>pure (.done (some (a.extract 0 x++b.extract 0 y++p.reverse),x,y,p,mg,ac,bc))
def HiQ (key:wo->O.α)(a b:Array wo)(st:wK)(n:Nat)(r:ForInStep HiC)(st':wK):Prop:=match r with
 | .done c=>Sm st st'/\((∃r x y p mg ac bc,c=(some r,x,y,p,mg,ac,bc)/\cU key a b r)\/∃x y p mg ac bc,c=(none,x,y,p,mg,ac,bc)/\MV key a b p x y/\1<=x/\2<=y/\n<=p.size)
 | .yield c=>Sm st st'/\∃x y p mg ac bc,c=(none,x,y,p,mg,ac,bc)/\MV key a b p x y/\1<=x/\2<=y/\n<=p.size
theorem HiQ.out {a b:Array wo}{st st':wK}{n:Nat}{r:Array wo}{c:Nat×Nat×Array wo×Nat×Nat×Nat}(sm:Sm st st')(f:cU key a b r):HiQ key a b st n (.done (some r,c)) st':=by
 obtain ⟨p,x,y,mg,ac,bc⟩:=c
 exact ⟨sm,.inl ⟨_,_,_,_,_,_,_,rfl,f⟩⟩
theorem pO {x:Nat}(c:¬ (x == 0)=true):1<=x:=Nat.pos_of_ne_zero λz=>c (beq_iff_eq.mpr z)
theorem rV {y:Nat}(h:1<=y)(c:¬ (y == 1)=true):2<=y:=CI h λz=>c (beq_iff_eq.mpr z.symm)
theorem mN {a b:Array wo}{st st':wK}(hb:b.toList.Pairwise (Le key))
  {o:Array wo} {x y mg ac bc n:Nat} {za:wo} (sm:Sm st st') (ea:a[x-1]? = some za) (m4:MV key a b (o.push za) (x-1) y) (hy:2<=y) (hn:n<=o.size):wpS (wI prog w) A E s (rS a b x y o mg ac bc) (HiQ key a b st n) st':=by
 unfold rS
 refine wd (aU ea ?_)
 by_cases d5:(x-1 == 0)=true
 ·rw[if_pos d5]
  exact wt (HiQ.out sm (m4.nQ hb (beq_iff_eq.mp d5)))
 rw[if_neg d5]
 have hx2:=pO d5
 have hn':n<=(o.push za).size:=by rw[zI];exact AD hn
 split
 ·exact wt ⟨sm,.inr ⟨_,_,_,_,_,_,rfl,m4,hx2,hy,hn'⟩⟩
 ·exact wt ⟨sm,_,_,_,_,_,_,rfl,m4,hx2,hy,hn'⟩
theorem mO (C:Cmp prog w A s O key U κ){a b:Array wo}{st st':wK}(hκ:kindOf st=κ)(ua:∀p∈a.toList,U p)(ub:∀p∈b.toList,U p)
  (ha:a.toList.Pairwise (Le key)) (hb:b.toList.Pairwise (Le key)) (h0:∀p q,b[0]? = some p->q∈a.toList->Le key p q)
  {o:Array wo} {x y mg ac bc n:Nat} {zb:wo} (sm:Sm st st') (eb:b[y-1]? = some zb) (mk:MV key a b o x y) (bl:∀t∈a.toList.take x,Le key t zb) (hx1:1<=x) (hy:2<=y) (hn:n<=o.size):wpS (wI prog w) A E s (rT a b x y o mg ac bc) (HiQ key a b st n) st':=by
 unfold rT
 refine wd (aU eb ?_)
 have m2:=mk.iM (CW hy) eb hb bl
 have y1:1<=y-1:=yJ hy
 have bx1:=mk.hx
 have by1:=mk.hy
 by_cases d3:(y-1 == 1)=true
 ·rw[if_pos d3]
  exact wt (HiQ.out sm (m2.first ha hb (beq_iff_eq.mp d3) h0))
 rw[if_neg d3]
 have hy1:=rV y1 d3
 obtain ⟨za,ea⟩:=aX (show x-1<a.size by omega)
 refine wd (aU ea ?_)
 refine wd (uu C (λi=>(b[i]?).getD za) (sm.k.trans hκ) (ua _ (bR ea)) (λi hi =>?_) (λi hi =>?_) (λi j hij hj =>?_) (A1 y1) λc2 hc2 g1 g2 =>?_)
 ·obtain ⟨z,e⟩:=aX (show i<b.size by omega)
  rw[zJ,e];rfl
 ·obtain ⟨z,e⟩:=aX (show i<b.size by omega)
  rw[e];exact ub _ (bR e)
 ·obtain ⟨z,e⟩:=aX (show i<b.size by omega)
  obtain ⟨z',e'⟩:=aX (show j<b.size by omega)
  rw[e,e'];exact aM hb (aJ e) (aJ e') hij
 dsimp only at g1 g2 ⊢
 have tb:∀j q,c2<=j->j<y-1->b.toList[j]? = some q->∀t∈a.toList.take x,Le key t q:=λj q hj hj2 e t ht=>by
  have z:=g2 j hj hj2
  rw[v8] at e
  rw[e] at z
  obtain ⟨n,hn,e2⟩:=aY ht
  exact wR (aM ha e2 (aJ ea) (yJ hn)) z
 have m3:=m2.pL hc2 hb tb
 have bl2:∀t∈b.toList.take c2,Le key t za:=λt ht=>by
  obtain ⟨n,hn,e2⟩:=aY ht
  rw[v8] at e2
  have z:=g1 n hn
  rw[e2] at z
  exact xR z
 have hn1:n<=(o.push zb).size:=by rw[zI];exact AD hn
 by_cases k2:y-1-c2>0
 ·rw[if_pos k2]
  by_cases d4:(c2 == 1)=true
  ·rw[if_pos d4]
   exact wt (HiQ.out sm (m3.first ha hb (beq_iff_eq.mp d4) h0))
  rw[if_neg d4]
  by_cases d6:(c2 == 0)=true
  ·rw[if_pos d6]
   exact wt (HiQ.out sm (m3.nP ha (beq_iff_eq.mp d6)))
  rw[if_neg d6]
  exact mN hb sm ea (m3.fY hx1 ea ha bl2) (rV (pO d6) d4) (wL hn1 (by rw[zR];exact zz _ _))
 ·rw[if_neg k2]
  have ec2:c2=y-1:=Ca hc2 (Cb (zA k2))
  rw[ec2] at bl2
  exact mN hb sm ea (m2.fY hx1 ea ha bl2) hy1 hn1
theorem mP (C:Cmp prog w A s O key U κ){a b:Array wo}{st st':wK}(hκ:kindOf st=κ)(ua:∀p∈a.toList,U p)(ub:∀p∈b.toList,U p)
  (ha:a.toList.Pairwise (Le key)) (hb:b.toList.Pairwise (Le key)) (h0:∀p q,b[0]? = some p->q∈a.toList->Le key p q)
  {p:Array wo} {x y ac bc n:Nat} (mg:Nat) (sm:Sm st st') (m:MV key a b p x y) (hx:1<=x) (hy:2<=y) (hn:n<=p.size):wpS (wI prog w) A E s (nV a b x y p ac bc mg) (HiQ key a b st n) st':=by
 unfold nV
 have bx:=m.hx
 have by':=m.hy
 obtain ⟨zb,eb⟩:=aX (show y-1<b.size by omega)
 refine wd (yP ?_)
 refine wd (aU eb ?_)
 refine wd (ur C (λi=>(a[i]?).getD zb) ((sm.mg _).k.trans hκ) (ub _ (bR eb)) (λi hi =>?_) (λi hi =>?_) (λi j hij hj =>?_) (A1 hx) λc hc h1 h2 =>?_)
 ·obtain ⟨z,e⟩:=aX (wq hi bx)
  rw[zJ,e];rfl
 ·obtain ⟨z,e⟩:=aX (wq hi bx)
  rw[e];exact ua _ (bR e)
 ·obtain ⟨z,e⟩:=aX (show i<a.size by omega)
  obtain ⟨z',e'⟩:=aX (show j<a.size by omega)
  rw[e,e'];exact aM ha (aJ e) (aJ e') hij
 dsimp only at h1 h2 ⊢
 have ta:∀j q,c<=j->j<x->a.toList[j]? = some q->∀t∈b.toList.take y,Le key t q:=λj q hj hj2 e t ht=>by
  have z:=h2 j hj hj2
  rw[v8] at e
  rw[e] at z
  obtain ⟨n,hn,e2⟩:=aY ht
  exact wR (aM hb e2 (aJ eb) (yJ hn)) (xR z)
 have mk:=m.pK hc ha ta
 have bl:∀t∈a.toList.take c,Le key t zb:=λt ht=>by
  obtain ⟨n,hn,e2⟩:=aY ht
  rw[v8] at e2
  have z:=h1 n hn
  rw[e2] at z
  exact z
 by_cases k0:x-c>0
 ·rw[if_pos k0]
  by_cases d1:(c == 0)=true
  ·rw[if_pos d1]
   exact wt (HiQ.out (sm.mg _) (mk.nQ hb (beq_iff_eq.mp d1)))
  rw[if_neg d1]
  exact mO C hκ ua ub ha hb h0 (sm.mg _) eb mk bl (pO d1) hy (wL hn (by rw[zR];exact zz _ _))
 ·rw[if_neg k0]
  have ec:c=x:=Ca hc (Cb (zA k0))
  rw[ec] at bl
  exact mO C hκ ua ub ha hb h0 (sm.mg _) eb m bl hx hy hn
theorem rW (C:Cmp prog w A s O key U κ){a b:Array wo}{st st':wK}(hκ:kindOf st=κ)(ua:∀p∈a.toList,U p)(ub:∀p∈b.toList,U p)
  (ha:a.toList.Pairwise (Le key)) (hb:b.toList.Pairwise (Le key)) (h0:∀p q,b[0]? = some p->q∈a.toList->Le key p q)
  {p:Array wo} {x y ac bc n mg:Nat} (sm:Sm st st') (m:MV key a b p x y) (hx:1<=x) (hy:2<=y) (hn:n<=p.size):wpS (wI prog w) A E s (if mg>1 then nV a b x y p ac bc (mg-1) else nV a b x y p ac bc mg) (HiQ key a b st n) st':=by
 split
 ·exact mP C hκ ua ub ha hb h0 (mg-1) sm m hx hy hn
 ·exact mP C hκ ua ub ha hb h0 mg sm m hx hy hn
abbrev HiD:=Option (Array wo)×Nat×Nat×Array wo×Nat×Nat
abbrev HiE:=Option (Array wo)×Nat×Nat×Array wo×Nat
def pP (a b:Array wo)(mg:Nat)(c:HiD):StateT wK Sem (ForInStep HiD):=do
  let u ← elem' b (c.2.2.1-1)
  let v ← elem' a (c.2.1-1)
  let __x ← lt' u v
  match __x with
  | some aw =>
    if aw=true then do
      let z ← elem' a (c.2.1-1)
      if (c.2.1-1 == 0)=true then pure (.done (some (a.extract 0 (c.2.1-1)++b.extract 0 c.2.2.1++(c.2.2.2.1.push z).reverse),c.2.1-1,c.2.2.1,c.2.2.2.1.push z,c.2.2.2.2.1+1,0))
      else if c.2.2.2.2.1+1≥mg then pure (.done (none,c.2.1-1,c.2.2.1,c.2.2.2.1.push z,c.2.2.2.2.1+1,0))
      else pure (.yield (none,c.2.1-1,c.2.2.1,c.2.2.2.1.push z,c.2.2.2.2.1+1,0))
    else do
      let z ← elem' b (c.2.2.1-1)
      if (c.2.2.1-1 == 1)=true then pure (.done (some (b.extract 0 (c.2.2.1-1)++a.extract 0 c.2.1++(c.2.2.2.1.push z).reverse),c.2.1,c.2.2.1-1,c.2.2.2.1.push z,0,c.2.2.2.2.2+1))
      else if c.2.2.2.2.2+1≥mg then pure (.done (none,c.2.1,c.2.2.1-1,c.2.2.2.1.push z,0,c.2.2.2.2.2+1))
      else pure (.yield (none,c.2.1,c.2.2.1-1,c.2.2.2.1.push z,0,c.2.2.2.2.2+1))
  | _=>pure (.done (some (a.extract 0 c.2.1++b.extract 0 c.2.2.1++c.2.2.2.1.reverse),c.2.1,c.2.2.1,c.2.2.2.1,c.2.2.2.2.1,c.2.2.2.2.2))
def ux (a b:Array wo)(c:HiC):StateT wK Sem (ForInStep HiC) :=
 if c.2.2.2.2.1>1 then nV a b c.2.1 c.2.2.1 c.2.2.2.1 c.2.2.2.2.2.1 c.2.2.2.2.2.2 (c.2.2.2.2.1-1) else nV a b c.2.1 c.2.2.1 c.2.2.2.1 c.2.2.2.2.2.1 c.2.2.2.2.2.2 c.2.2.2.2.1
def lE (a b:Array wo)(c:HiE):StateT wK Sem (ForInStep HiE):=do
  let d ← forIn [0:a.size+b.size] ((none,c.2.1,c.2.2.1,c.2.2.2.1,0,0):HiD) λ_ d=>pP a b c.2.2.2.2 d
  match d.1 with
  | some r=>pure (.done (some r,d.2.1,d.2.2.1,d.2.2.2.1,c.2.2.2.2))
  | none=>do
    rule "list.sort.gallop"
    let e ← forIn [0:a.size+b.size] ((none,d.2.1,d.2.2.1,d.2.2.2.1,c.2.2.2.2+1,d.2.2.2.2.1,d.2.2.2.2.2):HiC) λ_ e=>ux a b e
    match e.1 with
    | some r=>pure (.done (some r,e.2.1,e.2.2.1,e.2.2.2.1,e.2.2.2.2.1))
    | none=>do
      modify (λs=>SortSt.mk' (kindOf s) (wx s) (wH s) (e.2.2.2.2.1+1) (failedOf s))
      pure (.yield (none,e.2.1,e.2.2.1,e.2.2.2.1,e.2.2.2.2.1+1))
theorem rX (a b:Array wo):mHi a b=(do
    rule "list.sort.merge-hi"
    let z ← elem' a (a.size-1)
    if (a.size-1 == 0)=true then pure (a.extract 0 (a.size-1)++b.extract 0 b.size++(#[z]:Array wo).reverse)
    else if (b.size == 1)=true then pure (b.extract 0 b.size++a.extract 0 (a.size-1)++(#[z]:Array wo).reverse)
    else do
      let g ← get
      let c ← forIn [0:a.size+b.size] ((none,a.size-1,b.size, #[z],gallopOf g):HiE) λ_ c=>lE a b c
      match c.1 with
      | some r=>pure r
      | none=>unsupported "internal:list.sort.merge-bound"):=by
  kernel_rfl
def HdI (key:wo->O.α)(a b:Array wo)(st:wK)(n:Nat)(c:HiD)(st':wK):Prop:=Sm st st'/\∃x y o' ac bc,c=(none,x,y,o',ac,bc)/\MV key a b o' x y/\1<=x/\2<=y/\n<=o'.size
def HdQ (key:wo->O.α)(a b:Array wo)(st:wK)(n:Nat)(c:HiD)(st':wK):Prop:=Sm st st'/\((∃r x y o ac bc,c=(some r,x,y,o,ac,bc)/\cU key a b r)\/∃x y o' ac bc,c=(none,x,y,o',ac,bc)/\MV key a b o' x y/\1<=x/\2<=y/\n<=o'.size)
theorem pQ (C:Cmp prog w A s O key U κ){a b:Array wo}{st st':wK}(hκ:kindOf st=κ)(ua:∀p∈a.toList,U p)(ub:∀p∈b.toList,U p)
  (ha:a.toList.Pairwise (Le key)) (hb:b.toList.Pairwise (Le key)) (h0:∀p q,b[0]? = some p->q∈a.toList->Le key p q)
  {mg n m':Nat} {c:HiD} (I:HdI key a b st n c st') (hm:m'<=n+1) {Q:ForInStep HiD->wK->Prop} (h:∀r st',(match r with | .done c'=>HdQ key a b st (n+1) c' st' | .yield c'=>HdI key a b st m' c' st')->Q r st'):wpS (wI prog w) A E s (pP a b mg c) Q st':=by
 obtain ⟨sm2,x,y,o',ac,bc,rfl,m,hx,hy,hz⟩:=I
 unfold pP
 have bx:=m.hx
 have by':=m.hy
 obtain ⟨za,ea⟩:=aX (show x-1<a.size by omega)
 obtain ⟨zb,eb⟩:=aX (show y-1<b.size by omega)
 refine wd (aU eb (wd (aU ea (wd (C.lt _ st' zb za _ (sm2.k.trans hκ) (ub _ (bR eb)) (ua _ (bR ea)) ?_)))))
 dsimp only
 have sz:∀z,n+1<=(o'.push z).size:=λz=>by rw[zI];exact BU hz
 cases hlt:O.blt (key zb) (key za) with
 | true =>
  rw[if_pos rfl]
  refine wd (aU ea ?_)
  have m1:=m.fY hx ea ha λt ht=>by
   obtain ⟨n,hn,e⟩:=aY ht
   exact wR (aM hb e (aJ eb) (yJ hn)) (xR hlt)
  by_cases c3:(x-1 == 0)=true
  ·rw[if_pos c3]
   exact wt (h _ _ ⟨sm2,.inl ⟨_,_,_,_,_,_,rfl,m1.nQ hb (beq_iff_eq.mp c3)⟩⟩)
  ·rw[if_neg c3]
   have c3':=pO c3
   split
   ·exact wt (h _ _ ⟨sm2,.inr ⟨_,_,_,_,_,rfl,m1,c3',hy,sz _⟩⟩)
   ·exact wt (h _ _ ⟨sm2,_,_,_,_,_,rfl,m1,c3',hy,wL hm (sz _)⟩)
 | false =>
  rw[if_neg wa]
  refine wd (aU eb ?_)
  have m1:=m.iM (CW hy) eb hb λt ht=>by
   obtain ⟨n,hn,e⟩:=aY ht
   exact wR (aM ha e (aJ ea) (yJ hn)) (show O.kle (key za) (key zb) from hlt)
  by_cases c3:(y-1 == 1)=true
  ·rw[if_pos c3]
   exact wt (h _ _ ⟨sm2,.inl ⟨_,_,_,_,_,_,rfl,m1.first ha hb (beq_iff_eq.mp c3) h0⟩⟩)
  ·rw[if_neg c3]
   have c3':=rV (yJ hy) c3
   split
   ·exact wt (h _ _ ⟨sm2,.inr ⟨_,_,_,_,_,rfl,m1,hx,c3',sz _⟩⟩)
   ·exact wt (h _ _ ⟨sm2,_,_,_,_,_,rfl,m1,hx,c3',wL hm (sz _)⟩)
def HeI (key:wo->O.α)(a b:Array wo)(st:wK)(n:Nat)(c:HiE)(st':wK):Prop:=Sm st st'/\∃x y o mg,c=(none,x,y,o,mg)/\MV key a b o x y/\1<=x/\2<=y/\n+1<=o.size
def HeQ (key:wo->O.α)(a b:Array wo)(st:wK)(c:HiE)(st':wK):Prop:=Sm st st'/\((∃r x y o mg,c=(some r,x,y,o,mg)/\cU key a b r)\/∃x y o mg,c=(none,x,y,o,mg)/\MV key a b o x y/\1<=x/\2<=y/\a.size+b.size+1<=o.size)
theorem nW (C:Cmp prog w A s O key U κ){a b:Array wo}{st st':wK}(hκ:kindOf st=κ)(ua:∀p∈a.toList,U p)(ub:∀p∈b.toList,U p)
  (ha:a.toList.Pairwise (Le key)) (hb:b.toList.Pairwise (Le key)) (h0:∀p q,b[0]? = some p->q∈a.toList->Le key p q) (na:0<a.size)
  {n:Nat} {c:HiE} (I:HeI key a b st n c st'):wpS (wI prog w) A E s (lE a b c) (λr st'=>match r with | .done c'=>HeQ key a b st c' st' | .yield c'=>HeI key a b st (n+1) c' st') st':=by
 obtain ⟨sm1,x,y,o,mg,rfl,m,hx,hy,hz⟩:=I
 unfold lE
 have q1:1<=a.size+b.size:=wL na (zz _ _)
 refine wd (yz (xH (I:=λj c st'=>HdI key a b st (o.size+min j 1) c st') (Q:=HdQ key a b st (o.size+1)) (λj c st2 _ hj J=>pQ (n:=o.size+min j 1) (m':=o.size+min (j+1) 1) C hκ ua ub ha hb h0 J (by omega) λr st' k =>?_) (λc st' J =>?_) ⟨sm1,x,y,o,0,0,rfl,m,hx,hy,vS _⟩) ?_)
 ·cases r with
  | done c'=>exact k.imp id λz=>z.imp id λ⟨x,y,o',ac,bc,e,m,hx,hy,hz⟩=>⟨x,y,o',ac,bc,e,m,hx,hy,by omega⟩
  | yield c'=>exact k
 ·obtain ⟨sm,x,y,o',ac,bc,e,m,hx,hy,hz⟩:=J
  exact ⟨sm,.inr ⟨x,y,o',ac,bc,e,m,hx,hy,by omega⟩⟩
 rintro c st2 ⟨sm2,⟨r,x,y,o',ac,bc,rfl,fr⟩ | ⟨x,y,o',ac,bc,rfl,m,hx,hy,hz2⟩⟩
 ·exact wt ⟨sm2,.inl ⟨_,_,_,_,_,rfl,fr⟩⟩
 dsimp only
 refine wd (Cp (zd ⟨rfl,?_⟩))
 refine wd (yz (xH (I:=λ_ c st'=>HiQ key a b st o'.size (.yield c) st') (Q:=λc st'=>HiQ key a b st o'.size (.done c) st') (λj c st3 _ hj J =>?_) (λc st' J=>⟨J.1,.inr J.2⟩) ⟨sm2,x,y,o',_,ac,bc,rfl,m,hx,hy,vS _⟩) ?_)
 ·obtain ⟨sm3,x,y,p,mg,ac,bc,rfl,m,hx,hy,hz3⟩:=J
  refine yz (rW C hκ ua ub ha hb h0 sm3 m hx hy hz3) ?_
  intro r st' h
  cases r <;> exact h
 rintro c st3 ⟨sm3,⟨r,x,y,p,mg,ac,bc,rfl,fr⟩ | ⟨x,y,p,mg,ac,bc,rfl,m,hx,hy,hz3⟩⟩
 ·exact wt ⟨sm3,.inl ⟨_,_,_,_,_,rfl,fr⟩⟩
 ·dsimp only
  exact wd (yP (wt ⟨sm3.mg _,x,y,p,_,rfl,m,hx,hy,by omega⟩))
theorem uy (C:Cmp prog w A s O key U κ){a b:Array wo}{st:wK}{Q:Array wo->wK->Prop}(hκ:kindOf st=κ)(ua:∀p∈a.toList,U p)(ub:∀p∈b.toList,U p)
  (ha:a.toList.Pairwise (Le key)) (hb:b.toList.Pairwise (Le key)) (na:0<a.size) (nb:0<b.size) (h0:∀p q,b[0]? = some p->q∈a.toList->Le key p q) (hl:∀p q,p∈b.toList->a[a.size-1]? = some q->Le key p q)
  (h:∀r st',Sm st st'->cU key a b r->Q r st'):wpS (wI prog w) A E s (mHi a b) Q st:=by
 rw[rX]
 refine wd (Cp (zd ⟨rfl,?_⟩))
 obtain ⟨a0,ea0⟩:=aX (A1 na)
 have m0:MV key a b #[] a.size b.size:=by
  refine ⟨vS _,vS _,?_,List.Pairwise.nil,λp _ q hq=>by cases hq⟩
  rw[xv (by rw[vX];exact vS _),xv (by rw[vX];exact vS _)]
  show (a.toList++b.toList++[]).Perm _
  rw[xN]
 have m1:MV key a b #[a0] (a.size-1) b.size:=m0.fY na ea0 ha λt ht=>hl t a0 (zY ht) ea0
 refine wd (aU ea0 ?_)
 by_cases c1:(a.size-1 == 0)=true
 ·rw[if_pos c1]
  exact wt (h _ st (Sm.refl st) (m1.nQ hb (beq_iff_eq.mp c1)))
 rw[if_neg c1]
 by_cases c2:(b.size == 1)=true
 ·rw[if_pos c2]
  exact wt (h _ st (Sm.refl st) (m1.first ha hb (beq_iff_eq.mp c2) h0))
 rw[if_neg c2]
 refine wd (BR ?_)
 refine wd (yz (xH (I:=λi c st'=>HeI key a b st i c st') (Q:=HeQ key a b st) (λi c st1 _ _ J=>yz (nW C hκ ua ub ha hb h0 na J) λr st' h=>by cases r <;> exact h) (λc st' J =>?_) ⟨Sm.refl st,_,_,_,_,rfl,m1,pO c1,rV nb c2,vS _⟩) ?_)
 ·obtain ⟨sm,x,y,o,mg,e,m,hx,hy,hz⟩:=J
  exact ⟨sm,.inr ⟨x,y,o,mg,e,m,hx,hy,by omega⟩⟩
 rintro c st' ⟨sm,⟨r,x,y,o,mg,rfl,fr⟩ | ⟨x,y,o,mg,rfl,m,hx,hy,hz⟩⟩
 ·exact wt (h r st' sm fr)
 ·have:=m.size
  omega
end
open PySem PyProof.Rows
theorem uz (i:Nat):mAt i=(do
    let s ← get
    let (some (sa,na,pw),some (sb,nb,_)):=((wH s)[i]?,(wH s)[i+1]?) | unsupported "internal:list.sort.pending"
    set (SortSt.mk' (kindOf s) (wx s) (((wH s).setIfInBounds i (sa,na+nb,pw)).eraseIdxIfInBounds (i+1)) (gallopOf s) (failedOf s))
    let some k ← gal false (← elem' (wx s) sb) (wx s) sa na 0 | return false
    let (sa,na):=(sa+k,na-k)
    if na == 0 then return true
    let some nb ← gal true (← elem' (wx s) (sa+na-1)) (wx s) sb nb (nb-1) | return false
    if nb == 0 then return true
    let x:=(wx s).extract sa sb
    let y:=(wx s).extract sb (sb+nb)
    let mm ← if na<=nb then mLo x y else mHi x y
    modify λs=>setArr s (mm.toList.zipIdx.foldl (λa (p,j)=>a.setIfInBounds (sa+j) p) (wx s))
    return (failedOf (← get)).isNone):=rfl
theorem fi {α:Type}(p r:List α)(k:Nat):(p++r).drop (p.length+k)=r.drop k:=by
 rw[<- DK,AI]
theorem lF {α:Type}(p r:List α)(k:Nat):(p++r)[p.length+k]? = r[k]? := by
 rw[xI (by omega),zw]
theorem ti {α:Type}(p a r:List α){k:Nat}(h:k<a.length):(p++(a++r))[p.length+k]? = a[k]? := by
 rw[lF,ye h]
theorem written (l:List wo):∀(c n:Nat) (a:Array wo),c+n+l.length<=a.size->((l.zipIdx n).foldl (λ(a:Array wo) (pj:wo×Nat)=>a.setIfInBounds (c+pj.2) pj.1) a).toList=a.toList.take (c+n)++l++a.toList.drop (c+n+l.length):=by
 induction l with
 | nil=>intro c n a _;simp
 | cons z l ih =>
  intro c n a h
  rw[wO] at h
  rw[List.zipIdx_cons,B7,ih c (n+1) _ (by rw[BB];omega)]
  have e:(a.setIfInBounds (c+n) z).toList=a.toList.set (c+n) z:=Bg ..
  rw[e]
  have lt:c+n<a.toList.length:=by rw[vX];omega
  have t1:(a.toList.set (c+n) z).take (c+(n+1))=a.toList.take (c+n)++[z]:=by
   rw[show c+(n+1)=c+n+1 by omega,zS,List.take_set_of_le (vS _),Ax lt]
   rfl
  have t2:(a.toList.set (c+n) z).drop (c+(n+1)+l.length)=a.toList.drop (c+n+(l.length+1)):=by
   rw[List.drop_set_of_lt (by omega),show c+(n+1)+l.length=c+n+(l.length+1) by omega]
  rw[t1,t2,wO]
  simp
section
variable  {prog:wu}{w:w4}{A:w6}{E:vP->vR->Prop}{s:vR}{O:A4}{key:wo->O.α}{U:wo->Prop}{κ:SortKind}
theorem uA (C:Cmp prog w A s O key U κ){i pw pw2:Nat}{st:wK}{Q:Bool->wK->Prop}{P X Y S:List wo}(hκ:kindOf st=κ)(hf:failedOf st=none)
    (ha:(wx st).toList=P++(X++(Y++S))) (hu:∀p∈(wx st).toList,U p) (h1:(wH st)[i]? = some (P.length,X.length,pw)) (h2:(wH st)[i+1]? = some (P.length+X.length,Y.length,pw2))
    (nx:0<X.length) (ny:0<Y.length) (sx:X.Pairwise (Le key)) (sy:Y.Pairwise (Le key))
    (h:∀st' M,M.Perm (X++Y)->M.Pairwise (Le key)->(wx st').toList=P++(M++S)->wH st'=((wH st).setIfInBounds i (P.length,X.length+Y.length,pw)).eraseIdxIfInBounds (i+1)->kindOf st'=κ -> failedOf st'=none->Q true st') :
    wpS (wI prog w) A E s (mAt i) Q st:=by
  rw[uz]
  refine wd (BR ?_)
  rw[h1,h2]
  dsimp only
  refine wd (show wpS (wI prog w) A E s (modify λ_=>SortSt.mk' (kindOf st) (wx st) (((wH st).setIfInBounds i (P.length,X.length+Y.length,pw)).eraseIdxIfInBounds (i+1)) (gallopOf st) (failedOf st)) _ st from yP ?_)
  generalize hst1:SortSt.mk' (kindOf st) (wx st) (((wH st).setIfInBounds i (P.length,X.length+Y.length,pw)).eraseIdxIfInBounds (i+1)) (gallopOf st) (failedOf st)=st1
  have k1:kindOf st1=κ:=by rw[<- hst1];exact hκ
  have a1:wx st1=wx st:=by rw[<- hst1]
  have p1:wH st1=((wH st).setIfInBounds i (P.length,X.length+Y.length,pw)).eraseIdxIfInBounds (i+1):=by rw[<- hst1]
  have f1:failedOf st1=none:=by rw[<- hst1];exact hf
  have sz:(wx st).size=P.length+X.length+Y.length+S.length:=by
    rw[<- vX,ha];simp only[vQ];omega
  have atX:∀j,j<X.length->(wx st)[P.length+j]? = X[j]? := λj hj=>by
    rw[<- v8,ha,ti _ _ _ hj]
  have atY:∀j,j<Y.length->(wx st)[P.length+X.length+j]? = Y[j]? := λj hj=>by
    rw[<- v8,ha, <- wF,show P.length+X.length+j=(P++X).length+j by rw[vQ],ti _ _ _ hj]
  have uX:∀p∈X,U p:=λp hp=>hu p (by rw[ha];simp[hp])
  have uY:∀p∈Y,U p:=λp hp=>hu p (by rw[ha];simp[hp])
  have xget:∀j,j<X.length->∃z,X[j]? = some z:=λj hj=>⟨X[j],by simp[hj]⟩
  have yget:∀j,j<Y.length->∃z,Y[j]? = some z:=λj hj=>⟨Y[j],by simp[hj]⟩
  obtain ⟨y0,ey0⟩:=yget 0 ny
  have plain:(∀p∈X,∀q∈Y,Le key p q)->Q true st1:=λhle=>h st1 (X++Y) (Bs _) (xT.mpr ⟨sx,sy,hle⟩) (by rw[a1,ha,wF]) p1 k1 f1
  refine wd (aU (z:=y0) (by rw[show P.length+X.length=P.length+X.length+0 by omega,atY 0 ny];exact ey0) ?_)
  refine wd (ur C (λj=>(X[j]?).getD y0) k1 (uY _ (we ey0)) (λj hj =>?_) (λj hj =>?_) (λi j hij hj =>?_) nx λk hk g1 g2 =>?_)
  · obtain ⟨z,e⟩:=xget j hj
    rw[atX j hj,e];rfl
  · obtain ⟨z,e⟩:=xget j hj
    rw[e];exact uX _ (we e)
  · obtain ⟨z,e⟩:=xget i (by omega)
    obtain ⟨z',e'⟩:=xget j hj
    rw[e,e'];exact aM sx e e' hij
  dsimp only at g1 g2 ⊢
  have y0le:∀q∈Y,Le key y0 q:=λq hq=>by
    obtain ⟨n,e⟩:=xt.mp hq
    exact aM sy ey0 e (wM _)
  by_cases c1:(X.length-k == 0)=true
  · rw[if_pos c1]
    refine wt (plain λp hp q hq =>?_)
    obtain ⟨n,e⟩:=xt.mp hp
    have hn:n<X.length:=(v7.mp e).1
    have z:=g1 n (by have:=beq_iff_eq.mp c1;omega)
    rw[e] at z
    exact wR z (y0le q hq)
  rw[if_neg c1]
  have kx:k<X.length:=by have:X.length-k≠0:=λz=>c1 (beq_iff_eq.mpr z);omega
  obtain ⟨xl,exl⟩:=xget (X.length-1) (by omega)
  have xlle:∀p∈X,Le key p xl:=λp hp=>by
    obtain ⟨n,e⟩:=xt.mp hp
    have hn:n<X.length:=(v7.mp e).1
    exact aM sx e exl (by omega)
  refine wd (aU (z:=xl) (by rw[show P.length+k+(X.length-k)-1=P.length+(X.length-1) by omega,atX _ (by omega)];exact exl) ?_)
  refine wd (uu C (λj=>(Y[j]?).getD xl) k1 (uX _ (we exl)) (λj hj =>?_) (λj hj =>?_) (λi j hij hj =>?_) (by omega) λm hm e1 e2 =>?_)
  · obtain ⟨z,e⟩:=yget j hj
    rw[atY j hj,e];rfl
  · obtain ⟨z,e⟩:=yget j hj
    rw[e];exact uY _ (we e)
  · obtain ⟨z,e⟩:=yget i (by omega)
    obtain ⟨z',e'⟩:=yget j hj
    rw[e,e'];exact aM sy e e' hij
  dsimp only at e1 e2 ⊢
  by_cases c2:(m == 0)=true
  · rw[if_pos c2]
    refine wt (plain λp hp q hq =>?_)
    obtain ⟨n,e⟩:=xt.mp hq
    have hn:n<Y.length:=(v7.mp e).1
    have z:=e2 n (by have:=beq_iff_eq.mp c2;omega) hn
    rw[e] at z
    exact wR (xlle p hp) z
  rw[if_neg c2]
  have m0:0<m:=by have:m≠0:=λz=>c2 (beq_iff_eq.mpr z);omega
  have ex:((wx st).extract (P.length+k) (P.length+X.length)).toList=X.drop k:=by
    rw[yI,yf,ha,fi,AR (by omega)]
    rw[List.take_left' (by rw[wX];omega)]
  have ey:((wx st).extract (P.length+X.length) (P.length+X.length+m)).toList=Y.take m:=by
    have e:=fi (P++X) (Y++S) 0
    rw[vQ,Nat.add_zero,Bt,wF] at e
    rw[yI,yf,ha,e,zw,AS hm]
  have sX:((wx st).extract (P.length+k) (P.length+X.length)).size=X.length-k:=by rw[<- vX,ex,wX]
  have sY:((wx st).extract (P.length+X.length) (P.length+X.length+m)).size=m:=by rw[<- vX,ey,wN];omega
  generalize (wx st).extract (P.length+k) (P.length+X.length)=xa at ex sX ⊢
  generalize (wx st).extract (P.length+X.length) (P.length+X.length+m)=ya at ey sY ⊢
  have xa0:∀q∈xa.toList,Le key y0 q:=λq hq=>by
    rw[ex] at hq
    obtain ⟨n,hn,e⟩:=aT hq
    have hn2:n<X.length:=(v7.mp e).1
    have z:=g2 n hn hn2
    rw[e] at z
    exact xR z
  have yaL:∀p∈ya.toList,Le key p xl:=λp hp=>by
    rw[ey] at hp
    obtain ⟨n,hn,e⟩:=aY hp
    have z:=e1 n hn
    rw[e] at z
    exact xR z
  have first:∀p q,ya[0]? = some p->q∈xa.toList->Le key p q:=λp q hp hq=>by
    rw[<- v8,ey,yh,if_pos m0,ey0] at hp
    cases hp
    exact xa0 q hq
  have lst:∀p q,p∈ya.toList->xa[xa.size-1]? = some q->Le key p q:=λp q hp hq=>by
    rw[<- v8,ex,zD,sX,show k+(X.length-k-1)=X.length-1 by omega,exl] at hq
    cases hq
    exact yaL p hp
  have sxa:xa.toList.Pairwise (Le key):=by rw[ex];exact sx.sublist (xE _ _)
  have sya:ya.toList.Pairwise (Le key):=by rw[ey];exact sy.sublist (xQ _ _)
  have uxa:∀p∈xa.toList,U p:=λp hp=>by rw[ex] at hp;exact uX p (zX hp)
  have uya:∀p∈ya.toList,U p:=λp hp=>by rw[ey] at hp;exact uY p (zY hp)
  have post:∀r st',Sm st1 st'->cU key xa ya r->wpS (wI prog w) A E s (do modify λs=>setArr s (r.toList.zipIdx.foldl (λa (p,j)=>a.setIfInBounds (P.length+k+j) p) (wx s));return (failedOf (← get)).isNone) Q st':=by
    rintro r st' sm ⟨fp,fs⟩
    refine wd (yP (wd (BR (wt ?_))))
    have rl:r.toList.length=X.length-k+m:=by rw[fp.length_eq,vQ,vX,vX,sX,sY]
    have wr:=written r.toList (P.length+k) 0 (wx st') (by rw[sm.a,a1,sz,rl];omega)
    have e:(failedOf (setArr st' (r.toList.zipIdx.foldl (λa (p,j)=>a.setIfInBounds (P.length+k+j) p) (wx st')))).isNone=true:=by
      show (failedOf st').isNone=true
      rw[sm.f,f1];rfl
    rw[e]
    have t1:(P++(X++(Y++S))).take (P.length+k+0)=P++X.take k:=by
      rw[Nat.add_zero,List.take_append,xv (by omega),zw,AS (by omega)]
    have t2:(P++(X++(Y++S))).drop (P.length+k+0+r.toList.length)=Y.drop m++S:=by
      rw[rl,show P.length+k+0+(X.length-k+m)=P.length+(X.length+m) by omega,fi,fi,AR hm]
    have perm:(X.take k++(r.toList++Y.drop m)).Perm (X++Y):=by
      rw[ex,ey] at fp
      have q:(X.take k++(r.toList++Y.drop m)).Perm (X.take k++((X.drop k++Y.take m)++Y.drop m)):=yA _ (y7 _ fp)
      have e3:X.take k++((X.drop k++Y.take m)++Y.drop m)=X++Y:=by
        rw[wF (X.drop k),xX, <- wF,xX]
      rw[e3] at q
      exact q
    have inr:∀z∈r.toList,z∈X.drop k\/z∈Y.take m:=λz hz=>by
      have q:=fp.mem_iff.mp hz
      rw[ex,ey] at q
      exact vY.mp q
    refine h _ (X.take k++(r.toList++Y.drop m)) perm ?_ ?_ ?_ (sm.k.trans k1) (sm.f.trans f1)
    · refine xT.mpr ⟨sx.sublist (xQ _ _),xT.mpr ⟨fs,sy.sublist (xE _ _),λp hp q hq =>?_⟩,λp hp q hq =>?_⟩
      · obtain ⟨n,hn,en⟩:=aT hq
        have hn2:n<Y.length:=(v7.mp en).1
        rcases inr p hp with z | z
        · have g:=e2 n hn hn2
          rw[en] at g
          exact wR (xlle p (zX z)) g
        · obtain ⟨j,hj,ej⟩:=aY z
          exact aM sy ej en (by omega)
      · obtain ⟨n,hn,en⟩:=aY hp
        have g:=g1 n hn
        rw[en] at g
        rcases vY.mp hq with z | z
        · rcases inr q z with z | z
          · obtain ⟨j,hj,ej⟩:=aT z
            exact aM sx en ej (by omega)
          · exact wR g (y0le q (zY z))
        · exact wR g (y0le q (zX z))
    · show (r.toList.zipIdx.foldl (λa (p,j)=>a.setIfInBounds (P.length+k+j) p) (wx st')).toList=_
      rw[wr,sm.a,a1,ha,t1,t2]
      simp only[wF]
    · show wH st'=_
      rw[sm.p,p1]
  by_cases c3:X.length-k<=m
  · rw[if_pos c3]
    exact wd (uw C k1 uxa uya sxa sya (by omega) (by omega) (λp q hp hq=>first p q hp (bR hq)) lst λr st' sm fr=>post r st' sm fr)
  · rw[if_neg c3]
    exact wd (uy C k1 uxa uya sxa sya (by omega) (by omega) first lst λr st' sm fr=>post r st' sm fr)
end
open PySem PyProof.Rows
theorem rY (lo m:Nat):uo lo m=(do
    let mut n:=1
    for _ in [1:m] do
      let some sm ← ltAt' (lo+n) (lo+n-1)
        | return none
      if sm then break
      n:=n+1
    if n == m then return some n
    if n>1 then
      let some ro ← ltAt' lo (lo+n-1)
        | return none
      if ro then return some n
      reverseSlice' lo (lo+n)
    rule "list.sort.descending-run"
    n:=n+1
    let mut q:=0
    for _ in [n:m] do
      let some sm ← ltAt' (lo+n) (lo+n-1)
        | return none
      if sm then
        if q>0 then reverseSlice' (lo+n-(q+1)) (lo+n)
        q:=0
      else
        let some lg ← ltAt' (lo+n-1) (lo+n)
          | return none
        if lg then break
        q:=q+1
      n:=n+1
    if q>0 then reverseSlice' (lo+n-(q+1)) (lo+n)
    reverseSlice' lo (lo+n)
    for _ in [n:m] do
      let some sm ← ltAt' (lo+n) (lo+n-1)
        | return none
      if sm then break
      n:=n+1
    return some n):=rfl
theorem pS (lo n ok:Nat):pI lo n ok=(do
    for k in [max ok 1:n] do
      let mut l:=0;let mut r:=k
      for _ in [0:k] do
        if l≥r then break
        let m:=(l+r)/2
        let some le ← ltAt' (lo+k) (lo+m)
          | return false
        if le then r:=m else l:=m+1
      moveDown' (lo+k) (lo+l)
    return true):=rfl
section
variable  {O:A4}(key:wo->O.α)
def kk (xs:Array wo)(i:Nat):O.α:=key ((xs[i]?).getD (yv,yv))
def Up (xs:Array wo)(lo n:Nat):Prop:=∀i j,lo<=i->i<=j->j<lo+n->O.kle (kk key xs i) (kk key xs j)
def Down (xs:Array wo)(lo n:Nat):Prop:=∀i j,lo<=i->i<=j->j<lo+n->O.kle (kk key xs j) (kk key xs i)
variable  {key}
theorem fj {xs ys:Array wo}{i j:Nat}(h:xs[i]? = ys[j]?):kk key xs i=kk key ys j:=by unfold kk;rw[h]
theorem iO {xs:Array wo}{i j:Nat}(hj:j<=xs.size)(k:Nat):kk key (mirror xs i j ((j-i)/2)) k=if i<=k/\k<j then kk key xs (i+j-1-k) else kk key xs k:=by
 have e:=CA (i:=i) hj k
 by_cases h:i<=k/\k<j
 ·rw[if_pos h] at e ⊢;exact fj e
 ·rw[if_neg h] at e ⊢;exact fj e
theorem du {xs:Array wo}{i j:Nat}(hj:j<=xs.size)(he:∀k,i<=k->k<j->kk key xs k=kk key xs (j-1))(k:Nat):kk key (mirror xs i j ((j-i)/2)) k=kk key xs k:=by
 rw[iO hj]
 split
 ·rw[he _ (by omega) (by omega),he k (by omega) (by omega)]
 ·rfl
end
structure SA (lo:Nat)(st st':wK):Prop where
 perm:(wx st').Perm (wx st)
 pre:∀k,k<lo->(wx st')[k]? = (wx st)[k]?
 k:kindOf st'=kindOf st
 p:wH st'=wH st
 f:failedOf st'=failedOf st
theorem SA.refl (lo:Nat)(st:wK):SA lo st st:=⟨Array.Perm.refl _,λ_ _=>rfl,rfl,rfl,rfl⟩
theorem SA.size {lo:Nat}{st st':wK}(h:SA lo st st'):(wx st').size=(wx st).size:=h.perm.size_eq
theorem SA.mirror {lo:Nat}{st st':wK}(h:SA lo st st'){i j:Nat}(hi:lo<=i)(hj:j<=(wx st').size):SA lo st (setArr st' (mirror (wx st') i j ((j-i)/2))) :=
 ⟨(mirror_perm _ _ _ _).trans h.perm,λk hk=>by
  show (PyProof.Rows.mirror (wx st') i j ((j-i)/2))[k]? = _
  rw[CA hj,if_neg (by omega)]
  exact h.pre k hk,h.k,h.p,h.f⟩
theorem SA.mem {lo:Nat}{st st':wK}(h:SA lo st st'){p:wo}(hp:p∈(wx st').toList):p∈(wx st).toList:=(Bh.mp h.perm).mem_iff.mp hp
section
variable  {prog:wu}{w:w4}{A:w6}{E:vP->vR->Prop}{s:vR}{O:A4}{key:wo->O.α}{U:wo->Prop}{κ:SortKind}
theorem d0 (C:Cmp prog w A s O key U κ){st:wK}{i j:Nat}{Q:Option Bool->wK->Prop}(hκ:kindOf st=κ)(hu:∀p∈(wx st).toList,U p)(hi:i<(wx st).size)(hj:j<(wx st).size)
  (h:Q (some (O.blt (kk key (wx st) i) (kk key (wx st) j))) st):wpS (wI prog w) A E s (ltAt' i j) Q st:=by
 rw[ltAt'_eq]
 refine wd (BR ?_)
 obtain ⟨x,ex⟩:=aX hi
 obtain ⟨y,ey⟩:=aX hj
 dsimp only
 refine wd (aU ex (wd (aU ey (C.lt _ st x y _ hκ (hu _ (bR ex)) (hu _ (bR ey)) ?_))))
 unfold kk at h
 rw[ex,ey] at h
 exact h
theorem rZ (C:Cmp prog w A s O key U κ){st:wK}{lo m:Nat}{Q:Option Nat->wK->Prop}(hκ:kindOf st=κ)(hu:∀p∈(wx st).toList,U p)(hm:1<=m)(hz:lo+m=(wx st).size)
  (h:∀n st',1<=n->n<=m->SA lo st st'->Up key (wx st') lo n->Q (some n) st'):wpS (wI prog w) A E s (uo lo m) Q st:=by
 rw[rY]
 dsimp only
 refine wd (yz (xH (I:=λx c st'=>st=st'/\c=(none,x)/\Up key (wx st) lo x)
  (Q:=λc st'=>st=st'/\∃n,c=(none,n)/\1<=n/\n<=m/\Up key (wx st) lo n/\(n<m->O.klt (kk key (wx st) (lo+n)) (kk key (wx st) (lo+n-1)))) ?step ?fin ⟨rfl,rfl,λi j h1 h2 h3=>by rw[show i=j by omega];exact yg _⟩) ?post)
 case fin =>
  rintro c st' ⟨rfl,rfl,up⟩
  exact ⟨rfl,_,rfl,by omega,by omega,by rw[show max 1 m=m by omega] at up ⊢;exact up,by omega⟩
 case step =>
  rintro x c st' h1 h2 ⟨rfl,rfl,up⟩
  dsimp only
  refine wd (d0 C hκ hu (by omega) (by omega) ?_)
  dsimp only
  cases hb:O.blt (kk key (wx st) (lo+x)) (kk key (wx st) (lo+x-1)) with
  | true =>
   rw[if_pos rfl]
   exact wt ⟨rfl,x,rfl,h1,by omega,up,λ_=>hb⟩
  | false =>
   rw[if_neg (by simp)]
   refine wt ⟨rfl,rfl,λi j k1 k2 k3 =>?_⟩
   by_cases hj:j=lo+x
   ·by_cases hi:i=j
    ·rw[hi];exact yg _
    ·rw[hj]
     exact wR (up i (lo+x-1) k1 (by omega) (by omega)) hb
   ·exact up i j k1 k2 (by omega)
 case post =>
  rintro c st' ⟨rfl,n,rfl,n1,n2,up,br⟩
  dsimp only
  by_cases c1:(n == m)=true
  ·rw[if_pos c1]
   exact wt (h n st n1 n2 (SA.refl _ _) up)
  rw[if_neg c1]
  have nm:n<m:=by have:n≠m:=λz=>c1 (beq_iff_eq.mpr z);omega
  have br:=br nm
  by_cases c2:n>1
  case' pos =>
   rw[if_pos c2]
   refine wd (d0 C hκ hu (by omega) (by omega) ?_)
   dsimp only
   cases hro:O.blt (kk key (wx st) lo) (kk key (wx st) (lo+n-1))
   case' true =>
    rw[if_pos rfl]
    exact wt (h n st n1 n2 (SA.refl _ _) up)
   rw[if_neg (by simp)]
   have eqs:∀k,lo<=k->k<lo+n->kk key (wx st) k=kk key (wx st) (lo+n-1):=λk k1 k2 =>
    Cw (up k (lo+n-1) k1 (by omega) (by omega)) (wR (show O.kle (kk key (wx st) (lo+n-1)) (kk key (wx st) lo) from hro) (up lo k (vS _) k1 k2))
   rw[AY]
   refine wd (yP ?_)
   have sa:=(SA.refl lo st).mirror (i:=lo) (j:=lo+n) (vS _) (by omega)
   have ke:=du (key:=key) (xs:=wx st) (i:=lo) (j:=lo+n) (by omega) eqs
   have ka:∀k,kk key (wx (setArr st (mirror (wx st) lo (lo+n) ((lo+n-lo)/2)))) k=kk key (wx st) k:=ke
   generalize setArr st (mirror (wx st) lo (lo+n) ((lo+n-lo)/2))=st1 at sa ka ⊢
   clear ke
  case' neg =>
   rw[if_neg c2]
   have eqs:∀k,lo<=k->k<lo+n->kk key (wx st) k=kk key (wx st) (lo+n-1):=λk k1 k2=>by rw[show k=lo+n-1 by omega]
   obtain ⟨st1,e1⟩:∃st1,st1=st:=⟨_,rfl⟩
   have sa:SA lo st st1:=by rw[e1];exact SA.refl _ _
   have ka:∀k,kk key (wx st1) k=kk key (wx st) k:=λk=>by rw[e1]
   rw[<- e1]
   clear e1
  all_goals
   refine wd (Cp (zd ⟨rfl,?_⟩))
   have dn:Down key (wx st1) lo (n+1):=λi j k1 k2 k3=>by
    rw[ka,ka]
    by_cases hj:j=lo+n
    ·by_cases hi:i=j
     ·rw[hi];exact yg _
     ·rw[hj,eqs i k1 (by omega)]
      exact xR br
    ·rw[eqs i k1 (by omega),eqs j (by omega) (by omega)]
     exact yg _
   clear eqs up br ka
   refine wd (yz (xH (I:=λx c st'=>∃q,c=(none,x,q)/\x<=m/\SA lo st st'/\Down key (wx st') lo x/\q+1<=x/\∀k,lo+x-(q+1)<=k->k<lo+x->kk key (wx st') k=kk key (wx st') (lo+x-1))
    (Q:=λc st'=>∃x q,c=(none,x,q)/\1<=x/\x<=m/\SA lo st st'/\Down key (wx st') lo x/\q+1<=x/\∀k,lo+x-(q+1)<=k->k<lo+x->kk key (wx st') k=kk key (wx st') (lo+x-1)) ?step ?fin
    ⟨0,rfl,by omega,sa,dn,by omega,λk k1 k2=>by rw[show k=lo+(n+1)-1 by omega]⟩) ?post)
   case fin =>
    rintro c st' ⟨q,rfl,xm,sa,dn,hq,he⟩
    exact ⟨_,q,rfl,by omega,xm,sa,dn,hq,he⟩
   case step =>
    rintro x c st2 h1 h2 ⟨q,rfl,xm,sa2,dn2,hq,he⟩
    dsimp only
    have sz:=sa2.size
    have u2:∀p∈(wx st2).toList,U p:=λp hp=>hu p (sa2.mem hp)
    refine wd (d0 C (sa2.k.trans hκ) u2 (by omega) (by omega) ?_)
    dsimp only
    cases hb:O.blt (kk key (wx st2) (lo+x)) (kk key (wx st2) (lo+x-1)) with
    | true =>
     rw[if_pos rfl]
     have dn3:Down key (wx st2) lo (x+1):=λi j k1 k2 k3=>by
      by_cases hj:j=lo+x
      ·by_cases hi:i=j
       ·rw[hi];exact yg _
       ·rw[hj];exact wR (xR hb) (dn2 i (lo+x-1) k1 (by omega) (by omega))
      ·exact dn2 i j k1 k2 (by omega)
     by_cases q0:q>0
     ·rw[if_pos q0,AY]
      refine wd (yP (wt ?_))
      have ke:=du (key:=key) (xs:=wx st2) (i:=lo+x-(q+1)) (j:=lo+x) (by omega) he
      refine ⟨0,rfl,by omega,sa2.mirror (by omega) (by omega),λi j k1 k2 k3 =>?_,by omega,λk k1 k2=>by rw[show k=lo+(x+1)-1 by omega]⟩
      show O.kle (kk key (mirror (wx st2) (lo+x-(q+1)) (lo+x) ((lo+x-(lo+x-(q+1)))/2)) j) (kk key (mirror (wx st2) (lo+x-(q+1)) (lo+x) ((lo+x-(lo+x-(q+1)))/2)) i)
      rw[ke,ke]
      exact dn3 i j k1 k2 k3
     ·rw[if_neg q0]
      exact wt ⟨0,rfl,by omega,sa2,dn3,by omega,λk k1 k2=>by rw[show k=lo+(x+1)-1 by omega]⟩
    | false =>
     rw[if_neg (by simp)]
     refine wd (d0 C (sa2.k.trans hκ) u2 (by omega) (by omega) ?_)
     dsimp only
     cases hb2:O.blt (kk key (wx st2) (lo+x-1)) (kk key (wx st2) (lo+x)) with
     | true =>
      rw[if_pos rfl]
      exact wt ⟨x,q,rfl,by omega,xm,sa2,dn2,hq,he⟩
     | false =>
      rw[if_neg (by simp)]
      have eq:=Cw (show O.kle (kk key (wx st2) (lo+x)) (kk key (wx st2) (lo+x-1)) from hb2) hb
      refine wt ⟨q+1,rfl,by omega,sa2,λi j k1 k2 k3 =>?_,by omega,λk k1 k2 =>?_⟩
      ·by_cases hj:j=lo+x
       ·by_cases hi:i=j
        ·rw[hi];exact yg _
        ·rw[hj,eq];exact dn2 i (lo+x-1) k1 (by omega) (by omega)
       ·exact dn2 i j k1 k2 (by omega)
      ·rw[show lo+(x+1)-1=lo+x by omega,eq]
       by_cases hk:k=lo+x
       ·rw[hk,eq]
       ·exact he k (by omega) (by omega)
   case post =>
    rintro c st2 ⟨x,q,rfl,x1,xm,sa2,dn2,hq,he⟩
    dsimp only
    have sz:=sa2.size
    by_cases q0:q>0
    case' pos =>
     rw[if_pos q0,AY]
     refine wd (yP ?_)
     have ke:=du (key:=key) (xs:=wx st2) (i:=lo+x-(q+1)) (j:=lo+x) (by omega) he
     have sa3:=sa2.mirror (i:=lo+x-(q+1)) (j:=lo+x) (by omega) (by omega)
     have dn3:Down key (wx (setArr st2 (mirror (wx st2) (lo+x-(q+1)) (lo+x) ((lo+x-(lo+x-(q+1)))/2)))) lo x:=λi j k1 k2 k3=>by
      show O.kle (kk key (mirror (wx st2) (lo+x-(q+1)) (lo+x) ((lo+x-(lo+x-(q+1)))/2)) j) (kk key (mirror (wx st2) (lo+x-(q+1)) (lo+x) ((lo+x-(lo+x-(q+1)))/2)) i)
      rw[ke,ke]
      exact dn2 i j k1 k2 k3
     generalize setArr st2 (mirror (wx st2) (lo+x-(q+1)) (lo+x) ((lo+x-(lo+x-(q+1)))/2))=st3 at sa3 dn3 ⊢
     clear ke
    case' neg =>
     rw[if_neg q0]
     obtain ⟨st3,e3⟩:∃st3,st3=st2:=⟨_,rfl⟩
     have sa3:SA lo st st3:=by rw[e3];exact sa2
     have dn3:Down key (wx st3) lo x:=by rw[e3];exact dn2
     rw[<- e3]
     clear e3
    all_goals
     rw[AY]
     refine wd (yP ?_)
     have sz3:=sa3.size
     have sa4:=sa3.mirror (i:=lo) (j:=lo+x) (vS _) (by omega)
     have km:=iO (key:=key) (xs:=wx st3) (i:=lo) (j:=lo+x) (by omega)
     have up4:Up key (wx (setArr st3 (mirror (wx st3) lo (lo+x) ((lo+x-lo)/2)))) lo x:=λi j k1 k2 k3=>by
      show O.kle (kk key (mirror (wx st3) lo (lo+x) ((lo+x-lo)/2)) i) (kk key (mirror (wx st3) lo (lo+x) ((lo+x-lo)/2)) j)
      rw[km,km,if_pos ⟨by omega,by omega⟩,if_pos ⟨by omega,by omega⟩]
      exact dn3 _ _ (by omega) (by omega) (by omega)
     generalize setArr st3 (mirror (wx st3) lo (lo+x) ((lo+x-lo)/2))=st4 at sa4 up4 ⊢
     clear km
     have u4:∀p∈(wx st4).toList,U p:=λp hp=>hu p (sa4.mem hp)
     have sz4:=sa4.size
     refine wd (yz (xH (I:=λz c st'=>st4=st'/\c=(none,z)/\z<=m/\Up key (wx st4) lo z)
      (Q:=λc st'=>st4=st'/\∃z,c=(none,z)/\1<=z/\z<=m/\Up key (wx st4) lo z) ?step ?fin ⟨rfl,rfl,xm,up4⟩) ?post)
     case fin =>
      rintro c st' ⟨rfl,rfl,zm,up⟩
      exact ⟨rfl,_,rfl,by omega,zm,up⟩
     case post =>
      rintro c st' ⟨rfl,z,rfl,z1,zm,up⟩
      exact wt (h z st4 z1 zm sa4 up)
     case step =>
      rintro z c st' h1 h2 ⟨rfl,rfl,zm,up⟩
      dsimp only
      refine wd (d0 C (sa4.k.trans hκ) u4 (by omega) (by omega) ?_)
      dsimp only
      cases hb:O.blt (kk key (wx st4) (lo+z)) (kk key (wx st4) (lo+z-1)) with
      | true =>
       rw[if_pos rfl]
       exact wt ⟨rfl,z,rfl,by omega,zm,up⟩
      | false =>
       rw[if_neg (by simp)]
       refine wt ⟨rfl,rfl,by omega,λi j k1 k2 k3 =>?_⟩
       by_cases hj:j=lo+z
       ·by_cases hi:i=j
        ·rw[hi];exact yg _
        ·rw[hj];exact wR (up i (lo+z-1) k1 (by omega) (by omega)) hb
       ·exact up i j k1 k2 (by omega)
theorem iP {xs:Array wo}{src d:Nat}(hs:src<xs.size)(hd:d<=src)(k:Nat) :
  kk key (bubble xs src d) k=if k=src-d then kk key xs src else if src-d<k/\k<=src then kk key xs (k-1) else kk key xs k:=by
 have e:=getElem?_bubble hs d hd k
 by_cases h1:k=src-d
 ·rw[if_pos h1] at e ⊢;exact fj e
 ·rw[if_neg h1] at e ⊢
  by_cases h2:src-d<k/\k<=src
  ·rw[if_pos h2] at e ⊢;exact fj e
  ·rw[if_neg h2] at e ⊢;exact fj e
theorem SA.bubble {lo:Nat}{st st':wK}(h:SA lo st st'){src d:Nat}(hs:src<(wx st').size)(hd:lo+d<=src):SA lo st (setArr st' (bubble (wx st') src d)) :=
 ⟨(bubble_perm _ _ _).trans h.perm,λk hk=>by
  show (PyProof.Rows.bubble (wx st') src d)[k]? = _
  rw[getElem?_bubble hs d (by omega),if_neg (by omega),if_neg (by omega)]
  exact h.pre k hk,h.k,h.p,h.f⟩
theorem pW (C:Cmp prog w A s O key U κ){st:wK}{lo n ok:Nat}{Q:Bool->wK->Prop}(hκ:kindOf st=κ)(hu:∀p∈(wx st).toList,U p)(hn:lo+n<=(wx st).size)(hok:ok<=n)(up:Up key (wx st) lo ok)
  (h:∀st',SA lo st st'->Up key (wx st') lo n->Q true st'):wpS (wI prog w) A E s (pI lo n ok) Q st:=by
 rw[pS]
 dsimp only
 refine wd (yz (xH (I:=λx c st'=>c=(none,())/\SA lo st st'/\Up key (wx st') lo (min x n)) (Q:=λc st'=>c=(none,())/\SA lo st st'/\Up key (wx st') lo n) ?step ?fin ⟨rfl,SA.refl _ _,λi j k1 k2 k3 =>?_⟩) ?post)
 case post =>
  rintro c st' ⟨rfl,sa,up⟩
  exact wt (h st' sa up)
 case fin =>
  rintro c st' ⟨rfl,sa,up⟩
  refine ⟨rfl,sa,?_⟩
  rw[show min (max (max ok 1) n) n=n by omega] at up
  exact up
 case step =>
  rintro k c st1 h1 h2 ⟨rfl,sa1,up1⟩
  rw[show min k n=k by omega] at up1
  have sz:=sa1.size
  have u1:∀p∈(wx st1).toList,U p:=λp hp=>hu p (sa1.mem hp)
  refine wd (yz (xH (I:=λx c st'=>st1=st'/\∃l r,c=(none,l,r)/\l<=r/\r<=k/\r-l<=k-x/\(∀i,i<l->O.kle (kk key (wx st1) (lo+i)) (kk key (wx st1) (lo+k)))/\(∀i,r<=i->i<k->O.klt (kk key (wx st1) (lo+k)) (kk key (wx st1) (lo+i))))
   (Q:=λc st'=>st1=st'/\∃l r,c=(none,l,r)/\l<=k/\(∀i,i<l->O.kle (kk key (wx st1) (lo+i)) (kk key (wx st1) (lo+k)))/\(∀i,l<=i->i<k->O.klt (kk key (wx st1) (lo+k)) (kk key (wx st1) (lo+i)))) ?istep ?ifin ⟨rfl,0,k,rfl,by omega,by omega,by omega,λi hi=>by omega,λi a1 a2=>by omega⟩) ?ipost)
  case ifin =>
   rintro c st' ⟨rfl,l,r,rfl,b1,b2,b3,b4,b5⟩
   have e:l=r:=by omega
   subst e
   exact ⟨rfl,l,l,rfl,b2,b4,b5⟩
  case istep =>
   rintro x c st' _ hx ⟨rfl,l,r,rfl,b1,b2,b3,b4,b5⟩
   dsimp only
   by_cases hge:l≥r
   ·rw[if_pos hge]
    have e:l=r:=by omega
    subst e
    exact wt ⟨rfl,l,l,rfl,b2,b4,b5⟩
   ·rw[if_neg hge]
    refine wd (d0 C (sa1.k.trans hκ) u1 (by omega) (by omega) ?_)
    dsimp only
    cases hb:O.blt (kk key (wx st1) (lo+k)) (kk key (wx st1) (lo+(l+r)/2)) with
    | true =>
     rw[if_pos rfl]
     exact wt ⟨rfl,l,(l+r)/2,rfl,by omega,by omega,by omega,b4,λi a1 a2=>KeyOrd.klt_of_klt_of_kle hb (up1 _ _ (by omega) (by omega) (by omega))⟩
    | false =>
     rw[if_neg (by simp)]
     exact wt ⟨rfl,(l+r)/2+1,r,rfl,by omega,by omega,by omega,λi a1=>wR (up1 (lo+i) (lo+(l+r)/2) (by omega) (by omega) (by omega)) hb,b5⟩
  case ipost =>
   rintro c st' ⟨rfl,l,r,rfl,b2,b4,b5⟩
   dsimp only
   rw[moveDown'_eq]
   have e:lo+k-(lo+l)=k-l:=by omega
   refine wd (yP (wt ⟨rfl,?_,?_⟩))
   ·rw[e]
    exact sa1.bubble (by omega) (by omega)
   ·rw[show min (k+1) n=k+1 by omega]
    intro i j k1 k2 k3
    show O.kle (kk key (bubble (wx st1) (lo+k) (lo+k-(lo+l))) i) (kk key (bubble (wx st1) (lo+k) (lo+k-(lo+l))) j)
    have lt:lo+k<(wx st1).size:=by omega
    rw[e,iP lt (by omega),iP lt (by omega),show lo+k-(k-l)=lo+l by omega]
    have b4':∀z,lo<=z->z<lo+l->O.kle (kk key (wx st1) z) (kk key (wx st1) (lo+k)):=λz z1 z2=>by
     have:=b4 (z-lo) (by omega)
     rw[show lo+(z-lo)=z by omega] at this
     exact this
    have b5':∀z,lo+l<=z->z<lo+k->O.kle (kk key (wx st1) (lo+k)) (kk key (wx st1) z):=λz z1 z2=>by
     have:=b5 (z-lo) (by omega) (by omega)
     rw[show lo+(z-lo)=z by omega] at this
     exact xR this
    repeat' split
    all_goals first
     | (exfalso;omega)
     | exact yg _
     | exact b4' _ (by omega) (by omega)
     | exact b5' _ (by omega) (by omega)
     | exact up1 _ _ (by omega) (by omega) (by omega)
 ·by_cases h1:ok=0
  ·rw[show i=j by omega];exact yg _
  ·exact up i j k1 k2 (by omega)
end
open PySem PyProof.Rows
def pwr:Nat->Nat->Nat->Nat->Nat:=sortPriv% PySem.Builtin.power
def mrn:Nat->Nat->Nat->Nat:=sortPriv% PySem.Builtin.minRun
theorem pX:sZ=(do
    let sz:=(wx (← get)).size
    let mr:=mrn sz sz 0
    let mut lo:=0
    for _ in [0:sz] do
      if lo≥sz then break
      let some fd ← uo lo (sz-lo)
        | return
      let mut n:=fd
      if n<mr then
        rule "list.sort.binary-insertion"
        let fo:=min (sz-lo) mr
        if !(← pI lo fo n) then return
        n:=fo
      if let some (s1,n1,_):=(wH (← get)).back? then
        let pw:=pwr sz (2*s1+n1) (2*s1+n1+n1+n) sz
        for _ in [0:sz] do
          let p:=wH (← get)
          let some (_,_,old):=(if p.size>1 then p[p.size-2]? else none)
            | break
          if old<=pw then break
          if !(← mAt (p.size-2)) then return
        modify λs=>SortSt.mk' (kindOf s) (wx s) ((wH s).modify ((wH s).size-1) λ(st,len,_)=>(st,len,pw)) (gallopOf s) (failedOf s)
      modify λs=>SortSt.mk' (kindOf s) (wx s) ((wH s).push (lo,n,0)) (gallopOf s) (failedOf s)
      lo:=lo+n
    for _ in [0:sz] do
      let p:=wH (← get)
      if p.size<=1 then break
      let i:=p.size-2
      let bf:=if i>0 then p[i-1]?.map (·.2.1) else none
      let i:=if bf.any (· < (p[i+1]?.elim 0 (·.2.1))) then i-1 else i
      if !(← mAt i) then return):=rfl
def Mt:Nat->List (List wo)->List (Nat×Nat×Nat)->Prop
 | _,[],[]=>True
 | off,r :: rs,p :: ps=>p.1=off/\p.2.1=r.length/\Mt (off+r.length) rs ps
 | _,_,_=>False
theorem Mt.length:∀{off:Nat} {rs:List (List wo)} {ps:List (Nat×Nat×Nat)},Mt off rs ps->ps.length=rs.length
 | _,[],[],_=>rfl
 | _,_ :: _,_ :: _,h=>by rw[wO,wO,Mt.length h.2.2]
theorem Mt.append:∀{off:Nat} {rs ts:List (List wo)} {ps us:List (Nat×Nat×Nat)},Mt off rs ps->Mt (off+rs.flatten.length) ts us->Mt off (rs++ts) (ps++us)
 | _,[],_,[],_,_,h=>by simpa using h
 | off,r :: rs,ts,p :: ps,us,h,h'=>by
  refine ⟨h.1,h.2.1,Mt.append h.2.2 ?_⟩
  rw[yr,vQ, <- DX] at h'
  exact h'
theorem Mt.split:∀{off:Nat} {rs:List (List wo)} {ps:List (Nat×Nat×Nat)} (i:Nat),Mt off rs ps->i+1<ps.length →
  ∃R1 X Y R2 L1 w1 w2 L2,rs=R1++X :: Y :: R2/\ps=L1++(off+R1.flatten.length,X.length,w1) :: (off+R1.flatten.length+X.length,Y.length,w2) :: L2/\L1.length=i/\Mt off R1 L1/\Mt (off+R1.flatten.length+X.length+Y.length) R2 L2
 | off,r :: r2 :: rs,p :: p2 :: ps,0,h,_=>by
  obtain ⟨a,b,w1⟩:=p
  obtain ⟨c,d,w2⟩:=p2
  obtain ⟨h1,h2,h3,h4,h5⟩:=h
  dsimp only at h1 h2 h3 h4
  subst h1 h2 h3 h4
  exact ⟨[],r,r2,rs,[],w1,w2,ps,rfl,rfl,rfl,trivial,h5⟩
 | off,r :: rs,p :: ps,i+1,h,hl=>by
  rw[wO] at hl
  obtain ⟨R1,X,Y,R2,L1,w1,w2,L2,e1,e2,e3,m1,m2⟩:=Mt.split i h.2.2 (by omega)
  have ea:off+(r :: R1).flatten.length=off+r.length+R1.flatten.length:=by rw[yr,vQ];omega
  refine ⟨r :: R1,X,Y,R2,p :: L1,w1,w2,L2,by rw[e1];rfl,?_,by rw[wO,e3],⟨h.1,h.2.1,m1⟩,?_⟩
  ·rw[ea,e2];rfl
  ·rw[ea];exact m2
 | off,[],[],i,_,hl=>by simp at hl
 | off,[_],[_],0,_,hl=>by simp at hl
theorem Mt.modify (f:Nat×Nat×Nat->Nat×Nat×Nat)(hf:∀p,(f p).1=p.1/\(f p).2.1=p.2.1):∀{off:Nat} {rs:List (List wo)} {ps:List (Nat×Nat×Nat)} (i:Nat),Mt off rs ps->Mt off rs (ps.modify i f)
 | _,[],[],i,_=>by cases i <;> exact trivial
 | off,r :: rs,p :: ps,0,h=>⟨(hf p).1.trans h.1,(hf p).2.trans h.2.1,h.2.2⟩
 | off,r :: rs,p :: ps,i+1,h=>⟨h.1,h.2.1,Mt.modify f hf i h.2.2⟩
theorem nX {α:Type}(l:List α)(a b c:α)(r:List α):((l++a :: b :: r).set l.length c).eraseIdx (l.length+1)=l++c :: r:=by
 induction l with
 | nil=>rfl
 | cons x l ih=>simp only[Dl,wO,List.set_cons_succ,BJ,ih]
section
variable  {O:A4}(key:wo->O.α)(U:wo->Prop)(κ:SortKind)
structure Rn (a0:List wo)(lo:Nat)(st:wK):Prop where
 ex:∃runs rest,(wx st).toList=runs.flatten++rest/\runs.flatten.length=lo/\(∀r∈runs,r.Pairwise (Le key)/\0<r.length)/\Mt 0 runs (wH st).toList
 perm:(wx st).toList.Perm a0
 k:kindOf st=κ
 f:failedOf st=none
end
section
variable  {prog:wu}{w:w4}{A:w6}{E:vP->vR->Prop}{s:vR}{O:A4}{key:wo->O.α}{U:wo->Prop}{κ:SortKind}
theorem kh (C:Cmp prog w A s O key U κ){a0:List wo}{lo i:Nat}{st:wK}{Q:Bool->wK->Prop}(hu:∀p∈a0,U p)(R:Rn key κ a0 lo st)(hi:i+1<(wH st).size)
  (h:∀st',Rn key κ a0 lo st'->(wH st').size+1=(wH st).size->(wx st').toList.drop lo=(wx st).toList.drop lo->Q true st'):wpS (wI prog w) A E s (mAt i) Q st:=by
 obtain ⟨runs,rest,ea,el,er,em⟩:=R.ex
 obtain ⟨R1,X,Y,R2,L1,w1,w2,L2,e1,e2,e3,m1,m2⟩:=Mt.split i em (by rw[vX];exact hi)
 subst e1
 rw[zJ] at e2 m2
 have hx:=er X (by simp)
 have hy:=er Y (by simp)
 have ga:(wH st)[i]? = some (R1.flatten.length,X.length,w1):=by
  rw[<- v8,e2, <- e3,show L1.length=L1.length+0 by omega,lF];rfl
 have gb:(wH st)[i+1]? = some (R1.flatten.length+X.length,Y.length,w2):=by
  rw[<- v8,e2, <- e3,lF];rfl
 refine uA C (P:=R1.flatten) (X:=X) (Y:=Y) (S:=R2.flatten++rest) R.k R.f (by rw[ea];simp) (λp hp=>hu p (R.perm.mem_iff.mp hp)) ga gb hx.2 hy.2 hx.1 hy.1 λst' M pm sm ar pd kd fl =>?_
 have lm:M.length=X.length+Y.length:=by rw[pm.length_eq,vQ]
 have ep:(wH st').toList=L1++(R1.flatten.length,X.length+Y.length,w1) :: L2:=by
  rw[pd,Array.toList_eraseIdxIfInBounds,Bg,e2, <- e3]
  exact nX _ _ _ _ _
 refine h st' ⟨⟨R1++M :: R2,rest,?_,?_,λr hr =>?_,?_⟩,?_,kd,fl⟩ ?_ ?_
 ·rw[ar];simp
 ·rw[<- el];simp[lm];omega
 ·rcases vY.mp hr with q | q
  ·exact er r (by simp[q])
  ·rcases wj.mp q with q | q
   ·rw[q];exact ⟨sm,by have:=hx.2;omega⟩
   ·exact er r (by simp[q])
 ·rw[ep]
  refine Mt.append m1 ⟨by rw[zJ],lm.symm,?_⟩
  rw[zJ,lm, <- DX]
  exact m2
 ·rw[ar]
  refine List.Perm.trans ?_ R.perm
  rw[ea,show (R1++X :: Y :: R2).flatten++rest=R1.flatten++((X++Y)++(R2.flatten++rest)) by simp]
  exact yA _ (y7 _ pm)
 ·rw[<- vX, <- vX,ep,e2]
  simp only[vQ,wO]
  omega
 ·have l1:(R1++M :: R2).flatten.length=lo:=by rw[<- el];simp[lm];omega
  have q1:(wx st').toList=(R1++M :: R2).flatten++rest:=by rw[ar];simp
  rw[q1,ea, <- l1,AI,l1, <- el,AI]
theorem Rn.sa {a0:List wo}{lo:Nat}{st st':wK}(R:Rn key κ a0 lo st)(sa:SA lo st st'):Rn key κ a0 lo st':=by
 obtain ⟨runs,rest,ea,el,er,em⟩:=R.ex
 have et:(wx st').toList.take lo=runs.flatten:=by
  have e1:(wx st').toList.take lo=(wx st).toList.take lo:=by
   refine AE λi =>?_
   rw[yh,yh]
   split
   ·rw[v8,v8];exact sa.pre i (by assumption)
   ·rfl
  rw[e1,ea, <- el,DL]
 refine ⟨⟨runs,(wx st').toList.drop lo,by rw[<- et,xX],el,er,by rw[sa.p];exact em⟩,(Bh.mp sa.perm).trans R.perm,sa.k.trans R.k,sa.f.trans R.f⟩
theorem nY {xs:Array wo}{lo n:Nat}(h:Up key xs lo n):((xs.toList.drop lo).take n).Pairwise (Le key):=by
 refine z9.mpr λi j hi hj hij =>?_
 have get:∀k (hk:k<((xs.toList.drop lo).take n).length),key ((xs.toList.drop lo).take n)[k]=kk key xs (lo+k)/\k<n:=λk hk=>by
  have hk':=hk
  rw[wN] at hk'
  refine ⟨?_,by omega⟩
  have e:((xs.toList.drop lo).take n)[k]? = xs[lo+k]? := by
   rw[yh,if_pos (by omega),zD,v8]
  rw[vU hk] at e
  unfold kk
  rw[<- e];rfl
 obtain ⟨e1,l1⟩:=get i hi
 obtain ⟨e2,l2⟩:=get j hj
 show O.kle (key _) (key _)
 rw[e1,e2]
 exact h _ _ (by omega) (by omega) (by omega)
theorem Rn.push {a0:List wo}{lo n:Nat}{st:wK}(R:Rn key κ a0 lo st)(hn:0<n)(hz:lo+n<=(wx st).size)(hs:(((wx st).toList.drop lo).take n).Pairwise (Le key)) :
  Rn key κ a0 (lo+n) (SortSt.mk' (kindOf st) (wx st) ((wH st).push (lo,n,0)) (gallopOf st) (failedOf st)):=by
 obtain ⟨runs,rest,ea,el,er,em⟩:=R.ex
 have ed:(wx st).toList.drop lo=rest:=by rw[ea, <- el,AI]
 rw[ed] at hs
 have lr:n<=rest.length:=by
  have:=congrArg List.length ea
  rw[vX,vQ,el] at this
  omega
 have lt:(rest.take n).length=n:=by rw[wN];omega
 refine ⟨⟨runs++[rest.take n],rest.drop n,?_,?_,λr hr =>?_,?_⟩,R.perm,R.k,R.f⟩
 ·show (wx st).toList=_
  rw[ea];simp
 ·simp[lt,el]
 ·rcases vY.mp hr with q | q
  ·exact er r q
  ·have e:r=rest.take n:=by simpa using q
   rw[e];exact ⟨hs,by omega⟩
 ·show Mt 0 _ ((wH st).push (lo,n,0)).toList
  rw[zi]
  exact Mt.append em ⟨by show lo=_;omega,lt.symm,trivial⟩
theorem Rn.mod {a0:List wo}{lo:Nat}{st:wK}(R:Rn key κ a0 lo st)(i:Nat)(f:Nat×Nat×Nat->Nat×Nat×Nat)(hf:∀p,(f p).1=p.1/\(f p).2.1=p.2.1):Rn key κ a0 lo (SortSt.mk' (kindOf st) (wx st) ((wH st).modify i f) (gallopOf st) (failedOf st)):=by
 obtain ⟨runs,rest,ea,el,er,em⟩:=R.ex
 refine ⟨⟨runs,rest,ea,el,er,?_⟩,R.perm,R.k,R.f⟩
 show Mt 0 runs ((wH st).modify i f).toList
 rw[Array.toList_modify]
 exact Mt.modify f hf i em
theorem uB {c:Prop}[Decidable c]{n:Nat}(h:1<n):(if c then n-2-1 else n-2)+1<n:=by split <;> omega
theorem iQ:∀{runs:List (List wo)},(∀r∈runs,0<r.length)->runs.length<=runs.flatten.length
 | [],_=>vS _
 | r :: rs,h=>by
  have h1:=h r wJ
  have h2:=iQ λq hq=>h q (wD _ hq)
  rw[yr,vQ,wO]
  omega
theorem pY (C:Cmp prog w A s O key U κ){a0:List wo}{st:wK}{Q:Unit->wK->Prop}(hu:∀p∈a0,U p)(ha:(wx st).toList=a0)(hp:wH st = #[])(hk:kindOf st=κ)(hf:failedOf st=none)(h1:1<=a0.length)
  (h:∀st',(wx st').toList.Perm a0->(wx st').toList.Pairwise (Le key)->failedOf st'=none->Q () st'):wpS (wI prog w) A E s sZ Q st:=by
 rw[pX]
 refine wd (BR ?_)
 dsimp only
 have sz0:(wx st).size=a0.length:=by rw[<- vX,ha]
 have szR:∀{lo:Nat} {st':wK},Rn key κ a0 lo st'->(wx st').size=(wx st).size:=λR=>by rw[<- vX,R.perm.length_eq,sz0]
 have uR:∀{lo:Nat} {st':wK},Rn key κ a0 lo st'->∀p∈(wx st').toList,U p:=λR p hp=>hu p (R.perm.mem_iff.mp hp)
 have R0:Rn key κ a0 0 st:=⟨⟨[],a0,by rw[ha];rfl,rfl,λr hr=>(by cases hr),by rw[hp];exact trivial⟩,by rw[ha],hk,hf⟩
 refine wd (yz (xH (I:=λx c st'=>∃lo,c=(none,lo)/\x<=lo/\lo<=(wx st).size/\Rn key κ a0 lo st') (Q:=λc st'=>c=(none,(wx st).size)/\Rn key κ a0 (wx st).size st') ?step ?fin ⟨0,rfl,vS _,wM _,R0⟩) ?post)
 case fin =>
  rintro c st' ⟨lo,rfl,l1,l2,R⟩
  obtain rfl:lo=(wx st).size:=by omega
  exact ⟨rfl,R⟩
 case post =>
  rintro c st1 ⟨rfl,R⟩
  dsimp only
  have p0:(wH st1).size<=(wx st).size:=by
   obtain ⟨runs,rest,ea,el,er,em⟩:=R.ex
   have q:=em.length
   rw[vX] at q
   have:=iQ λr hr=>(er r hr).2
   omega
  refine wd (yz (xH (I:=λx c st'=>c=(none,())/\Rn key κ a0 (wx st).size st'/\((wH st').size<=1\/(wH st').size+x<=(wx st).size)) (Q:=λc st'=>c=(none,())/\Rn key κ a0 (wx st).size st'/\(wH st').size<=1) ?stepB ?finB ⟨rfl,R,.inr (by omega)⟩) ?postB)
  case finB =>
   rintro c st' ⟨rfl,R,q⟩
   exact ⟨rfl,R,by omega⟩
  case stepB =>
   rintro x c st' _ hx ⟨rfl,R,q⟩
   refine wd (BR ?_)
   by_cases c1:(wH st').size<=1
   ·rw[if_pos c1]
    exact wt ⟨rfl,R,c1⟩
   rw[if_neg c1]
   refine wd (kh C hu R (uB (by omega)) λst2 R2 s2 _ =>?_)
   simp only[BL,xW,if_false]
   exact wt ⟨rfl,R2,by omega⟩
  case postB =>
   rintro c st' ⟨rfl,R,q⟩
   obtain ⟨runs,rest,ea,el,er,em⟩:=R.ex
   have lm:=em.length
   rw[vX] at lm
   have lr:=congrArg List.length ea
   rw[vX,szR R,vQ,el] at lr
   have er0:rest=[]:=Aq.mp (by omega)
   subst er0
   rw[xN] at ea
   match runs,er,lm,el,ea with
   | [],_,_,el,_=>simp at el;omega
   | [r],er,_,_,ea =>
    have e:(wx st').toList=r:=by rw[ea];simp
    exact wt (h st' R.perm (by rw[e];exact (er r (by simp)).1) R.f)
   | _ :: _ :: _,_,lm,_,_=>simp at lm;omega
 case step =>
  rintro x c st1 _ hx ⟨lo,rfl,l1,l2,R⟩
  dsimp only
  by_cases cl:lo≥(wx st).size
  ·rw[if_pos cl]
   obtain rfl:lo=(wx st).size:=by omega
   exact wt ⟨rfl,R⟩
  rw[if_neg cl]
  have s1:=szR R
  refine wd (rZ C R.k (uR R) (by omega) (by omega) λn st2 n1 n2 sa2 up2 =>?_)
  dsimp only
  have R2:=R.sa sa2
  have s2:=szR R2
  by_cases cm:n<mrn (wx st).size (wx st).size 0
  case' pos =>
   rw[if_pos cm]
   refine wd (Cp (zd ⟨rfl,?_⟩))
   obtain ⟨fo,e⟩:∃fo,fo=min ((wx st).size-lo) (mrn (wx st).size (wx st).size 0):=⟨_,rfl⟩
   rw[<- e]
   refine wd (pW C R2.k (uR R2) (by omega) (by omega) up2 λst3 sa3 up3 =>?_)
   simp only[BL,xW,if_false]
   have R3:=R2.sa sa3
   have f0:0<fo:=by omega
   have f1:lo+fo<=(wx st).size:=by omega
  case' neg =>
   rw[if_neg cm]
   obtain ⟨fo,e⟩:∃fo,fo=n:=⟨_,rfl⟩
   subst e
   obtain ⟨st3,e3⟩:∃st3,st3=st2:=⟨_,rfl⟩
   subst e3
   have R3:=R2
   have up3:=up2
   have f0:0<fo:=n1
   have f1:lo+fo<=(wx st).size:=by omega
  all_goals
   have srt:=nY up3
   have s3:=szR R3
   refine wd (BR ?_)
   cases hbk:(wH st3).back? with
   | none =>
    dsimp only
    exact wd (yP (wt ⟨lo+fo,rfl,by omega,f1,R3.push f0 (by omega) srt⟩))
   | some t =>
    obtain ⟨t1,t2,t3⟩:=t
    dsimp only
    refine wd (yz (xH (I:=λ_ c st'=>c=(none,())/\Rn key κ a0 lo st'/\(wx st').toList.drop lo=(wx st3).toList.drop lo) (Q:=λc st'=>c=(none,())/\Rn key κ a0 lo st'/\(wx st').toList.drop lo=(wx st3).toList.drop lo) ?stepC ?finC ⟨rfl,R3,rfl⟩) ?postC)
    case finC=>exact λc st' q=>q
    case stepC =>
     rintro z c st4 _ _ ⟨rfl,R4,d4⟩
     refine wd (BR ?_)
     by_cases p1:(wH st4).size>1
     ·rw[if_pos p1]
      have lt:(wH st4).size-2<(wH st4).size:=by omega
      have e:(wH st4)[(wH st4).size-2]? = some (wH st4)[(wH st4).size-2]:=by simp[lt]
      rw[e]
      dsimp only
      split
      ·exact wt ⟨rfl,R4,d4⟩
      ·refine wd (kh C hu R4 (by omega) λst5 R5 _ d5 =>?_)
       simp only[BL,xW,if_false]
       exact wt ⟨rfl,R5,d5.trans d4⟩
     ·rw[if_neg p1]
      exact wt ⟨rfl,R4,d4⟩
    case postC =>
     rintro c st4 ⟨rfl,R4,d4⟩
     dsimp only
     have s4:=szR R4
     refine wd (yP (wd (yP (wt ⟨lo+fo,rfl,by omega,f1,?_⟩))))
     refine Rn.push ?_ f0 ?_ ?_
     ·refine Rn.mod R4 _ _ ?_
      exact λp=>⟨rfl,rfl⟩
     ·show lo+fo<=(wx st4).size
      omega
     ·show (((wx st4).toList.drop lo).take fo).Pairwise (Le key)
      rw[d4]
      exact srt
end
open PySem PyProof.Rows
structure mQ (prog:wu)(w:w4)(s:vR)(vs:List vP)(O:A4)(key:vP->O.α):Prop where
 ok:2<=vs.length->∀(A:w6) (h6:Heap),(∀b o,s.heap.get? b=some o->h6.get? b=some o)->∃κ,(∀(Q:SortKind->vR->Prop) (E:vP->vR->Prop),Q κ { s with heap:=h6 }->wA (wI prog w) A (keyKind' vs.toArray) Q E { s with heap:=h6 }) ∧
  Cmp prog w A { s with heap:=h6 } O (λp=>key p.1) (λp=>p.1=p.2/\p.1∈vs) κ
section
variable  {prog:wu}{w:w4}{A:w6}{E:vP->vR->Prop}{s:vR}{O:A4}{key:vP->O.α}
theorem zs:∀vs:List vP,(vs.zip vs).map (·.2)=vs
 | []=>rfl
 | v :: vs=>by rw[An,wQ,zs vs]
theorem ki {l:List wo}{vs:List vP}(h:l.Perm (vs.zip vs)):(l.map (·.2)).Perm vs/\∀p∈l,p.1=p.2/\p.1∈vs:=by
 have e:=zs vs
 refine ⟨by have:=h.map (·.2);rw[e] at this;exact this,λp hp =>?_⟩
 have m:=h.mem_iff.mp hp
 obtain ⟨i,hi⟩:=xt.mp m
 rw[Bq] at hi
 have e1:=hi.1.symm.trans hi.2
 exact ⟨wB e1,we hi.1⟩
theorem iw {a:Addr}{vs:List vP}{n:Nat}{P:Fin->vR->Prop}(ho:s.heap.get? a=some (seqObj "list" vs.toArray n))(hz:vs.length<=vZ)
    (hc:2<=vs.length->∀h6,(∀b o,b≠a->s.heap.get? b=some o->h6.get? b=some o)->∃κ,(∀(Q:SortKind->vR->Prop) (E:vP->vR->Prop),Q κ { s with heap:=h6 }->wA (wI prog w) A (keyKind' vs.toArray) Q E { s with heap:=h6 }) ∧
      Cmp prog w A { s with heap:=h6 } O (λp=>key p.1) (λp=>p.1=p.2/\p.1∈vs) κ)
    (h:∀out:List vP,out.Perm vs->out.Pairwise (λx y=>O.kle (key x) (key y))->P (.done (.ret .none)) { s with heap:=sortedHeap s.heap a vs out.toArray }):wA (wI prog w) A (Builtin.«list.sort» ⟨[.ref a],[]⟩) P E s:=by
  rw[list_sort_plain]
  have ha:a<s.heap.objs.size:=v3 ho
  refine vN (De ho rfl ?_)
  refine vN (CN ho rfl ?_ (by rw[vT];exact hz) (wM _))
  obtain ⟨e1,ho1⟩:∃e1,(s.heap.update a (zt λ_ => #[])).get? a=some (seqObj "list" #[] e1):=⟨_,get?_update_seq ho (λ_ => #[])⟩
  refine vN (seqEpoch_at ho1 rfl (vN (wpAny_newTuple ?_ (by exact hz))))
  refine vN (CO ?_ (wM _))
  refine yx ?_
  generalize hH:((s.heap.update a (zt λ_ => #[])).push (seqObj "tuple" vs.toArray 0)).push (seqObj "list" #[] 0)=h6
  have kp:∀b o,b≠a->s.heap.get? b=some o->h6.get? b=some o:=λb o nb e=>by
    rw[<- hH]
    refine vO _ (vO _ ?_)
    rw[Cy _ _ _ _ nb]
    exact e
  have ho6:h6.get? a=some (seqObj "list" #[] e1):=by
    rw[<- hH]
    exact vO _ (vO _ ho1)
  have eH:∀out:List vP,sortedHeap s.heap a vs out.toArray=h6.update a (zt λ_=>out.toArray):=λout=>by rw[<- hH];rfl
  have go:∀st':wK,(wx st').toList.Perm (vs.zip vs)->(wx st').toList.Pairwise (λp q=>O.kle (key p.1) (key q.1))->failedOf st'=none →
      wA (wI prog w) A (do
        let sorted:=(wx st').map (·.2)
        let touched:=(← seqEpoch a) != e1
        Builtin.List.listUpdate (.ref a) λ_=>sorted
        if let some e:=failedOf st' then rule "list.sort.comparison-raised";throw e
        if touched then rule "list.sort.modified";raiseError "ValueError" "list modified during sort"
        ret .none) P E { s with heap:=h6 }:=by
    intro st' pm ps hf
    obtain ⟨z1,z2⟩:=ki pm
    have em:(wx st').map (·.2)=((wx st').toList.map (·.2)).toArray:=by
      apply Dm.mp
      rw[AU]
    dsimp only
    refine vN (seqEpoch_at ho6 rfl ?_)
    refine vN (CN ho6 rfl ?_ (wM _) (by rw[xS, <- vX,pm.length_eq,Dz,Cc];omega))
    rw[hf]
    simp only[bne_self_eq_false,xW,if_false]
    refine vW ?_
    rw[em, <- eH]
    refine h _ z1 (yN.mpr (ps.imp_of_mem λ{p q} hp hq le =>?_))
    rw[<- (z2 p hp).1, <- (z2 q hq).1]
    exact le
  by_cases h2:vs.toArray.size<2
  · rw[if_pos h2,if_pos h2]
    refine vN (vW ?_)
    dsimp only
    rw[StateT.run_pure]
    refine vN (vW ?_)
    refine go (SortSt.mk' general' (vs.toArray.zip vs.toArray) #[] 7 none) (by show (vs.toArray.zip vs.toArray).toList.Perm _;simp) ?_ rfl
    rw[vT] at h2
    have et:(vs.toArray.zip vs.toArray).toList=vs.zip vs:=by simp
    show (vs.toArray.zip vs.toArray).toList.Pairwise (λ(p q:wo)=>O.kle (key p.1) (key q.1))
    rw[et]
    have short:∀us:List vP,us.length<2->(us.zip us).Pairwise (λ(p q:wo)=>O.kle (key p.1) (key q.1)):=λus hu=>by
      match us,hu with
      | [],_=>exact List.Pairwise.nil
      | [v],_=>exact yK _ _
      | _ :: _ :: _,hu=>simp only[wO] at hu;omega
    exact short vs h2
  · rw[if_neg h2,if_neg h2]
    rw[vT] at h2
    obtain ⟨κ,k1,C⟩:=hc (by omega) h6 kp
    refine vN (k1 _ _ ?_)
    have et:(vs.toArray.zip vs.toArray).toList=vs.zip vs:=by simp
    refine vN (yt (pY C (E:=E) (a0:=vs.zip vs) (st:=SortSt.mk' κ (vs.toArray.zip vs.toArray) #[] 7 none)
      (Q:=λ_ st'=>(wx st').toList.Perm (vs.zip vs)/\(wx st').toList.Pairwise (Le λ(p:wo)=>key p.1)/\failedOf st'=none)
      (ki (Bs _)).2 et rfl rfl rfl (by rw[Dz,Cc];omega) λst' a1 a2 a3=>⟨a1,a2,a3⟩) ?_ λ_ _ e=>e)
    rintro ⟨⟨⟩,st'⟩ s' ⟨rfl,hp,hs,hf⟩
    exact go st' hp hs hf
def kj (prog:wu)(w:w4)(s:vR)(v:vP)(vs:List vP):Prop :=
 ∀(A:w6) (E:vP->vR->Prop) (R:List vP->vR->Prop),(∀h1,(∀b o,s.heap.get? b=some o->h1.get? b=some o)->s.heap.objs.size<=h1.objs.size->R vs { s with heap:=h1 })->wA (wI prog w) A (collect v) R E s
theorem lG {v:vP}{vs:List vP}{Q:vP->vR->Prop}(hv:kj prog w s v vs)(hz:vs.length<=vZ)(C:mQ prog w s vs O key)
  (h:∀(h':Heap) (p:Addr) (out:List vP) (n:Nat),(∀b o,s.heap.get? b=some o->h'.get? b=some o)->s.heap.objs.size<=p->h'.get? p=some (seqObj "list" out.toArray n)->out.Perm vs->out.Pairwise (λx y=>O.kle (key x) (key y))->Q (.ref p) { s with heap:=h' }) :
  wA (wI prog w) A (call (.builtin "sorted") [v]) Q E s:=by
 refine Calls.call_function_entry kind_sorted plain_sorted entry_sorted (args_sorted1 _) ?_
 unfold Builtin.«sorted»
 refine vN (m:=checkCount "sorted" 1 1 _) (vW ?_)
 refine vN (hv _ _ _ λh1 k1 z1=>vN (CO ?_ hz))
 have hoL:(h1.push (seqObj "list" vs.toArray 0)).get? h1.objs.size=some (seqObj "list" vs.toArray 0):=v9 _ rfl
 have kL:∀b o,s.heap.get? b=some o->(h1.push (seqObj "list" vs.toArray 0)).get? b=some o:=λb o e=>vO _ (k1 b o e)
 refine vN (yx (xP slot_list_sort ⟨_,hoL,rfl⟩ entry_list_sort (iw (key:=key) (O:=O) hoL hz (λh2 h6 k6 =>?_) λout pm ps=>⟨_,rfl,?_⟩) (args_list_sort _)))
 ·exact C.ok h2 _ h6 λb o e=>k6 b o (wg (wq (v3 e) z1)) (kL b o e)
 ·obtain ⟨n,en⟩:=sortedHeap_at (out:=out.toArray) hoL
  refine vW ⟨_,rfl,h _ _ out n (λb o e =>?_) z1 en pm ps⟩
  have lt:=wq (v3 e) z1
  rw[sortedHeap_old (wg lt) (by rw[size_push'];exact xB lt)]
  exact kL b o e
theorem jB {l:Addr}{o:Obj}{vs:List vP}{n:Nat}(ho:s.heap.get? l=some o)(hc:o.cls = .type "list" \/ o.cls = .type "tuple")(hd:o.data = .seq vs.toArray n)(hz:vs.length<=vZ):kj prog w s (.ref l) vs:=by
  intro A E R h
  unfold collect
  refine vN (Bw (x3 entry_proto_collect' ?_))
  show wA _ _ (do again (.builtin "list.__iadd__" ⟨[<- newList [],.ref l],[]⟩)) _ _ s
  refine vN (CO (vW ⟨Bn _ (by decide +kernel),x3 entry_list_iadd' ?_⟩))
  show wA _ _ (xn (.ref s.heap.objs.size) (.ref l) (.ref s.heap.objs.size)) _ _ { s with heap:=s.heap.push (seqObj "list" #[] 0) }
  unfold xn
  have ho':(s.heap.push (seqObj "list" #[] 0)).get? l=some o:=vO _ ho
  have cond:∀T,o.cls = .type T->(T = "list" \/ T = "tuple")->wA (wI prog w) A (typeOf (.ref l)) (λt s'=>t = .type T/\s'={ s with heap:=s.heap.push (seqObj "list" #[] 0) }) E { s with heap:=s.heap.push (seqObj "list" #[] 0) }:=λT e _=>zN (T:=T) ⟨o,ho',e⟩ ⟨rfl,rfl⟩
  obtain ⟨T,eT,hT⟩:∃T,o.cls = .type T/\(T = "list" \/ T = "tuple"):=by
    rcases hc with hc | hc
    · exact ⟨_,hc,.inl rfl⟩
    · exact ⟨_,hc,.inr rfl⟩
  refine vN (zN (T:=T) ⟨o,ho',eT⟩ ?_)
  rw[if_pos (by rcases hT with rfl | rfl <;> simp)]
  refine vN (De ho' hd ?_)
  refine vN (De (xs := #[]) (n:=0) (v9 _ rfl) rfl ?_)
  rw[if_neg (by simp)]
  refine vN (CN (xs := #[]) (n:=0) (v9 _ rfl) rfl ?_ (wM _) (by show (#[]++vs.toArray).size<=vZ+1;simp only[zR,vT,yT];omega))
  refine vW ?_
  show wA (wI prog w) A (do
      let o ← load s.heap.objs.size
      match o.data with
      | .seq xs _=>pure xs.toList
      | _=>unsupported "internal:collect") R E { s with heap:=(s.heap.push (seqObj "list" #[] 0)).update s.heap.objs.size (zt (· ++ vs.toArray)) }
  refine vN (DU (get?_update_seq (v9 _ rfl) _) ?_)
  show wA _ _ (pure ((#[]:Array vP)++vs.toArray).toList) R E _
  rw[show ((#[]:Array vP)++vs.toArray).toList=vs by simp]
  refine vW (h _ (λb ob e =>?_) ?_)
  · rw[Cy _ _ _ _ (wg (v3 e))]
    exact vO _ e
  · rw[Heap.size_update,size_push']
    exact zv _
end
open PySem PyProof.Rows
def intOrd:A4 where
 α:=Int
 blt:=λa b=>decide (a<b)
 irrefl:=λa=>by simp
 trans:=λa b c h1 h2=>by simp at *;omega
 negTrans:=λa b c h=>by simp at *;omega
 total:=λa b h1 h2=>by simp at *;omega
theorem lex_irrefl:∀a,HT.lexLt a a=false
 | []=>rfl
 | x :: xs=>by rw[HT.cp,if_pos rfl];exact lex_irrefl xs
theorem lex_trans:∀a b c,HT.lexLt a b=true->HT.lexLt b c=true->HT.lexLt a c=true
 | [],[],_,h,_=>by cases h
 | [],_ :: _,[],_,h=>by cases h
 | [],_ :: _,_ :: _,_,_=>rfl
 | _ :: _,[],_,h,_=>by cases h
 | _ :: _,_ :: _,[],_,h=>by cases h
 | x :: xs,y :: ys,z :: zs,h1,h2=>by
  rw[HT.cp] at *
  by_cases e1:x=y
  ·subst e1
   rw[if_pos rfl] at h1
   by_cases e2:x=z
   ·rw[if_pos e2] at h2 ⊢
    exact lex_trans xs ys zs h1 h2
   ·rw[if_neg e2] at h2 ⊢
    exact h2
  ·rw[if_neg e1] at h1
   have l1:=of_decide_eq_true h1
   by_cases e2:y=z
   ·subst e2
    rw[if_neg e1]
    exact h1
   ·rw[if_neg e2] at h2
    have l2:=of_decide_eq_true h2
    rw[if_neg (by omega)]
    exact decide_eq_true (by omega)
theorem cZ:∀a b,HT.lexLt a b=false->HT.lexLt b a=false->a=b
 | [],[],_,_=>rfl
 | [],_ :: _,h,_=>by cases h
 | _ :: _,[],_,h=>by cases h
 | x :: xs,y :: ys,h1,h2=>by
  rw[HT.cp] at *
  by_cases e:x=y
  ·subst e
   rw[if_pos rfl] at h1 h2
   rw[cZ xs ys h1 h2]
  ·rw[if_neg e] at h1
   rw[if_neg (xF e)] at h2
   have a1:=of_decide_eq_false h1
   have a2:=of_decide_eq_false h2
   omega
theorem r6 (a b c:List Int)(h:HT.lexLt a c=true):HT.lexLt a b=true\/HT.lexLt b c=true:=by
 cases h1:HT.lexLt a b with
 | true=>exact .inl rfl
 | false =>
  right
  cases h2:HT.lexLt b a with
  | true=>exact lex_trans b a c h2 h
  | false=>rw[<- cZ a b h1 h2];exact h
def lexOrd:A4 where
 α:=List Int
 blt:=HT.lexLt
 irrefl:=lex_irrefl
 trans:=lex_trans
 negTrans:=r6
 total:=cZ
def intOf:vP->Int
 | .int i _=>i
 | _=>0
section
variable  {prog:wu}{w:w4}{A:w6}{E:vP->vR->Prop}{s:vR}
def dv (h:Heap)(v:vP):List Int:=match v with
 | .ref p=>match h.get? p with
  | some o=>match o.data with
   | .seq xs _=>xs.toList.map intOf
   | _=>[]
  | none=>[]
 | _=>[]
def dw (h:Heap)(v:vP)(ns:List Int):Prop:=∃p o xs n,v = .ref p/\h.get? p=some o/\o.cls = .type "tuple" /\ o.data = .seq xs n/\yY xs.toList ns
theorem ints_map:∀{vs:List vP} {ns:List Int},yY vs ns->vs.map intOf=ns
 | _,_,.nil=>rfl
 | _,_,.cons n t r=>by rw[wQ,ints_map r];rfl
theorem dw.ints {h:Heap}{v:vP}{ns:List Int}(x:dw h v ns):dv h v=ns:=by
 obtain ⟨p,o,xs,n,rfl,e,_,d,r⟩:=x
 unfold dv
 dsimp only
 rw[e]
 dsimp only
 rw[d]
 exact ints_map r
theorem dw.keeps {h h':Heap}{v:vP}{ns:List Int}(x:dw h v ns)(k:∀b o,h.get? b=some o->h'.get? b=some o):dw h' v ns:=by
 obtain ⟨p,o,xs,n,rfl,e,r⟩:=x
 exact ⟨p,o,xs,n,rfl,k _ _ e,r⟩
theorem kn {fin:Bool}{Q:Bool->vR->Prop}:∀{us ws:List vP} {ns ms:List Int} (i:Nat),yY us ns->yY ws ms->(fin=true↔(decide (ns.length<ms.length)=true))->Q (HT.lexLt ns ms) s →
  PySem.W.KatLex prog w A true fin Q (us.zip ws) i s
 | _,_,_,_,i,.nil,.nil,hf,q=>by
  refine Cd ?_
  have e:fin=false:=by cases fin with
   | false=>rfl
   | true=>have:=hf.mp rfl;simp at this
  rw[e];exact q
 | _,_,_,_,i,.nil,.cons _ _ _,hf,q=>by
  refine Cd ?_
  have e:fin=true:=hf.mpr (by simp)
  rw[e];exact q
 | _,_,_,_,i,.cons _ _ _,.nil,hf,q=>by
  refine Cd ?_
  have e:fin=false:=by cases fin with
   | false=>rfl
   | true=>have:=hf.mp rfl;simp at this
  rw[e];exact q
 | _,_,_,_,i,.cons (ns:=ns) a t r,.cons (ns:=ms) c u r',hf,q=>by
  rw[An]
  refine PySem.W.kat_cons (wpAny_eqBool_int ?_)
  rw[HT.cp] at q
  by_cases e:a=c
  ·rw[if_pos e] at q
   rw[beq_iff_eq.mpr e]
   exact PySem.W.kat_yes (kn (i+1) r r' (by rw[hf];simp) q)
  ·rw[if_neg e] at q
   rw[beq_eq_false_iff_ne.mpr e]
   refine PySem.W.kat_no ?_
   by_cases i0:(true && i == 0)=true
   ·rw[i0]
    exact oneLt_int q
   ·rw[zT.mpr i0,oneLt'_eq]
    simp only[xW,if_false]
    refine vN (HT.j7 _ _ a t c u prog w _ _ ?_)
    exact yO q
theorem gN {h:Heap}:∀{vs:List vP},(∀v∈vs,∃ns,dw h v ns/\ns≠[])->∃fs,PySem.W.KatTups h vs fs/\fs.length=vs.length/\∀f∈fs,∃i t,f = .int i t
 | [],_=>⟨[],trivial,rfl,λf hf=>by cases hf⟩
 | v :: vs,hv=>by
  obtain ⟨fs,t,l,hf⟩:=gN λu hu=>hv u (wD _ hu)
  obtain ⟨ns,⟨p,o,xs,n,rfl,e,c,d,r⟩,ne⟩:=hv v wJ
  have hx:∃i t,xs[0]? = some (.int i t):=by
   rw[<- v8]
   generalize xs.toList=l at r
   cases r with
   | nil=>exact absurd rfl ne
   | cons i t r=>exact ⟨i,t,rfl⟩
  obtain ⟨i,t',hx⟩:=hx
  exact ⟨.int i t' :: fs,D8 e c d hx t,by rw[wO,wO,l],λf hf'=>by
   rcases wj.mp hf' with q | q
   ·exact ⟨i,t',q⟩
   ·exact hf f q⟩
theorem jC {vs:List vP}(hv:∀v∈vs,∃ns,dw s.heap v ns/\ns≠[]):mQ prog w s vs lexOrd (dv s.heap):=by
 refine ⟨λh2 A h6 k6=>⟨tuples' true,λQ E q =>?_,⟨λE st x y Q hk hx hy q =>?_⟩⟩⟩
 ·obtain ⟨fs,t,l,hf⟩:=gN (h:=h6) (vs:=vs) λv hv'=>by
   obtain ⟨ns,i,ne⟩:=hv v hv'
   exact ⟨ns,i.keeps k6,ne⟩
  refine PySem.W.kat_kind (T :=.type "int") t (by omega) (λf hf' =>?_) rfl q
  obtain ⟨i,t',rfl⟩:=hf f hf'
  exact D7 rfl
 ·obtain ⟨ns,i1,_⟩:=hv _ hx.2
  obtain ⟨ms,i2,_⟩:=hv _ hy.2
  have q':Q (some (HT.lexLt (dv s.heap x.1) (dv s.heap y.1))) st:=q
  rw[i1.ints,i2.ints] at q'
  obtain ⟨p1,o1,xs1,n1,e1,g1,c1,d1,r1⟩:=i1.keeps k6
  obtain ⟨p2,o2,xs2,n2,e2,g2,c2,d2,r2⟩:=i2.keeps k6
  rw[lt'_eq]
  refine wd (BR ?_)
  rw[hk,e1,e2]
  have l1:=r1.length
  have l2:=r2.length
  refine wd (Cp (Au (PySem.W.kat_lt g1 d1 g2 d2 (kn 0 r1 r2 ?_ ⟨rfl,?_⟩))))
  ·rw[<- l1, <- l2,vX,vX]
  ·exact wt q'
end
end Srt
namespace L2
open PySem PySem.Spec PyProof.Rows
theorem lH {α β:Type}{f:α -> β}:∀{l:List β} {m:List α},l.Perm (m.map f)->∃m':List α,m'.Perm m/\l=m'.map f:=by
 intro l m h
 generalize hk:m.map f=k at h
 induction h generalizing m with
 | nil =>
  have:m=[]:=Ba.mp hk
  exact ⟨[],by rw[this],rfl⟩
 | cons x _ ih =>
  match m,hk with
  | y :: m,hk =>
   rw[wQ] at hk
   injection hk with h1 h2
   obtain ⟨m',p,e⟩:=ih h2
   exact ⟨y :: m',p.cons y,by rw[wQ, <- e,h1]⟩
  | [],hk=>cases hk
 | swap x y l =>
  match m,hk with
  | a :: b :: m,hk =>
   rw[wQ,wQ] at hk
   injection hk with h1 h2
   injection h2 with h2 h3
   exact ⟨b :: a :: m,List.Perm.swap a b m,by rw[wQ,wQ,h1,h2,h3]⟩
  | [],hk=>cases hk
  | [_],hk=>simp at hk
 | trans _ _ ih1 ih2 =>
  obtain ⟨m',p,e⟩:=ih2 hk
  obtain ⟨m'',p',e'⟩:=ih1 e.symm
  exact ⟨m'',p'.trans p,e'⟩
theorem fk:∀{ns:List Int} {us:List vP},Vals (ns.map V.int) us->yY us ns:=λr=>intsAre_of r
theorem jD:∀{us:List vP} {ns:List Int},yY us ns->Vals (ns.map V.int) us:=λr=>fL r
theorem iR:∀{us:List vP},(∀u∈us,∃i t,u=yo i t)->yY us (us.map Srt.intOf)
 | [],_ =>.nil
 | u :: us,h=>by
  obtain ⟨i,t,e⟩:=h u wJ
  subst e
  exact .cons i t (iR λv hv=>h v (wD _ hv))
theorem iS:∀{α:Type} {f:α -> Addr} {ps:List α} {us:List vP},Vals (ps.map λx=>V.ref (f x)) us->us=ps.map λx=>wz (f x)
 | _,_,[],_,r=>by cases r;rfl
 | _,f,p :: ps,_,r=>by
  cases r with
  | cons h t=>rw[wQ, <- iS t,show _=wz (f p) from h]
theorem iT {α:Type}{f:α -> Addr}:∀{ps:List α},Vals (ps.map λx=>V.ref (f x)) (ps.map λx=>wz (f x))
 | [] =>.nil
 | p :: ps =>.cons rfl iT
section
variable  {X:Cx}
theorem Inv.pZ {pins:List (Addr×Obj)}{σ:St}{H:Hp}{s:vR}{p:Addr}{ys:List V}(I:Inv X pins σ H s)(h:SqL X.K H p ys\/SqT X.K H p ys) :
  ∃(its:List vP) (o:Obj) (n:Nat),Vals ys its/\s.heap.get? p=some o/\(o.cls = .type "list" \/ o.cls = .type "tuple")/\o.data = .seq its.toArray n/\ys.length<=vZ:=by
 rcases h with h | h
 ·obtain ⟨its,r,⟨o,n,e,c,_,d⟩,z⟩:=I.list h
  exact ⟨its,o,n,r,e,.inl c,d,z⟩
 ·obtain ⟨its,r,⟨o,e,c,n,d⟩,z⟩:=I.tuple h
  exact ⟨its,o,n,r,e,.inr c,d,z⟩
theorem Inv.newList {pins:List (Addr×Obj)}{σ:St}{H:Hp}{s:vR}{h':Heap}{p:Addr}{ys:List V}{its:List vP}{n:Nat}(I:Inv X pins σ H s)(k:∀b o,s.heap.get? b=some o->h'.get? b=some o)(hp:s.heap.objs.size<=p)
  (e:h'.get? p=some { cls :=.type "list",data :=.seq its.toArray n }) (r:Vals ys its) (hz:ys.length<=vZ):Inv X pins σ (upd H p (.lst ys)) { s with heap:=h' } :=
 I.laid (t':=s.toks) k hp ⟨hz,its,n,r,e⟩
theorem cC:cc X (.builtin "sorted") (λxs H Q=>∃(p:Addr) (ts:List (Addr×List Int)),xs=[.ref p]/\(SqL X.K H p (ts.map λt =>.ref t.1)\/SqT X.K H p (ts.map λt =>.ref t.1))/\(∀t∈ts,SqT X.K H t.1 (t.2.map V.int)/\t.2≠[]) ∧
  ∀(l:Addr) (out:List (Addr×List Int)),H l=none->out.Perm ts->out.Pairwise (λa b=>HT.lexLt b.2 a.2=false)->Q (.ref l) (upd H l (.lst (out.map λt =>.ref t.1)))):=by
 intro pins s σ H xs us Q I r h
 obtain ⟨p,ts,rfl,hs,ht,q⟩:=h
 obtain ⟨u,rfl,ru⟩:=vals1 r
 cases (show u=wz p from ru)
 obtain ⟨its,o,n,rv,e,c,d,z⟩:=I.pZ hs
 have ei:=iS rv
 have lz:its.length<=vZ:=by rw[<- rv.length];exact z
 have tup:∀t∈ts,Srt.dw s.heap (wz t.1) t.2:=λt hm=>by
  obtain ⟨jts,jr,⟨jo,je,jc,jn,jd⟩,_⟩:=I.tuple (ht t hm).1
  exact ⟨t.1,jo,_,jn,rfl,je,jc,jd,by simpa using fk jr⟩
 have hv:∀v∈its,∃ns,Srt.dw s.heap v ns/\ns≠[]:=λv hv=>by
  rw[ei] at hv
  obtain ⟨t,hm,rfl⟩:=xc.mp hv
  exact ⟨t.2,tup t hm,(ht t hm).2⟩
 refine Srt.lG (Srt.jB e c d lz) lz (Srt.jC hv) λh' l out m k hl el pm ps =>?_
 rw[ei] at pm
 obtain ⟨out',pm',rfl⟩:=lH pm
 refine ⟨.ref l,_,I.newList k hl el iT (by rw[vM,pm'.length_eq, <- vM (f:=λt:Addr×List Int=>V.ref t.1)];exact z),rfl,q l _ (I.hok.fresh hl) pm' ?_⟩
 refine (yN.mp ps).imp_of_mem λ{a b} ha hb le =>?_
 have le':HT.lexLt (Srt.dv s.heap (wz b.1)) (Srt.dv s.heap (wz a.1))=false:=le
 rw[(tup a (pm'.mem_iff.mp ha)).ints,(tup b (pm'.mem_iff.mp hb)).ints] at le'
 exact le'
end
open PySem PySem.Spec PyProof.Rows
def Tp (H H':Hp):Prop:=∀b xs,H b=some (.tup xs)->H' b=some (.tup xs)
theorem aB.tp {H H':Hp}(a:aB H H'):Tp H H':=λc u h=>a c _ h
def mnI (a b:Int):Int:=if b<a then b else a
def mxI (a b:Int):Int:=if b>a then b else a
def nrm (a b:Int):List Int:=[mnI a b,mxI a b]
theorem p8 (a b:Int):nrm a b=nrm b a:=by
 have h1:mnI a b=mnI b a:=by unfold mnI;split <;> split <;> omega
 have h2:mxI a b=mxI b a:=by unfold mxI;split <;> split <;> omega
 unfold nrm
 rw[h1,h2]
open PySem PySem.Spec PyProof.Rows
section
variable  {X:Cx}{tg:Expr}
end
theorem ko {X:Cx}{K:vV}{x y:Str}{i j k:Nat}{p p' pos:Pos}(hN:X.N.Nodup)(hi:X.N[i]? = some x)(hj:X.N[j]? = some y)(hx:Loc X.env.scope x)(hy:Loc X.env.scope y)(hc:X.calm=true:=by rfl)(h:X.K=K:=by rfl)
  (hf:X.fn x=true\/X.env.scope.names.lookup x=some .local:=by first | exact .inl rfl | exact .inr rfl) (hg:X.fn y=true\/X.env.scope.names.lookup y=some .local:=by first | exact .inl rfl | exact .inr rfl):PG X (.Tuple [.Name x p,.Name y p'] k pos) (sW K i j):=by
 subst h
 exact aO hc (aq (ak hN hi hx hf) (aq (ak hN hj hy hg) aK))
end L2
namespace STab
open PySem PySem.SetTable
def lJ (xs:Array Nat):Prop:=∀i j a b:Nat,xs[i]? = some a->xs[j]? = some b->i<j->a<b
theorem p9 {xs:Array Nat}(R:lJ xs)(j:Nat):∀(fuel lo hi:Nat),lo<=hi->hi<=xs.size->hi-lo<=fuel →
  (∀i a,i<lo->xs[i]? = some a->a<j)->(∀i a,hi<=i->xs[i]? = some a->j<=a) →
  below.go xs j fuel lo hi<=xs.size/\(∀i a,xs[i]? = some a->(i<below.go xs j fuel lo hi↔a<j)):=by
 intro fuel
 induction fuel with
 | zero =>
  intro lo hi h1 h2 h3 h4 h5
  unfold below.go
  refine ⟨by omega,λi a e=>⟨λq=>h4 i a q e,λq =>?_⟩⟩
  apply Ac
  intro q2
  have:=h5 i a (by omega) e
  omega
 | succ fuel ih =>
  intro lo hi h1 h2 h3 h4 h5
  unfold below.go
  by_cases hl:lo<hi
  ·rw[if_pos hl]
   dsimp only
   have hm:(lo+hi)/2<xs.size:=by omega
   have em:xs[(lo+hi)/2]? = some xs[(lo+hi)/2]:=wY hm
   have eg:xs.getD ((lo+hi)/2) j=xs[(lo+hi)/2]:=by simp[Array.getD,hm]
   rw[eg]
   by_cases hc:xs[(lo+hi)/2]<j
   ·rw[if_pos hc]
    refine ih _ _ (by omega) h2 (by omega) (λi a q e =>?_) h5
    by_cases q2:i=(lo+hi)/2
    ·rw[q2,em] at e;cases e;exact hc
    ·exact Nat.lt_trans (R i _ _ _ e em (by omega)) hc
   ·rw[if_neg hc]
    refine ih _ _ (by omega) (by omega) (by omega) h4 (λi a q e =>?_)
    by_cases q2:i=(lo+hi)/2
    ·rw[q2,em] at e;cases e;omega
    ·have:=R _ i _ _ em e (by omega)
     omega
  ·rw[if_neg hl]
   refine ⟨by omega,λi a e=>⟨λq=>h4 i a q e,λq =>?_⟩⟩
   apply Ac
   intro q2
   have:=h5 i a (by omega) e
   omega
theorem eI {xs:Array Nat}(R:lJ xs)(j:Nat):below xs j<=xs.size/\∀i a,xs[i]? = some a->(i<below xs j↔a<j) :=
 p9 R j _ _ _ (wM _) (vS _) (by omega) (λi a h=>by omega) λi a h e=>by
  rw[y8 (by omega)] at e;cases e
theorem below_at {xs:Array Nat}(R:lJ xs){i j:Nat}(h:xs[i]? = some j):below xs j=i:=by
 obtain ⟨h1,h2⟩:=eI R j
 have hi:i<xs.size:=by
  apply Ac;intro q;rw[y8 q] at h;cases h
 have a1:¬ i<below xs j:=λq=>by have:=(h2 i j h).mp q;omega
 apply Ca (by omega)
 apply Dj
 intro q
 have e:=wY (xs:=xs) (i:=below xs j) (by omega)
 have l1:=R _ _ _ _ e h q
 have:=(h2 _ _ e).mpr l1
 omega
theorem bS {α:Type}(xs:Array α)(p:Nat)(x:α):(insertAt xs p x).toList=xs.toList.take p++x :: xs.toList.drop p:=by
 unfold insertAt
 simp
 rw[xv (by simp)]
theorem b8 {α:Type}(xs:Array α){p:Nat}(hp:p<=xs.size)(x:α)(i:Nat) :
  (insertAt xs p x)[i]? = if i<p then xs[i]? else if i=p then some x else xs[i-1]? := by
 rw[<- v8,bS]
 have hl:(xs.toList.take p).length=p:=by rw[wN,vX];omega
 by_cases h1:i<p
 ·rw[if_pos h1,ye (by omega),yh,if_pos h1,v8]
 ·rw[if_neg h1,xI (by omega),hl]
  by_cases h2:i=p
  ·rw[if_pos h2,h2,Nat.sub_self];rfl
  ·rw[if_neg h2]
   obtain ⟨d,hd⟩:∃d,i-p=d+1:=⟨i-p-1,by omega⟩
   rw[hd,Ar,zD,v8]
   congr 1;omega
theorem cu {α:Type}(xs:Array α)(p:Nat)(x:α):(insertAt xs p x).size=xs.size+1:=by
 rw[<- vX,bS,vQ,wO,wN,wX,vX]
 omega
theorem insertAt_perm {α:Type}(xs:Array α)(p:Nat)(x:α):(insertAt xs p x).toList.Perm (x :: xs.toList):=by
 rw[bS]
 exact Dk.trans (by rw[xX])
theorem fq {α β:Type}(xs:Array α)(p:Nat)(x:α)(f:α -> β):(insertAt xs p x).map f=insertAt (xs.map f) p (f x):=by
 apply Dm.mp
 rw[AU,bS,bS,AU,wb,wQ,zx,zg]
theorem iy {xs:Array Nat}(R:lJ xs){j:Nat}(hj:∀i:Nat,xs[i]? ≠ some j):lJ (insertAt xs (below xs j) j):=by
 obtain ⟨h1,h2⟩:=eI R j
 intro a b x y ea eb hab
 rw[b8 _ h1] at ea eb
 by_cases a1:a<below xs j
 ·rw[if_pos a1] at ea
  have:=(h2 _ _ ea).mp a1
  by_cases b1:b<below xs j
  ·rw[if_pos b1] at eb;exact R _ _ _ _ ea eb hab
  ·rw[if_neg b1] at eb
   by_cases b2:b=below xs j
   ·rw[if_pos b2] at eb;cases eb;exact this
   ·rw[if_neg b2] at eb
    exact R _ _ _ _ ea eb (by omega)
 ·rw[if_neg a1] at ea
  rw[if_neg (by omega),if_neg (by omega)] at eb
  have l1:¬ y<j:=λq=>by have:=(h2 _ _ eb).mpr q;omega
  by_cases a2:a=below xs j
  ·rw[if_pos a2] at ea;cases ea
   have:y≠j:=λq=>hj _ (q ▸ eb)
   omega
  ·rw[if_neg a2] at ea
   exact R _ _ _ _ ea eb (by omega)
def occ (t:SetTable)(j:Nat):Prop:=∃i:Nat,t.place[i]? = some j
theorem iU {t:SetTable}(R:lJ t.place){i j:Nat}(h:t.place[i]? = some j):t.slot j = .live i:=by
 unfold SetTable.slot
 dsimp only
 rw[below_at R h,h]
 simp
theorem lK {t:SetTable}(D:t.dummies = #[]){j:Nat}(h:¬ occ t j):t.slot j = .empty:=by
 unfold SetTable.slot
 dsimp only
 have h1:(t.place[below t.place j]? == some j)=false:=by
  rw[beq_eq_false_iff_ne];exact λq=>h ⟨_,q⟩
 rw[h1,D]
 simp[has]
def adv (mask:Nat)(p:Probe):Probe :=
 if p.more>0 then { p with j:=p.j+1,more:=p.more-1 } else
 let (i,perturb):=leap mask p.i p.perturb
 { p with j:=i,more:=runEnd mask i-i,i,perturb }
def cw (mask i perturb:Nat):Probe:={ j:=i,more:=runEnd mask i-i,i,perturb,dummy:=none }
def start (mask:Nat)(h:Int):Probe:=cw mask (bits h%(mask+1)) (bits h)
inductive Way (oc:Nat->Prop)(mask:Nat):Nat->Probe->Probe->Prop
 | here (p:Probe):Way oc mask 0 p p
 | step {n:Nat} {p q:Probe}:oc p.j->Way oc mask n (adv mask p) q->Way oc mask (n+1) p q
theorem Way.mono {oc oc':Nat->Prop}{mask n:Nat}{p q:Probe}(m:∀j,oc j->oc' j)(h:Way oc mask n p q):Way oc' mask n p q:=by
 induction h with
 | here p=>exact .here p
 | step a _ ih=>exact .step (m _ a) ih
theorem Way.dummy {oc:Nat->Prop}{mask n:Nat}{p q:Probe}(h:Way oc mask n p q):q.dummy=p.dummy:=by
 induction h with
 | here p=>rfl
 | @step n p q _ _ ih =>
  rw[ih];unfold adv;split <;> rfl
theorem uC {mask:Nat}{p:Probe}(h:p.j+p.more<=mask):(adv mask p).j+(adv mask p).more<=mask:=by
 unfold adv
 split
 ·dsimp only;omega
 ·dsimp only[leap]
  have:(p.i*5+1+p.perturb/32)%(mask+1)<mask+1:=A7 _ (Ai mask)
  unfold runEnd
  split <;> omega
theorem kq (mask:Nat)(h:Int):(start mask h).j+(start mask h).more<=mask:=by
 unfold start cw
 dsimp only
 have:bits h%(mask+1)<mask+1:=A7 _ (Ai mask)
 unfold runEnd
 split <;> omega
theorem Way.le {oc:Nat->Prop}{mask n:Nat}{p q:Probe}(h:Way oc mask n p q):p.j+p.more<=mask->q.j<=mask:=by
 induction h with
 | here p=>intro;omega
 | step _ _ ih=>intro h;exact ih (uC h)
def jE (mask:Nat):Nat->Probe->Probe
 | 0,p=>p
 | n+1,p=>jE mask n (adv mask p)
theorem kr (mask:Nat):∀(a b:Nat) (p:Probe),jE mask (a+b) p=jE mask b (jE mask a p)
 | 0,b,p=>by rw[zJ];rfl
 | a+1,b,p=>by rw[show a+1+b=(a+b)+1 by omega];exact kr mask a b (adv mask p)
theorem nZ (oc:Nat->Prop)(mask:Nat):∀(n:Nat) (p:Probe),¬ oc (jE mask n p).j->∃k q,k<=n/\Way oc mask k p q/\¬ oc q.j:=by
 intro n
 induction n with
 | zero=>intro p h;exact ⟨0,p,vS _,.here p,h⟩
 | succ n ih =>
  intro p h
  by_cases hp:oc p.j
  ·obtain ⟨k,q,a,b,c⟩:=ih (adv mask p) h
   exact ⟨k+1,q,by omega,.step hp b,c⟩
  ·exact ⟨0,p,wM _,.here p,hp⟩
theorem r9 (mask:Nat):∀(m:Nat) (p:Probe),p.more=m->p.dummy=none->jE mask (m+1) p=cw mask (leap mask p.i p.perturb).1 (leap mask p.i p.perturb).2:=by
 intro m
 induction m with
 | zero =>
  intro p h d
  show adv mask p=_
  unfold adv
  rw[if_neg (by omega)]
  obtain ⟨j,mo,i,pe,dm⟩:=p
  cases d
  rfl
 | succ m ih =>
  intro p h d
  show jE mask (m+1) (adv mask p)=_
  have e:adv mask p={ p with j:=p.j+1,more:=p.more-1 }:=by unfold adv;rw[if_pos (by omega)]
  rw[e]
  exact ih _ (by dsimp only;omega) d
def cg (mask:Nat):Nat->Nat×Nat->Nat×Nat
 | 0,x=>x
 | k+1,x=>cg mask k (leap mask x.1 x.2)
theorem iV (mask:Nat):∀(a b:Nat) (x:Nat×Nat),cg mask (a+b) x=cg mask b (cg mask a x)
 | 0,b,x=>by rw[zJ];rfl
 | a+1,b,x=>by rw[show a+1+b=(a+b)+1 by omega];exact iV mask a b _
theorem more_le (mask i:Nat):runEnd mask i-i<=9:=by unfold runEnd;split <;> omega
theorem lL (mask:Nat):∀(k i pe:Nat),∃n,n<=10*k/\jE mask n (cw mask i pe)=cw mask (cg mask k (i,pe)).1 (cg mask k (i,pe)).2:=by
 intro k
 induction k with
 | zero=>intro i pe;exact ⟨0,by omega,rfl⟩
 | succ k ih =>
  intro i pe
  obtain ⟨n,h1,h2⟩:=ih (leap mask i pe).1 (leap mask i pe).2
  refine ⟨(runEnd mask i-i+1)+n,by have:=more_le mask i;omega,?_⟩
  rw[kr,r9 mask (runEnd mask i-i) (cw mask i pe) rfl rfl]
  exact h2
theorem eE (mask:Nat):∀(k i pe:Nat),(cg mask k (i,pe)).2=pe/32 ^ k
 | 0,i,pe=>by simp[cg]
 | k+1,i,pe=>by
  show (cg mask k (leap mask i pe)).2=_
  rw[show leap mask i pe=((leap mask i pe).1,pe/32) from rfl,eE mask k,Nat.div_div_eq_div_mul,Nat.pow_succ,C8 32]
theorem kz (mask:Nat):∀(k i pe:Nat),i<=mask->(cg mask k (i,pe)).1<=mask
 | 0,i,pe,h=>h
 | k+1,i,pe,h=>by
  show (cg mask k (leap mask i pe)).1<=mask
  rw[show leap mask i pe=((leap mask i pe).1,pe/32) from rfl]
  exact kz mask k _ _ (zU (A7 _ (Ai mask)))
def ste (m i:Nat):Nat:=(i*5+1)%m
def its (m:Nat):Nat->Nat->Nat
 | 0,i=>i
 | n+1,i=>its m n (ste m i)
theorem gm (m:Nat):∀(a b i:Nat),its m (a+b) i=its m b (its m a i)
 | 0,b,i=>by rw[zJ];rfl
 | a+1,b,i=>by rw[show a+1+b=(a+b)+1 by omega];exact gm m a b _
def orb (m:Nat):Nat->Nat->List Nat
 | 0,_=>[]
 | n+1,i=>i :: orb m n (ste m i)
theorem jF (m:Nat):∀(n i j:Nat),j∈orb m n i->∃r,r<n/\its m r i=j
 | 0,i,j,h=>by cases h
 | n+1,i,j,h=>by
  rcases wj.mp h with h | h
  ·exact ⟨0,by omega,h.symm⟩
  ·obtain ⟨r,a,b⟩:=jF m n _ _ h
   exact ⟨r+1,by omega,b⟩
def whole (m:Nat):Bool:=((xJ m).all λj=>(orb m m 0).contains j) && (its m m 0 == 0)
theorem oa {m:Nat}(h:whole m=true){i j:Nat}(hi:i<m)(hj:j<m):∃r,r<m/\its m r i=j:=by
 unfold whole at h
 rw[x5,yG,beq_iff_eq] at h
 obtain ⟨h1,h2⟩:=h
 obtain ⟨a,a1,a2⟩:=jF m m 0 i (Ce.mp (h1 i (xh.mpr hi)))
 obtain ⟨b,b1,b2⟩:=jF m m 0 j (Ce.mp (h1 j (xh.mpr hj)))
 by_cases hab:a<=b
 ·refine ⟨b-a,by omega,?_⟩
  rw[<- a2, <- gm,show a+(b-a)=b by omega]
  exact b2
 ·refine ⟨m+b-a,by omega,?_⟩
  rw[<- a2, <- gm,show a+(m+b-a)=m+b by omega,gm,h2]
  exact b2
theorem uD:whole 8=true:=by decide +kernel
theorem sd:whole 32=true:=by decide +kernel
theorem qa:whole 128=true:=by decide +kernel
theorem qb:whole 512=true:=by decide +kernel
def Msk (mask:Nat):Prop:=mask=7\/mask=31\/mask=127\/mask=511
theorem Msk.whole {mask:Nat}(h:Msk mask):whole (mask+1)=true:=by
 rcases h with rfl | rfl | rfl | rfl
 ·exact uD
 ·exact sd
 ·exact qa
 ·exact qb
theorem iW (mask:Nat):∀(r i:Nat),cg mask r (i,0)=(its (mask+1) r i,0)
 | 0,i=>rfl
 | r+1,i=>by
  show cg mask r (leap mask i 0)=_
  rw[show leap mask i 0=(ste (mask+1) i,0) from rfl,iW mask r];rfl
theorem se (h:Int):bits h<2 ^ 64:=by
 unfold bits
 have h1:=yC h (show (0:Int)<2 ^ 64 by decide)
 have h0:=yV h (show (2 ^ 64:Int)≠0 by decide)
 have:((2 ^ 64:Nat):Int)=2 ^ 64:=by decide
 omega
theorem gO {mask:Nat}(hm:Msk mask){h:Int}{j:Nat}(hj:j<=mask):∃k,k<turns mask/\(cg mask k (bits h%(mask+1),bits h)).1=j:=by
 have p0:(cg mask 13 (bits h%(mask+1),bits h)).2=0:=by
  rw[eE]
  exact Nat.div_eq_of_lt (wq (se h) (by decide))
 have i0:=kz mask 13 (bits h%(mask+1)) (bits h) (zU (A7 _ (Ai mask)))
 obtain ⟨r,r1,r2⟩:=oa hm.whole (i:=(cg mask 13 (bits h%(mask+1),bits h)).1) (j:=j) (by omega) (by omega)
 refine ⟨13+r,by unfold turns;omega,?_⟩
 rw[iV,show cg mask 13 (bits h%(mask+1),bits h)=((cg mask 13 (bits h%(mask+1),bits h)).1,0) from Du rfl p0,iW]
 exact r2
theorem qc {mask:Nat}(hm:Msk mask)(oc:Nat->Prop)(h:Int){j:Nat}(hj:j<=mask)(he:¬ oc j):∃n q,n<10*turns mask/\Way oc mask n (start mask h) q/\¬ oc q.j/\q.j<=mask/\q.dummy=none:=by
 obtain ⟨k,k1,k2⟩:=gO hm (h:=h) hj
 obtain ⟨n,n1,n2⟩:=lL mask k (bits h%(mask+1)) (bits h)
 obtain ⟨n',q,a,b,c⟩:=nZ oc mask n (start mask h) (by
  show ¬ oc (jE mask n (cw mask _ _)).j
  rw[n2]
  show ¬ oc (cg mask k (bits h%(mask+1),bits h)).1
  rw[k2]
  exact he)
 exact ⟨n',q,by omega,b,c,b.le (kq mask h),b.dummy⟩
theorem iX {mask n:Nat}(oc:Nat->Prop)(f:Nat->Nat)(hf:∀j,j<=mask->oc j->f j<n)(inj:∀i j,i<=mask->j<=mask->oc i->oc j->f i=f j->i=j)(hn:n<=mask):∃j,j<=mask/\¬ oc j:=by
 by_cases q:∃j,j<=mask/\¬ oc j
 ·exact q
 ·exfalso
  have all:∀j,j<=mask->oc j:=λj hj=>by
   by_cases o:oc j
   ·exact o
   ·exact absurd ⟨j,hj,o⟩ q
  have nd:((xJ (mask+1)).map f).Nodup:=by
   unfold List.Nodup
   rw[yN]
   refine Aj (λ{a b} ha hb hab e=>hab (inj a b ?_ ?_ (all _ ?_) (all _ ?_) e)) (Dn)
   all_goals (rw[xh] at ha hb;omega)
  have:=zu nd (l₂:=xJ n) (λx hx=>by
   obtain ⟨j,hj,e⟩:=xc.mp hx
   rw[xh] at hj ⊢
   rw[<- e]
   exact hf j (by omega) (all j (by omega)))
  rw[vM,zV,zV] at this
  omega
open PySem PySem.SetTable
structure Tab (t:SetTable)(hs:Array Int):Prop where
 dm:t.dummies = #[]
 rise:lJ t.place
 size:t.place.size=hs.size
 le:∀i j:Nat,t.place[i]? = some j->j<=t.mask
 msk:Msk t.mask
 fit:hs.size<=t.mask
 reach:∀(i j:Nat) (h:Int),t.place[i]? = some j->hs[i]? = some h->∃n q,Way (occ t) t.mask n (start t.mask h) q/\q.j=j
theorem d7 {α:Type}{xs:Array α}{i:Nat}{a:α}(h:xs[i]? = some a):i<xs.size:=by
 apply Ac;intro q;rw[y8 q] at h;cases h
theorem Tab.fill {t:SetTable}{hs:Array Int}(T:Tab t hs):t.fill=hs.size:=by
 unfold SetTable.fill;rw[T.dm,T.size];rfl
theorem Tab.fits {t:SetTable}{hs:Array Int}(T:Tab t hs):t.fits hs.size=true:=by
 unfold SetTable.fits
 rw[T.fill,T.size]
 simp[T.fit]
theorem Tab.ends {t:SetTable}{hs:Array Int}(T:Tab t hs)(h:Int):∃n q,n<10*turns t.mask/\Way (occ t) t.mask n (start t.mask h) q/\¬ occ t q.j/\q.j<=t.mask/\q.dummy=none:=by
 obtain ⟨j,hj,he⟩:=iX (mask:=t.mask) (n:=hs.size) (occ t) (λj=>below t.place j)
  (λj _ ⟨i,e⟩=>by show below t.place j<hs.size;rw[below_at T.rise e, <- T.size];exact d7 e)
  (λi j _ _ ⟨a,ea⟩ ⟨b,eb⟩ e=>by
   have e':below t.place i=below t.place j:=e
   rw[below_at T.rise ea,below_at T.rise eb] at e'
   subst e'
   exact wB (ea.symm.trans eb)) T.fit
 exact qc T.msk (occ t) h hj he
theorem qd {t:SetTable}{hs:Array Int}(T:Tab t hs){H:Nat->Int}{h:Int}:∀(n:Nat) (p q:Probe) (fuel:Nat),Way (occ t) t.mask n p q->¬ occ t q.j->n<fuel->p.dummy=none →
  (SetTable.probe.go t H h fuel p=some (.empty q.j none)/\∀k r i,Way (occ t) t.mask k p r->t.place[i]? = some r.j->H i≠h) ∨
  (∃k r i,k<n/\Way (occ t) t.mask k p r/\t.place[i]? = some r.j/\H i=h/\SetTable.probe.go t H h fuel p=some (.candidate r.j i (adv t.mask r))/\Way (occ t) t.mask (n-k-1) (adv t.mask r) q/\(adv t.mask r).dummy=none
   /\ ∀k' r' i',k'<k->Way (occ t) t.mask k' p r'->t.place[i']? = some r'.j->H i'≠h):=by
 intro n
 induction n with
 | zero =>
  intro p q fuel W he hf hd
  cases W
  obtain ⟨fuel,rfl⟩:∃f,fuel=f+1:=⟨fuel-1,by omega⟩
  refine .inl ⟨?_,λk r i Wr er =>?_⟩
  ·unfold SetTable.probe.go
   rw[lK T.dm he]
   dsimp only
   rw[hd]
  ·cases Wr with
   | here=>exact absurd ⟨i,er⟩ he
   | step a _=>exact absurd a he
 | succ n ih =>
  intro p q fuel W he hf hd
  obtain ⟨fuel,rfl⟩:∃f,fuel=f+1:=⟨fuel-1,by omega⟩
  cases W with
  | step a W =>
   obtain ⟨i,ei⟩:=a
   have hd':(adv t.mask p).dummy=none:=by rw[<- hd];unfold adv;split <;> rfl
   by_cases hh:H i=h
   ·refine .inr ⟨0,p,i,by omega,.here p,ei,hh,?_,W,hd',λk' r' i' hk=>by omega⟩
    unfold SetTable.probe.go
    rw[iU T.rise ei]
    dsimp only
    rw[if_pos (by rw[hh];exact beq_self_eq_true h)]
    rfl
   ·have e0:SetTable.probe.go t H h (fuel+1) p=SetTable.probe.go t H h fuel (adv t.mask p):=by
     conv=>lhs;unfold SetTable.probe.go
     rw[iU T.rise ei]
     dsimp only
     rw[if_neg (by rw[beq_iff_eq];exact hh)]
     rfl
    rcases ih (adv t.mask p) q fuel W he (by omega) hd' with ⟨r1,r2⟩ | ⟨k,r,i',k1,w1,e1,h1,g1,w2,d2,no⟩
    ·refine .inl ⟨e0.trans r1,λk r j Wr er =>?_⟩
     cases Wr with
     | here =>
      obtain rfl:i=j:=by
       have x:=below_at T.rise ei
       have y:=below_at T.rise er
       exact x.symm.trans y
      exact hh
     | step _ Wr=>exact r2 _ _ _ Wr er
    ·refine .inr ⟨k+1,r,i',by omega,.step ⟨i,ei⟩ w1,e1,h1,e0.trans g1,by rw[show n+1-(k+1)-1=n-k-1 by omega];exact w2,d2,λk' r' j hk Wr er =>?_⟩
     cases Wr with
     | here =>
      obtain rfl:i=j:=by
       have x:=below_at T.rise ei
       have y:=below_at T.rise er
       exact x.symm.trans y
      exact hh
     | step _ Wr=>exact no _ _ _ (by omega) Wr er
theorem qe {t:SetTable}{hs:Array Int}(T:Tab t hs){H:Nat->Int}{h:Int}{n:Nat}{p q:Probe}(W:Way (occ t) t.mask n p q)(he:¬ occ t q.j)(hn:n<10*turns t.mask)(hd:p.dummy=none) :
  (t.probe H h p=some (.empty q.j none)/\∀k r i,Way (occ t) t.mask k p r->t.place[i]? = some r.j->H i≠h) ∨
  (∃k r i,k<n/\Way (occ t) t.mask k p r/\t.place[i]? = some r.j/\H i=h/\t.probe H h p=some (.candidate r.j i (adv t.mask r))/\Way (occ t) t.mask (n-k-1) (adv t.mask r) q/\(adv t.mask r).dummy=none
   /\ ∀k' r' i',k'<k->Way (occ t) t.mask k' p r'->t.place[i']? = some r'.j->H i'≠h) :=
 qd T n p q _ W he hn hd
theorem Tab.uE {t:SetTable}{hs:Array Int}(T:Tab t hs)(j:Nat):t.put j=({ t with place:=insertAt t.place (below t.place j) j },below t.place j):=by
 unfold SetTable.put
 dsimp only
 have:has t.dummies j=false:=by rw[T.dm];simp[has]
 rw[this]
 rfl
theorem Tab.put {t:SetTable}{hs:Array Int}(T:Tab t hs){h:Int}{n:Nat}{q:Probe}(W:Way (occ t) t.mask n (start t.mask h) q)(he:¬ occ t q.j)(hq:q.j<=t.mask)(hf:hs.size+1<=t.mask) :
  Tab { t with place:=insertAt t.place (below t.place q.j) q.j } (insertAt hs (below t.place q.j) h):=by
 have hp:=(eI T.rise q.j).1
 have hp':below t.place q.j<=hs.size:=by rw[<- T.size];exact hp
 have up:∀j,occ t j->occ { t with place:=insertAt t.place (below t.place q.j) q.j } j:=by
  rintro j ⟨i,e⟩
  by_cases l:i<below t.place q.j
  ·exact ⟨i,by show (insertAt _ _ _)[i]? = _;rw[b8 _ hp,if_pos l];exact e⟩
  ·exact ⟨i+1,by show (insertAt _ _ _)[i+1]? = _;rw[b8 _ hp,if_neg (by omega),if_neg (by omega)];exact e⟩
 refine ⟨T.dm,iy T.rise λi e=>he ⟨i,e⟩,?_,λi j e =>?_,T.msk,by rw[cu];exact hf,λi j h' e eh =>?_⟩
 ·show (insertAt _ _ _).size=_
  rw[cu,cu,T.size]
 ·have e':(insertAt t.place (below t.place q.j) q.j)[i]? = some j:=e
  rw[b8 _ hp] at e'
  split at e'
  ·exact T.le _ _ e'
  ·split at e'
   ·cases e';exact hq
   ·exact T.le _ _ e'
 ·have e':(insertAt t.place (below t.place q.j) q.j)[i]? = some j:=e
  rw[b8 _ hp] at e'
  rw[b8 _ hp'] at eh
  by_cases l1:i<below t.place q.j
  ·rw[if_pos l1] at e' eh
   obtain ⟨n',q',w,eq⟩:=T.reach _ _ _ e' eh
   exact ⟨n',q',w.mono up,eq⟩
  ·rw[if_neg l1] at e' eh
   by_cases l2:i=below t.place q.j
   ·rw[if_pos l2] at e' eh
    cases e';cases eh
    exact ⟨n,q,W.mono up,rfl⟩
   ·rw[if_neg l2] at e' eh
    obtain ⟨n',q',w,eq⟩:=T.reach _ _ _ e' eh
    exact ⟨n',q',w.mono up,eq⟩
def ocw (owner:Array (Option Nat))(j:Nat):Prop:=∃k,owner[j]? = some (some k)
theorem Way.trans {oc:Nat->Prop}{mask n m:Nat}{p q r:Probe}(h:Way oc mask n p q)(h2:Way oc mask m q r):∃k,Way oc mask k p r:=by
 induction h with
 | here=>exact ⟨m,h2⟩
 | step a _ ih=>obtain ⟨k,w⟩:=ih h2;exact ⟨k+1,.step a w⟩
theorem jG (oc:Nat->Prop)(mask:Nat):∀(k:Nat) (p:Probe),k<=p.more->(∀k',k'<k->oc (p.j+k'))->Way oc mask k p { p with j:=p.j+k,more:=p.more-k }
 | 0,p,_,_ =>.here p
 | k+1,p,h,ho=>by
  have e:adv mask p={ p with j:=p.j+1,more:=p.more-1 }:=by unfold adv;rw[if_pos (by omega)]
  refine .step (ho 0 (by omega)) ?_
  rw[e]
  have:=jG oc mask k { p with j:=p.j+1,more:=p.more-1 } (by dsimp only;omega) λk' hk=>by
   have:=ho (k'+1) (by omega)
   rw[show p.j+(k'+1)=p.j+1+k' by omega] at this
   exact this
  dsimp only at this
  rw[show p.j+1+k=p.j+(k+1) by omega,show p.more-1-k=p.more-(k+1) by omega] at this
  exact this
theorem dI {owner:Array (Option Nat)}{mask j:Nat}(hs:owner.size=mask+1)(hj:j<=mask):(owner.getD j (some 0)).isNone=true↔¬ ocw owner j:=by
 have hl:j<owner.size:=by omega
 have e:owner[j]? = some owner[j]:=wY hl
 rw[show owner.getD j (some 0)=owner[j] by simp[Array.getD,hl]]
 unfold ocw
 rw[e]
 cases owner[j] with
 | none=>simp
 | some k=>simp
theorem iY {mask i:Nat}(h:i<=mask):runEnd mask i<=mask/\i<=runEnd mask i:=by
 unfold runEnd;split <;> omega
theorem oe {mask:Nat}{owner:Array (Option Nat)}(hs:owner.size=mask+1):∀(fuel i pe j:Nat),i<=mask->SetTable.layClean.free mask owner fuel i pe=some j →
  ¬ ocw owner j/\∃n q,Way (ocw owner) mask n (cw mask i pe) q/\q.j=j:=by
 intro fuel
 induction fuel with
 | zero=>intro i pe j hi h;unfold SetTable.layClean.free at h;cases h
 | succ fuel ih =>
  intro i pe j hi h
  unfold SetTable.layClean.free at h
  obtain ⟨r1,r2⟩:=iY hi
  have no:∀k,k<runEnd mask i+1-i->((owner.getD (i+k) (some 0)).isNone=false)->ocw owner (i+k):=λk hk e=>by
   by_cases o:ocw owner (i+k)
   ·exact o
   ·rw[(dI hs (by omega)).mpr o] at e;cases e
  cases hf:(xJ (runEnd mask i+1-i)).find? λk=>(owner.getD (i+k) (some 0)).isNone with
  | some k =>
   rw[hf] at h
   dsimp only at h
   cases h
   rw[List.find?_range_eq_some] at hf
   obtain ⟨f1,f2,f3⟩:=hf
   rw[xh] at f2
   refine ⟨(dI hs (by omega)).mp f1,k,_,jG (ocw owner) mask k (cw mask i pe) (by show k<=runEnd mask i-i;omega) λk' hk =>?_,rfl⟩
   refine no k' (by omega) ?_
   have:=f3 k' hk
   simpa using this
  | none =>
   rw[hf] at h
   dsimp only at h
   rw[BC] at hf
   have all:∀k,k<runEnd mask i+1-i->ocw owner (i+k):=λk hk=>no k hk (by simpa using hf k hk)
   obtain ⟨g1,n,q,w,eq⟩:=ih _ _ _ (zU (A7 _ (Ai mask))) h
   refine ⟨g1,?_⟩
   have w0:=jG (ocw owner) mask (runEnd mask i-i) (cw mask i pe) (vS _) λk' hk=>all k' (by omega)
   have w1:Way (ocw owner) mask (n+1) { (cw mask i pe) with j:=(cw mask i pe).j+(runEnd mask i-i),more:=(cw mask i pe).more-(runEnd mask i-i) } q:=by
    refine .step (all (runEnd mask i-i) (by omega)) ?_
    have e:adv mask { (cw mask i pe) with j:=(cw mask i pe).j+(runEnd mask i-i),more:=(cw mask i pe).more-(runEnd mask i-i) }=cw mask (leap mask i pe).1 (leap mask i pe).2:=by
     unfold adv
     rw[if_neg (by show ¬ (runEnd mask i-i-(runEnd mask i-i))>0;omega)]
     rfl
    rw[e]
    exact w
   obtain ⟨k,w2⟩:=w0.trans w1
   exact ⟨k,q,w2,eq⟩
theorem og {mask:Nat}{owner:Array (Option Nat)}(hs:owner.size=mask+1):∀(fuel i pe k:Nat),i<=mask->k<fuel->¬ ocw owner (cg mask k (i,pe)).1->∃j,SetTable.layClean.free mask owner fuel i pe=some j:=by
 intro fuel
 induction fuel with
 | zero=>intro i pe k _ h;omega
 | succ fuel ih =>
  intro i pe k hi hk he
  unfold SetTable.layClean.free
  obtain ⟨r1,r2⟩:=iY hi
  cases hf:(xJ (runEnd mask i+1-i)).find? λk=>(owner.getD (i+k) (some 0)).isNone with
  | some k=>exact ⟨_,rfl⟩
  | none =>
   dsimp only
   rw[BC] at hf
   cases k with
   | zero =>
    have h0:=hf 0 (by omega)
    have:(owner.getD (i+0) (some 0)).isNone=true:=(dI hs (by omega)).mpr he
    rw[this] at h0
    cases h0
   | succ k=>exact ih _ _ k (zU (A7 _ (Ai mask))) (by omega) he
structure Own (mask:Nat)(owner:Array (Option Nat))(hs:List Int):Prop where
 size:owner.size=mask+1
 cov:∀(k:Nat) (h:Int),hs[k]? = some h->∃j n q,owner[j]? = some (some k)/\Way (ocw owner) mask n (start mask h) q/\q.j=j
 bnd:∀j k:Nat,owner[j]? = some (some k)->k<hs.length
 inj:∀i j k:Nat,owner[i]? = some (some k)->owner[j]? = some (some k)->i=j
theorem Own.step {mask:Nat}(hm:Msk mask){owner:Array (Option Nat)}{hs:List Int}(O:Own mask owner hs)(h:Int)(hl:hs.length<=mask) :
  ∃j,SetTable.layClean.free mask owner (turns mask) (bits h%(mask+1)) (bits h)=some j/\Own mask (owner.setIfInBounds j (some hs.length)) (hs++[h]):=by
 obtain ⟨e,he,hne⟩:=iX (mask:=mask) (n:=hs.length) (ocw owner) (λj=>(owner.getD j none).getD 0)
  (λj _ ⟨k,ek⟩=>by
   have:=d7 ek
   show (owner.getD j none).getD 0<_
   rw[show owner.getD j none=some k by rw[yi,ek];rfl]
   exact O.bnd j k ek)
  (λi j _ _ ⟨a,ea⟩ ⟨b,eb⟩ q=>by
   have q':(owner.getD i none).getD 0=(owner.getD j none).getD 0:=q
   rw[show owner.getD i none=some a by rw[yi,ea];rfl,show owner.getD j none=some b by rw[yi,eb];rfl] at q'
   have q'':a=b:=q'
   subst q''
   exact O.inj i j a ea eb) hl
 have i0:bits h%(mask+1)<=mask:=zU (A7 _ (Ai mask))
 obtain ⟨k,k1,k2⟩:=gO hm (h:=h) he
 obtain ⟨j,hj⟩:=og O.size (turns mask) _ _ k i0 k1 (by rw[k2];exact hne)
 obtain ⟨hno,n,q,w,eq⟩:=oe O.size _ _ _ _ i0 hj
 have hjm:j<=mask:=by rw[<- eq];exact w.le (kq mask h)
 have hjs:j<owner.size:=by rw[O.size];omega
 have ej:owner[j]? = some none:=by
  rw[wY hjs]
  cases ho:owner[j] with
  | none=>rfl
  | some k=>exact absurd ⟨k,by rw[wY hjs,ho]⟩ hno
 have get:∀i:Nat,(owner.setIfInBounds j (some hs.length))[i]? = if i=j then some (some hs.length) else owner[i]? := λi=>by
  rw[Array.getElem?_setIfInBounds]
  by_cases q:j=i
  ·rw[if_pos q,if_pos q.symm,if_pos hjs]
  ·rw[if_neg q,if_neg (xF q)]
 have up:∀i,ocw owner i->ocw (owner.setIfInBounds j (some hs.length)) i:=by
  rintro i ⟨k,ek⟩
  refine ⟨k,?_⟩
  rw[get,if_neg (λq=>by rw[q,ej] at ek;cases ek)]
  exact ek
 refine ⟨j,hj,by rw[BB];exact O.size,λk h' eh =>?_,λi k ek =>?_,λi i' k ei ei' =>?_⟩
 ·by_cases lk:k<hs.length
  ·rw[ye lk] at eh
   obtain ⟨j',n',q',a,b,c⟩:=O.cov k h' eh
   refine ⟨j',n',q',?_,b.mono up,c⟩
   rw[get,if_neg (λq=>by rw[q,ej] at a;cases a)]
   exact a
  ·rw[xI (by omega)] at eh
   have:k-hs.length=0:=by
    cases hk:k-hs.length with
    | zero=>rfl
    | succ m=>rw[hk] at eh;cases eh
   rw[this] at eh
   cases eh
   obtain rfl:k=hs.length:=by omega
   exact ⟨j,n,q,by rw[get,if_pos rfl],w.mono up,eq⟩
 ·rw[vQ,xC]
  rw[get] at ek
  split at ek
  ·cases ek;omega
  ·have:=O.bnd _ _ ek;omega
 ·rw[get] at ei ei'
  by_cases q1:i=j
  ·by_cases q2:i'=j
   ·rw[q1,q2]
   ·rw[if_pos q1] at ei;rw[if_neg q2] at ei'
    cases ei
    have:=O.bnd _ _ ei';omega
  ·rw[if_neg q1] at ei
   by_cases q2:i'=j
   ·rw[if_pos q2] at ei'
    cases ei'
    have:=O.bnd _ _ ei;omega
   ·rw[if_neg q2] at ei'
    exact O.inj _ _ _ ei ei'
theorem kA {mask:Nat}(hm:Msk mask):∀(l:List Int) (owner:Array (Option Nat)) (hs:List Int),Own mask owner hs->hs.length+l.length<=mask+1 →
    ∃owner',l.foldl (λacc h=>do
      let (owner,k) ← acc
      let j ← SetTable.layClean.free mask owner (turns mask) (bits h%(mask+1)) (bits h)
      pure (owner.setIfInBounds j (some k),k+1)) (some (owner,hs.length))=some (owner',hs.length+l.length)/\Own mask owner' (hs++l)
  | [],owner,hs,O,_=>⟨owner,rfl,by rw[xN];exact O⟩
  | h :: l,owner,hs,O,hl=>by
    rw[wO] at hl
    obtain ⟨j,hj,O'⟩:=O.step hm h (by omega)
    obtain ⟨owner',e,O''⟩:=kA hm l _ _ O' (by rw[vQ,xC];omega)
    refine ⟨owner',?_,by rw[wF] at O'';exact O''⟩
    rw[B7]
    have:(do
      let (owner,k) ← some (owner,hs.length)
      let j ← SetTable.layClean.free mask owner (turns mask) (bits h%(mask+1)) (bits h)
      pure (owner.setIfInBounds j (some k),k+1):Option (Array (Option Nat)×Nat))=some (owner.setIfInBounds j (some hs.length),(hs++[h]).length):=by
      show (SetTable.layClean.free mask owner (turns mask) (bits h%(mask+1)) (bits h)).bind _=_
      rw[hj,vQ]
      rfl
    rw[this,e]
    rw[vQ,xC,wO]
    congr 2
    omega
theorem kB {mask:Nat}(hm:Msk mask)(hs:Array Int)(hl:hs.size<=mask+1):∃owner,SetTable.layClean mask hs=some owner/\Own mask owner hs.toList:=by
  have O0:Own mask (Array.replicate (mask+1) none) []:=by
    refine ⟨by simp,λk h e=>by simp at e,λj k e =>?_,λi j k e =>?_⟩
    · rw[BD] at e;split at e <;> cases e
    · rw[BD] at e;split at e <;> cases e
  obtain ⟨owner,e,O⟩:=kA hm hs.toList _ [] O0 (by rw[yT,vX];omega)
  refine ⟨owner,?_,by rw[zF] at O;exact O⟩
  unfold SetTable.layClean
  rw[<- Array.foldl_toList]
  have e':hs.toList.foldl (λacc h=>do
      let (owner,k) ← acc
      let j ← SetTable.layClean.free mask owner (turns mask) (bits h%(mask+1)) (bits h)
      pure (owner.setIfInBounds j (some k),k+1)) (some (Array.replicate (mask+1) none,0))=some (owner,0+hs.toList.length):=e
  rw[e']
  rfl
theorem filterMap_get {α β:Type}{f:α -> Option β}:∀(l:List α),(∀x∈l,(f x).isSome=true)->∀i:Nat,(l.filterMap f)[i]? = l[i]?.bind f
 | [],_,i=>by simp
 | x :: l,h,i=>by
  obtain ⟨y,hy⟩:=BA.mp (h x wJ)
  rw[List.filterMap_cons_some hy]
  cases i with
  | zero=>simp[hy]
  | succ i =>
   rw[Ar,Ar]
   exact filterMap_get l (λz hz=>h z (wD _ hz)) i
theorem sf {mask:Nat}(hm:Msk mask)(finger moves:Nat)(led plain:Bool)(es:Array (Int×vP))(hl:es.size<=mask) :
  ∃t order,SetTable.laid mask finger moves led plain (es.map (·.1))=some (t,order)/\order.toList.Perm (xJ es.size)/\Tab t ((order.filterMap (es[·]?)).map (·.1))/\(order.filterMap (es[·]?)).toList.Perm es.toList/\t.led=led/\t.plain=plain/\t.mask=mask:=by
 obtain ⟨owner,e,O⟩:=kB hm (es.map (·.1)) (by rw[xS];omega)
 refine ⟨_,_,by unfold SetTable.laid;rw[e];rfl,?_⟩
 generalize hlive:((xJ (mask+1)).filterMap λj=>(owner.getD j none).map (j, ·))=live
 have mem:∀j k,(j,k)∈live↔owner[j]? = some (some k):=λj k=>by
  rw[<- hlive,Bm]
  constructor
  ·rintro ⟨a,ha,ea⟩
   rw[yi] at ea
   cases ho:owner[a]? with
   | none=>rw[ho] at ea;cases ea
   | some x =>
    rw[ho] at ea
    cases x with
    | none=>cases ea
    | some k'=>cases ea;exact ho
  ·intro ho
   refine ⟨j,?_,?_⟩
   ·rw[xh, <- O.size];exact d7 ho
   ·rw[yi,ho];rfl
 have pw:live.Pairwise (λa b=>a.1<b.1):=by
  rw[<- hlive,List.pairwise_filterMap]
  refine Ec (λ{a b} hab x hx y hy =>?_) List.pairwise_lt_range
  have hx':x.1=a:=by cases ho:owner.getD a none with
   | none=>rw[ho] at hx;cases hx
   | some k=>rw[ho] at hx;cases hx;rfl
  have hy':y.1=b:=by cases ho:owner.getD b none with
   | none=>rw[ho] at hy;cases hy
   | some k=>rw[ho] at hy;cases hy;rfl
  rw[hx',hy'];exact hab
 have nd:(live.map (·.2)).Nodup:=by
  unfold List.Nodup
  rw[yN]
  refine Aj (λ{a b} ha hb hab q =>?_) pw
  have:=O.inj a.1 b.1 a.2 ((mem _ _).mp ha) (by rw[q];exact (mem _ _).mp hb)
  omega
 have hlen:(es.map (·.1)).toList.length=es.size:=by rw[vX,xS]
 have perm:(live.map (·.2)).Perm (xJ es.size):=by
  rw[Bi nd Dn]
  intro k
  rw[xh,xc]
  constructor
  ·rintro ⟨⟨j,k'⟩,hm',rfl⟩
   have:=O.bnd _ _ ((mem _ _).mp hm')
   rw[hlen] at this
   exact this
  ·intro hk
   obtain ⟨j,_,_,ej,_⟩:=O.cov k _ (vU (by rw[hlen];exact hk))
   exact ⟨(j,k),(mem _ _).mpr ej,rfl⟩
 have all:∀x∈live.map (·.2),(es[x]?).isSome=true:=λx hx=>by
  have:=(perm.mem_iff).mp hx
  rw[xh] at this
  rw[wY this];rfl
 have tl:(live.map (·.2)).toArray.toList=live.map (·.2):=rfl
 have ll:live.length=es.size:=by have:=perm.length_eq;rw[vM,zV] at this;exact this
 have fm:((live.map (·.2)).toArray.filterMap (es[·]?)).toList=(live.map (·.2)).filterMap (es[·]?):=by simp
 have fl:((live.map (·.2)).filterMap (es[·]?)).Perm es.toList:=by
  have p1:=perm.filterMap (es[·]?)
  have:(xJ es.size).filterMap (es[·]?)=es.toList:=by
   apply AE
   intro i
   rw[filterMap_get _ (λx hx=>by rw[xh] at hx;rw[wY hx];rfl)]
   by_cases hi:i<es.size
   ·rw[List.getElem?_range hi,v8];rfl
   ·rw[zK (by rw[zV];omega),zK (by rw[vX];omega)];rfl
  rw[this] at p1
  exact p1
 refine ⟨perm,?_,by rw[fm];exact fl,rfl,rfl,rfl⟩
 have sz:(((live.map (·.2)).toArray.filterMap (es[·]?)).map (·.1)).size=es.size:=by
  rw[xS, <- vX,fm,fl.length_eq,vX]
 have occ_of:∀j,ocw owner j->occ { mask:=mask,place:=(live.map (·.1)).toArray,dummies := #[],finger:=finger,led:=led,moves:=moves,plain:=plain } j:=by
  rintro j ⟨k,ek⟩
  obtain ⟨i,hi,ei⟩:=Bb ((mem j k).mpr ek)
  refine ⟨i,?_⟩
  show (live.map (·.1)).toArray[i]? = some j
  rw[wW,wm,vU hi,ei]
  rfl
 refine ⟨rfl,λi j a b ea eb hij =>?_,?_,λi j ej =>?_,hm,by rw[sz];exact hl,λi j h ej eh =>?_⟩
 ·have ea':(live.map (·.1)).toArray[i]? = some a:=ea
  have eb':(live.map (·.1)).toArray[j]? = some b:=eb
  rw[wW] at ea' eb'
  have pw':(live.map (·.1)).Pairwise (· < ·):=by rw[yN];exact pw
  obtain ⟨hi,xi⟩:=v7.mp ea'
  obtain ⟨hj,xj⟩:=v7.mp eb'
  rw[<- xi, <- xj]
  exact z9.mp pw' i j hi hj hij
 ·show (live.map (·.1)).toArray.size=_
  rw[sz,vT,vM,ll]
 ·have ej':(live.map (·.1)).toArray[i]? = some j:=ej
  rw[wW,wm] at ej'
  cases hx:live[i]? with
  | none=>rw[hx] at ej';cases ej'
  | some x =>
   rw[hx] at ej'
   cases ej'
   have:=d7 ((mem x.1 x.2).mp (we hx))
   show x.1<=mask
   rw[O.size] at this
   omega
 ·have ej':(live.map (·.1)).toArray[i]? = some j:=ej
  rw[wW,wm] at ej'
  cases hx:live[i]? with
  | none=>rw[hx] at ej';cases ej'
  | some x =>
   rw[hx] at ej'
   cases ej'
   have ho:=(mem x.1 x.2).mp (we hx)
   have hk:=O.bnd _ _ ho
   rw[Array.getElem?_map, <- v8,fm,filterMap_get _ all,wm,hx] at eh
   have eh':(es[x.2]?).map (·.1)=some h:=eh
   obtain ⟨j',n,q,a,b,c⟩:=O.cov x.2 h (by rw[AU,wm,v8];exact eh')
   obtain rfl:=O.inj _ _ _ ho a
   exact ⟨n,q,b.mono occ_of,c⟩
open PySem PySem.SetTable PyProof.Rows
section
variable  {prog:wu}{w:w4}{A:w6}{E:vP->vR->Prop}{s:vR}
def aW (es:Array (Int×vP))(ep:Nat)(t:SetTable):Obj:={ cls :=.type "set",dict:=none,data :=.set es ep t }
theorem kC {a:Addr}{es:Array (Int×vP)}{ep:Nat}{t:SetTable}{Q:(Array (Int×vP)×Nat×SetTable)->vR->Prop}(ho:s.heap.get? a=some (aW es ep t))(T:Tab t (es.map (·.1)))(h:Q (es,ep,t) s) :
  wA (wI prog w) A (setState a) Q E s:=wpAny_setState_of ho rfl (by have:=T.fits;rwa [xS] at this) h
end
open PySem PySem.SetTable PyProof.Rows
section
variable  {prog:wu}{w:w4}{A:w6}{E:vP->vR->Prop}{s:vR}
def dE (w:w4)(h:Heap)(a:Addr)(es:Array (Int×vP)):Prop :=
 ∃ep t,h.get? a=some (aW es ep t)/\Tab t (es.map (·.1))/\es.size*5<t.mask*3/\t.led = !w.params.followText "set-order" /\ t.plain=true
theorem dE.at {h h':Heap}{a:Addr}{es:Array (Int×vP)}(x:dE w h a es)(e:∀o,h.get? a=some o->h'.get? a=some o):dE w h' a es :=
 let ⟨ep,t,ho,r⟩:=x;⟨ep,t,e _ ho,r⟩
theorem qf {m n:Nat}(hm:Msk m)(h1:n*5<m*3)(h2:(n+1)*5≥m*3)(h3:n<300):Msk (sizeAbove (grown (n+1))-1)/\n+1<=sizeAbove (grown (n+1))-1/\(n+1)*5<(sizeAbove (grown (n+1))-1)*3/\sizeAbove (grown (n+1))<=512:=by
 have c:n=4\/n=18\/n=76:=by
  rcases hm with rfl | rfl | rfl | rfl <;> omega
 unfold Msk
 rcases c with rfl | rfl | rfl <;> decide
theorem oh:512<=vZ:=by rw[AG];omega
theorem kD {a:Addr}{es es':Array (Int×vP)}{ep:Nat}{t t':SetTable}{Q:Unit->vR->Prop}(ho:s.heap.get? a=some (aW es ep t))(hz:es'.size<=512)
  (h:∀h',Heap.SameBut a s.heap h'->h'.get? a=some (aW es' (ep+1) t')->Q () { s with heap:=h' }):wA (wI prog w) A (storeSet a es' t') Q E s:=by
 refine wpAny_storeSet_of (o:=aW es ep t) ho rfl ?_ (wL hz oh)
 refine h _ (Af s.heap a _) ?_
 have:=xG (Obj.putSet es' t') ho (by rw[putSet_of es' t' (o:=aW es ep t) rfl];rfl)
 rw[putSet_of es' t' (o:=aW es ep t) rfl] at this
 exact this
theorem Tab.tooFull {t:SetTable}{hs:Array Int}(T:Tab t hs):t.tooFull=decide (hs.size*5≥t.mask*3):=by
 unfold SetTable.tooFull;rw[T.fill]
theorem oj {t:SetTable}{es:Array (Int×vP)}(T:Tab t (es.map (·.1))){n:Nat}(hn:es.size=n+1)(h1:n*5<t.mask*3)(h2:(n+1)*5≥t.mask*3)(h3:n<300) :
  ∃t' order,t.relaid (es.map (·.1)) (grown (n+1))=some (t',order)/\order.toList.Perm (xJ es.size)/\Tab t' ((order.filterMap (es[·]?)).map (·.1))/\(order.filterMap (es[·]?)).toList.Perm es.toList/\t'.led=t.led/\t'.plain=t.plain/\(n+1)*5<t'.mask*3:=by
 obtain ⟨k1,k2,k3,k4⟩:=qf T.msk h1 h2 h3
 obtain ⟨t',order,e,pm,T',pe,l,p,m⟩:=sf k1 t.finger (t.movedTo (sizeAbove (grown (n+1))-1)) t.led t.plain es (by omega)
 exact ⟨t',order,e,pm,T',pe,l,p,by rw[m];exact k3⟩
end
open PySem PySem.SetTable PyProof.Rows
section
variable  {prog:wu}{w:w4}{A:w6}{E:vP->vR->Prop}{s:vR}
def ElI (e:Int×vP)(k:Int):Prop:=∃t,e=(hashInt k,yo k t)
theorem om {es:Array (Int×vP)}(els:∀e∈es,∃k,ElI e k):ElemsOf (intKind prog w) es.toList:=by
 intro e he
 obtain ⟨k,t,rfl⟩:=els e (wV.mp he)
 exact ⟨⟨k,Cq _ _ _ _,rfl⟩,rfl⟩
theorem oq {t:SetTable}{es:Array (Int×vP)}(T:Tab t (es.map (·.1)))(h:Int)(x:vP){n:Nat}{q:Probe}(hn:n<10*turns t.mask)(W:Way (occ t) t.mask n (start t.mask h) q)(he:¬ occ t q.j)(hq:q.j<=t.mask)(hz:es.size+1<=t.mask) :
  layNew t es h x=(insertAt es (below t.place q.j) (h,x),{ t with place:=insertAt t.place (below t.place q.j) q.j },false,false):=by
 have hf:t.freeSlot h=some (q.j,false):=by
  unfold SetTable.freeSlot
  rcases qe T (H:=λ_=>h+1) (h:=h) W he hn rfl with ⟨g,_⟩ | ⟨_,_,i,_,_,_,h1,_⟩
  ·rw[show t.probe (λ_=>h+1) h (t.probeStart h)=some (.empty q.j none) from g]
   rfl
  ·have:h+1=h:=h1
   omega
 have T':=T.put W he hq (by rw[xS];exact hz)
 rw[<- fq es (below t.place q.j) (h,x) (·.1)] at T'
 have ft:=T'.fits
 rw[xS] at ft
 unfold layNew
 rw[hf]
 dsimp only
 rw[T.uE]
 dsimp only
 unfold SetTable.orStandIn
 rw[if_pos ft,ft]
 rfl
theorem kE {t:SetTable}{es:Array (Int×vP)}{n:Nat}{t':SetTable}{order:Array Nat}(e:t.relaid (es.map (·.1)) n=some (t',order))(pm:order.toList.Perm (xJ es.size))(T':Tab t' ((order.filterMap (es[·]?)).map (·.1))) :
  relayAll t es n=(order.filterMap (es[·]?),t',false):=by
 unfold relayAll
 rw[e]
 dsimp only
 have c:coversAll order es.size=true:=by unfold coversAll;rw[List.isPerm_iff];exact pm
 have f:=T'.fits
 rw[xS] at f
 rw[c,f]
 rfl
theorem add_int {a:Addr}{es:Array (Int×vP)}{k:Int}{tok:Tok}{Q:Bool->vR->Prop}(I:dE w s.heap a es)(els:∀e∈es,∃k',ElI e k')(hz:es.size<300)
  (hin:(∃e∈es,ElI e k)->Q false s)
  (hnew:(¬ ∃e∈es,ElI e k)->∀h' es',Heap.SameBut a s.heap h'->dE w h' a es'->es'.toList.Perm ((hashInt k,.int k tok) :: es.toList)->Q true { s with heap:=h' }) :
  wA (wI prog w) A (setAddHashed a (.int k tok) (hashInt k)) Q E s:=by
 obtain ⟨ep,t,ho,T,rm,hl,hp⟩:=I
 have hel:=om (prog:=prog) (w:=w) els
 have hb:es.size<scanBound:=by unfold scanBound;omega
 have hf:t.fits es.size=true:=by have:=T.fits;rwa [xS] at this
 unfold setAddHashed setAddHashedIn
 refine yx (vN (kC ho T ?_))
 dsimp only
 rw[byScan_of (knd:=intKind prog w) rfl hb hel]
 simp only[↓reduceIte]
 unfold setAddByScan
 refine vN ?_
 refine vN (zd ?_)
 refine vN (wpAny_setScan_of (knd:=intKind prog w) (k:=k) (Cq _ _ _ _) ho rfl hf hel ?_)
 cases hr:List.findIdx? (λe=>(intKind prog w).is k e.2) es.toList with
 | some j =>
  dsimp only
  obtain ⟨hj,hpj,_⟩:=List.findIdx?_eq_some_iff_getElem.mp hr
  refine vW (vW (hin ⟨es.toList[j],wV.mp (yH hj),?_⟩))
  obtain ⟨k',t',e'⟩:=els es.toList[j] (wV.mp (yH hj))
  obtain ⟨u,e2⟩:=Bz hpj
  rw[e'] at e2
  cases e2
  exact ⟨_,e'⟩
 | none =>
  dsimp only
  have nx:¬ ∃e∈es,ElI e k:=by
   rintro ⟨e,he,t',rfl⟩
   have:=List.findIdx?_eq_none_iff.mp hr _ (wV.mpr he)
   rw[Cq] at this
   cases this
  have hgw:∀(b:Bool) {s₁:vR} {Q':Unit->vR->Prop},Q' () s₁->wA (wI prog w) A (match b with | true=>rule "set.scan.the-table-gave-way" | false=>pure ()) Q' E s₁ :=
   λb s₁ Q' hq=>by cases b <;> first | exact vW hq | exact zd hq
  obtain ⟨n,q,hn,W,he,hq,hd⟩:=T.ends (hashInt k)
  have hz':es.size+1<=t.mask:=by
   rcases T.msk with e | e | e | e <;> rw[e] at rm ⊢ <;> omega
  rw[oq T (hashInt k) (.int k tok) hn W he hq hz']
  dsimp only
  refine vN (vW (a:=()) ?_)
  have T':=T.put W he hq (by rw[xS];exact hz')
  rw[<- fq es (below t.place q.j) (hashInt k,yo k tok) (·.1),hp] at T'
  rw[hp]
  simp only[↓reduceIte]
  refine vN ?_
  rw[show hashByValue 8 (.int k tok)=pure true from rfl]
  refine vW ?_
  simp only[↓reduceIte]
  have sz:(insertAt es (below t.place q.j) (hashInt k,yo k tok)).size=es.size+1:=cu _ _ _
  refine vN (kD ho (by rw[sz];omega) λh1 sb1 ho1 =>?_)
  have pm1:=insertAt_perm es (below t.place q.j) (hashInt k,yo k tok)
  rw[T'.tooFull,xS,sz]
  by_cases full:(es.size+1)*5≥t.mask*3
  ·rw[if_pos (by simpa using full)]
   obtain ⟨t2,order,e2,pm2,T2,pe2,l2,p2,rm2⟩:=oj T' sz (n:=es.size) (by simpa using rm) full hz
   rw[kE e2 pm2 T2]
   dsimp only
   have z2:(order.filterMap ((insertAt es (below t.place q.j) (hashInt k,yo k tok))[·]?)).size=es.size+1:=by
    rw[<- vX,pe2.length_eq,vX,sz]
   refine vN (vW (a:=()) ?_)
   refine vN (kD (s:={ s with heap:=h1 }) ho1 (by rw[z2];omega) λh2 sb2 ho2 =>?_)
   refine vW (vW (hnew nx h2 _ (sb1.trans sb2) ⟨_,_,ho2,T2,by rw[z2];exact rm2,by rw[l2];exact hl,by rw[p2]⟩ (pe2.trans pm1)))
  ·rw[if_neg (by simpa using full)]
   refine vW (vW (hnew nx h1 _ sb1 ⟨_,_,ho1,T',?_,hl,rfl⟩ pm1))
   rw[sz]
   exact Ac full
end
open PySem PySem.SetTable PyProof.Rows PySem.Spec
def TS (h h':Heap):Prop:=∀b o,o.cls = .type "tuple" -> h.get? b=some o->h'.get? b=some o
structure Kd (prog:wu)(w:w4)(κ:Type) where
 El:Heap->vP -> κ -> Prop
 hash:κ -> Int
 room:w6->Prop
 keeps:∀{h h':Heap} {v:vP} {k:κ},El h v k->TS h h'->El h' v k
 inj:∀{h:Heap} {v:vP} {k k':κ},El h v k->El h v k'->k=k'
 add:∀{A:w6} {E:vP->vR->Prop} {s:vR} {a:Addr} {es:Array (Int×vP)} {v:vP} {k:κ} {Q:Bool->vR->Prop},room A->dE w s.heap a es->(∀e∈es,∃k',e.1=hash k'/\El s.heap e.2 k')->El s.heap v k->es.size<300 →
  ((∃e∈es,El s.heap e.2 k)->∀tk,s.toks<=tk->Q false { s with toks:=tk }) →
  ((¬ ∃e∈es,El s.heap e.2 k)->∀h' es' tk,s.toks<=tk->Heap.SameBut a s.heap h'->dE w h' a es'->es'.toList.Perm ((hash k,v) :: es.toList)->Q true { s with heap:=h',toks:=tk }) →
  wA (wI prog w) A (setAdd a v) Q E s
def mS (prog:wu)(w:w4):Kd prog w Int where
 El:=λ_ v k=>∃t,v = .int k t
 hash:=hashInt
 room:=λ_=>True
 keeps:=λx _=>x
 inj:=λ⟨t,e⟩ ⟨t',e'⟩=>by rw[e] at e';injection e'
 add:=by
  intro A E s a es v k Q _ I els hv hz hin hnew
  obtain ⟨t,rfl⟩:=hv
  unfold setAdd
  refine yx (vN ((intKind prog w).pyHash (k:=k) (Cq _ _ _ _) ?_))
  have els':∀e∈es,∃k',ElI e k':=λe he=>by
   obtain ⟨k',e1,t',e2⟩:=els e he
   exact ⟨k',t',Du e1 e2⟩
  have conv:∀e∈es,(ElI e k↔∃t,e.2=yo k t):=λe he=>by
   constructor
   ·rintro ⟨t',rfl⟩;exact ⟨t',rfl⟩
   ·rintro ⟨t',e2⟩
    obtain ⟨k',e1,t2,e3⟩:=els e he
    rw[e2] at e3;injection e3 with e3 e4;subst e3
    exact ⟨t',Du e1 e2⟩
  refine add_int (s:={ s with toks:=s.toks+1 }) I els' hz (λx=>hin ?_ _ (zv _)) λx h' es' sb I' pm=>hnew ?_ h' es' _ (zv _) sb I' pm
  ·obtain ⟨e,he,x⟩:=x;exact ⟨e,he,(conv e he).mp x⟩
  ·rintro ⟨e,he,y⟩;exact x ⟨e,he,(conv e he).mpr y⟩
section
variable  {prog:wu}{w:w4}{κ:Type}(kd:Kd prog w κ)
structure Good (h:Heap)(es:Array (Int×vP))(l:List κ):Prop where
 el:∀e∈es,∃k,k∈l/\e.1=kd.hash k/\kd.El h e.2 k
 all:∀k∈l,∃e∈es,kd.El h e.2 k
 dis:es.toList.Pairwise (λe e'=>∀k,kd.El h e.2 k->¬ kd.El h e'.2 k)
 len:es.size<=l.length
variable  {kd}
theorem Good.keeps {h h':Heap}{es:Array (Int×vP)}{l:List κ}(G:Good kd h es l)(t:TS h h'):Good kd h' es l:=by
 refine ⟨λe he =>?_,λk hk =>?_,?_,G.len⟩
 ·obtain ⟨k,a,b,c⟩:=G.el e he;exact ⟨k,a,b,kd.keeps c t⟩
 ·obtain ⟨e,a,b⟩:=G.all k hk;exact ⟨e,a,kd.keeps b t⟩
 ·refine Aj (λ{e e'} he he' x k y z =>?_) G.dis
  obtain ⟨k1,_,_,c1⟩:=G.el e (wV.mp he)
  obtain ⟨k2,_,_,c2⟩:=G.el e' (wV.mp he')
  obtain rfl:=kd.inj y (kd.keeps c1 t)
  obtain rfl:=kd.inj z (kd.keeps c2 t)
  exact x _ c1 c2
theorem Good.nil (h:Heap):Good kd h #[] []:=⟨λe he=>(by simp at he),λk hk=>(by cases hk),(by simp),vS _⟩
theorem Good.same {h:Heap}{es:Array (Int×vP)}{l:List κ}(G:Good kd h es l){k:κ}(x:∃e∈es,kd.El h e.2 k):Good kd h es (l++[k]):=by
 refine ⟨λe he =>?_,λk' hk =>?_,G.dis,by rw[vQ];have:=G.len;omega⟩
 ·obtain ⟨k,a,b⟩:=G.el e he;exact ⟨k,yb _ a,b⟩
 ·rcases vY.mp hk with hk | hk
  ·exact G.all k' hk
  ·rw[wc] at hk;subst hk;exact x
theorem Good.more {h:Heap}{es es':Array (Int×vP)}{l:List κ}(G:Good kd h es l){k:κ}{v:vP}(hv:kd.El h v k)(x:¬ ∃e∈es,kd.El h e.2 k)(pm:es'.toList.Perm ((kd.hash k,v) :: es.toList)):Good kd h es' (l++[k]):=by
 have mem:∀e,e∈es'↔e=(kd.hash k,v)\/e∈es:=λe=>by
  rw[<- wV,pm.mem_iff,wj,wV]
 refine ⟨λe he =>?_,λk' hk =>?_,?_,?_⟩
 ·rcases (mem e).mp he with rfl | he
  ·exact ⟨k,wC _ (wc.mpr rfl),rfl,hv⟩
  ·obtain ⟨k,a,b⟩:=G.el e he;exact ⟨k,yb _ a,b⟩
 ·rcases vY.mp hk with hk | hk
  ·obtain ⟨e,a,b⟩:=G.all k' hk;exact ⟨e,(mem e).mpr (.inr a),b⟩
  ·rw[wc] at hk;subst hk;exact ⟨_,(mem _).mpr (.inl rfl),hv⟩
 ·rw[pm.pairwise_iff (λ{a b} z k y1 y2=>z k y2 y1)]
  refine List.Pairwise.cons (λe he k' y1 y2 =>?_) G.dis
  obtain rfl:=kd.inj y1 hv
  exact x ⟨e,wV.mp he,y2⟩
 ·have:=pm.length_eq
  rw[wO,vX,vX] at this
  rw[vQ,xC]
  have:=G.len
  omega
end
section
variable  {prog:wu}{w:w4}{A:w6}{R:Result->vR->Prop}{I:Addr}{fp:List Addr}{G:Array GenState->Array GenState->Prop}{n:Nat}{P:Nat->vP->Prop}{St:Nat->vR->Prop}{κ:Type}{kd:Kd prog w κ}
theorem kF (W:WalksS prog w A.in1 I fp [I] G n P St)(hrm:kd.room A.in1)(hI:∀i s,St i s->∃o,s.heap.get? I=some o/\o.cls ≠ .type "tuple")(S:Addr)(hSf:S∉fp)(hIf:I∈fp)(ks:List κ)(hn:n=ks.length)(hb:n<300) :
  ∀(k i:Nat) (s:vR) (es:Array (Int×vP)),n-i=k->i<=n->St i s->(∀j v,P j v->∃q,ks[j]? = some q/\kd.El s.heap v q) →
   dE w s.heap S es->Good kd s.heap es (ks.take i) →
   (∀s' es',Moved [S,I] G s s'->dE w s'.heap S es'->Good kd s'.heap es' ks->R (.ok (.ret .none)) s') →
   AZ (wI prog w) A (.builtin "set.update.loop" ⟨[.ref S,.ref I],[]⟩) R s:=by
 have hSI:S≠I:=λe=>hSf (e ▸ hIf)
 have ts:∀i s s',St i s->Moved [I] G s s'->TS s.heap s'.heap:=λi s s' hst hm b o hc e=>by
  refine hm.heap b o (λhb =>?_) e
  rw[wc] at hb
  obtain ⟨o',e',c'⟩:=hI i s hst
  rw[hb,e'] at e;cases e;exact c' hc
 intro k
 induction k with
 | zero =>
  intro i s es hk hi hst hv hS hG hR
  have hin:i=n:=by omega
  subst hin
  refine x3 BM ?_
  rw[yc zy _]
  show wA _ A.in1 (pyNext (.ref I) >>= _) _ _ s
  refine vN (W.done s _ _ hst λs' hm =>?_)
  show wA _ A.in1 (ret yv) _ _ s'
  rw[xv (by omega)] at hG
  exact vW (hR s' es (hm.mono λb hb=>by rw[wc] at hb;simp[hb]) (hS.at λo e=>hm.heap S o (by rw[wc];exact hSI) e) (hG.keeps (ts _ _ _ hst hm)))
 | succ k ih =>
  intro i s es hk hi hst hv hS hG hR
  have hlt:i<n:=by omega
  refine x3 BM ?_
  rw[yc zy _]
  show wA _ A.in1 (pyNext (.ref I) >>= _) _ _ s
  refine vN (W.item i s _ _ hlt hst λv s' hP hst' hm =>?_)
  have t0:=ts _ _ _ hst hm
  obtain ⟨q,eq,hq⟩:=hv i v hP
  have hS':dE w s'.heap S es:=hS.at λo e=>hm.heap S o (by rw[wc];exact hSI) e
  have hG':=hG.keeps t0
  have tk:ks.take (i+1)=ks.take i++[q]:=by rw[List.take_succ,eq];rfl
  show wA _ A.in1 (holding [v] (setAdd S v) >>= _) _ _ s'
  have hm2:Moved [S,I] G s s':=hm.mono λb hb=>by rw[wc] at hb;simp[hb]
  refine vN (yx (kd.add hrm hS' (λe he =>?_) (kd.keeps hq t0) ?_ (λx tk' htk =>?_) λx h' es' tk' htk sb I' pm =>?_))
  ·obtain ⟨k',_,a,b⟩:=hG'.el e he;exact ⟨k',a,b⟩
  ·have:=hG'.len;rw[wN] at this;omega
  ·refine vW ⟨yn zy _,ih (i+1) _ es (by omega) hlt (W.frame _ s' _ _ hst' htk λb _ o e=>e) (λj v' p =>?_) hS' (by rw[tk];exact hG'.same x) λs'' es'' hm'' a b =>?_⟩
   ·obtain ⟨q',a,b⟩:=hv j v' p;exact ⟨q',a,kd.keeps b t0⟩
   ·exact hR s'' es'' (D9 W.gtrans (hm2.then_heap htk λb o _ e=>e) hm'') a b
  ·have t1:TS s'.heap h':=λb o hc e=>by
    rw[sb.2 b (λhb=>by
     obtain ⟨ep,t,ho,_⟩:=hS'
     rw[hb,ho] at e;cases e;simp[aW] at hc)]
    exact e
   refine vW ⟨yn zy _,ih (i+1) _ es' (by omega) hlt (W.frame _ s' _ _ hst' htk λb hb o e =>?_) (λj v' p =>?_) I' (by rw[tk];exact (hG'.more (kd.keeps hq t0) x pm).keeps t1) λs'' es'' hm'' a b =>?_⟩
   ·rw[sb.2 b (λh:b=S=>hSf (h ▸ hb))];exact e
   ·obtain ⟨q',a,b⟩:=hv j v' p;exact ⟨q',a,kd.keeps (kd.keeps b t0) t1⟩
   ·refine hR s'' es'' (D9 W.gtrans (hm2.then_heap htk λb o hb e =>?_) hm'') a b
    rw[sb.2 b (λh:b=S=>hb (by rw[h];exact wJ))];exact e
end
section
variable  {prog:wu}{w:w4}{A:w6}{E:vP->vR->Prop}{s:vR}
theorem mW (a:vP){Q₁:vP->vR->Prop}
    (h:Q₁ (.ref s.heap.objs.size) { s with heap:=s.heap.push (aW #[] 0 (.fresh 0 0 (!w.params.followText "set-order"))) }) :
    AZ (wI prog w) A (.call (.builtin "set.__new__") ⟨[.type "set",a],[]⟩) (wants Q₁ E) s:=by
  refine Cm ?_
  show wA _ A.in1 (do checkBuiltinCall "set.__new__" ⟨[.type "set",a],[]⟩;again (.builtin "set.__new__" ⟨[.type "set",a],[]⟩)) _ _ s
  refine vN (yl (PySem.F.newCall_set_1 a) (vW ⟨yn DA _,x3 F.entry_set_new ?_⟩))
  rw[yc DA _]
  unfold Builtin.«set.__new__» Builtin.Frozenset.newClass
  have hsub:=sub_set_self
  obtain ⟨hp,g,d,tk,os⟩:=s
  dsimp only
  wp_walk
  refine wpAny_askSetting (vW ?_)
  dsimp only
  simp only[newObj]
  refine vN (wpAny_alloc (vW ?_))
  exact vW h
theorem ou (led:Bool):Tab (.fresh 0 0 led) #[]:=by
 refine ⟨rfl,λi j a b e =>?_,rfl,λi j e =>?_,.inl rfl,wM _,λi j h e =>?_⟩ <;> (simp[SetTable.fresh] at e)
theorem gP {h:Heap}{a:Addr}(ho:h.get? a=some (aW #[] 0 (.fresh 0 0 (!w.params.followText "set-order")))):dE w h a #[] :=
 ⟨0,_,ho,(by rw[Array.map_empty];exact ou _),(by show 0*5<7*3;decide),rfl,rfl⟩
theorem sub_tuple_set:isSubtype (.type "tuple") (.type "set")=pure false:=by rw[yL];kernel_rfl
theorem sub_tuple_frozenset:isSubtype (.type "tuple") (.type "frozenset")=pure false:=by rw[yL];kernel_rfl
end
open PySem PySem.SetTable PyProof.Rows PySem.Spec
section
variable  {prog:wu}{w:w4}{A:w6}{E:vP->vR->Prop}{s:vR}
set_option maxHeartbeats 3200000 in
theorem gQ {κ:Type}{kd:Kd prog w κ}{l:Addr}{items:Array vP}{ks:List κ}{Q:vP->vR->Prop}
  (hh:A.handled=none) (hrm:kd.room A.in1.in1.in1) (hl:s.heap.IsTuple l items) (hz:items.size=ks.length) (hi:∀(i:Nat) v,items[i]? = some v->∃q,ks[i]? = some q/\kd.El s.heap v q) (hb:items.size<300)
  (h:∀(h':Heap) (es:Array (Int×vP)) (tk:Nat),s.toks<=tk->dE w h' s.heap.objs.size es->Good kd h' es ks →
   (∀b o,s.heap.get? b=some o->h'.get? b=some o)->Q (.ref s.heap.objs.size) { s with heap:=h',toks:=tk }) :
  wA (wI prog w) A (call (.type "set") [.ref l]) Q E s:=by
 obtain ⟨c,tl,hmro⟩:=xY.mro
 have hmade:=xY.made
 have hsub:=xY.sub
 refine DV (Cm ?_)
 show wA _ _ (callAny (.type "set") _) _ _ _
 refine vW ⟨Bn _ (by decide +kernel),x3 CY ?_⟩
 rw[CJ (Cn "set" [.ref l] []) rfl]
 have h1:=xY.notType
 have h2:=xY.canCreate
 have hct:=B2 (.ref l)
 repeat (any_goals (first | assumption | wp_step))
 have gd:(s.heap.push (aW #[] 0 (.fresh 0 0 (!w.params.followText "set-order")))).objs.size=s.heap.objs.size+1:=yw _ _
 refine Am (mW (w:=w) (.ref l) (E:=E) (Q₁:=λobj s₁=>obj = .ref s.heap.objs.size/\s₁={ s with heap:=s.heap.push (aW #[] 0 (.fresh 0 0 (!w.params.followText "set-order"))) }) ⟨rfl,rfl⟩) λr s₁ hr =>?_
 cases r with
 | error e=>exact hr
 | ok fl =>
  cases fl with
  | ret obj =>
   obtain ⟨rfl,rfl⟩:=hr
   generalize hled:(!w.params.followText "set-order")=led at gd ⊢
   have hS:(s.heap.push (aW #[] 0 (.fresh 0 0 led))).get? s.heap.objs.size=some (aW #[] 0 (.fresh 0 0 led)):=v9 _ rfl
   have hT:Shared.TypeIs { s with heap:=s.heap.push (aW #[] 0 (.fresh 0 0 led)) } (.ref s.heap.objs.size) "set" :=⟨_,hS,rfl⟩
   have hli:=xY.init.lookup
   have hbi:=xY.init.bind (.ref s.heap.objs.size)
   repeat (any_goals (first | assumption | wp_step))
   refine Am (Cu (R:=wants (λr s₂=>r = .none/\∃h' es tk,s₂={ s with heap:=h',toks:=tk }/\s.toks<=tk ∧
     dE w h' s.heap.objs.size es/\Good kd h' es ks ∧
     (∀b o,s.heap.get? b=some o->h'.get? b=some o)) E) xY.init.plain Dp (check_set_init_1 hT ?_)) λr₂ s₂ hr₂ =>?_
   ·obtain ⟨ol,hol,hcl,nl,hdl⟩:=id hl
    obtain ⟨ocls,odict,odata,oslots⟩:=ol
    simp only at hcl hdl
    subst hcl;subst hdl
    have hol':(s.heap.push (aW #[] 0 (.fresh 0 0 led))).get? l=some { cls :=.type "tuple",dict:=odict,data :=.seq items nl,slots:=oslots }:=vO _ hol
    have hsls:=sub_tuple_set
    have hslf:=sub_tuple_frozenset
    have hne:(yF "tuple" == yF "dict")=false:=by decide
    have hl1:(s.heap.push (aW #[] 0 (.fresh 0 0 led))).IsTuple l items:=⟨_,hol',rfl,nl,rfl⟩
    unfold Builtin.«set.__init__» noKeywords Builtin.Frozenset.updateFrom
    generalize hPI:pyIter=PI
    wp_walk
    subst hPI
    refine yD hl1 ?_
    refine vN (Bw ?_)
    have hlS:l<s.heap.objs.size:=v3 hol
    have hh3:A.in1.in1.in1.handled=none:=by simp[hh]
    have hneI:l≠(s.heap.push (aW #[] 0 (.fresh 0 0 led))).objs.size:=by
     rw[gd];exact wg (xB hlS)
    have hSf:s.heap.objs.size∉[(s.heap.push (aW #[] 0 (.fresh 0 0 led))).objs.size,l]:=by
     rw[gd];simp only[wj,wc,AV,or_false,not_or]
     exact ⟨wg (xO _),Bl hlS⟩
    refine kF (kd:=kd) ((BN hh3 _ l hneI items).toS) hrm (λi s' st =>?hI) s.heap.objs.size hSf wJ ks hz hb (items.size-0) 0 _ #[] (by omega) (wM _)
     ⟨⟨_,v9 _ rfl,rfl,rfl⟩,(hl1.push _)⟩ ?hv (by subst hled;exact gP (vO _ hS)) (Good.nil _) ?hR
    case hI =>
     obtain ⟨o,ho,hc,_⟩:=st.1
     exact ⟨o,ho,by rw[hc];decide⟩
    case hv =>
     intro j v hv
     obtain ⟨q,e,x⟩:=hi j v hv
     exact ⟨q,e,kd.keeps x λb o _ e=>vO _ (vO _ e)⟩
    case hR =>
     intro s' es' hm hS' hG'
     obtain ⟨h',g',d',tk',os'⟩:=s'
     have eg:g'=s.gens:=hm.gens
     have ed:d'=s.drawn:=hm.drawn
     have eo:os'=s.os:=hm.os
     subst eg;subst ed;subst eo
     show wA _ _ _ _ _ _
     refine vW ?_
     show wA _ _ (ret yv) _ _ _
     refine vW ⟨rfl,h',es',tk',rfl,hm.toks,hS',hG',λb o e =>?_⟩
     have hbb:=v3 e
     have hb1:b≠s.heap.objs.size:=wg hbb
     have hb2:b≠(s.heap.push (aW #[] 0 (.fresh 0 0 led))).objs.size:=by
      rw[gd];exact wg (xB hbb)
     exact hm.heap b o (by simp only[wj,wc,AV,or_false,not_or];exact ⟨hb1,hb2⟩) (vO _ (vO _ e))
   ·cases r₂ with
    | error e=>exact hr₂
    | ok fl₂ =>
     cases fl₂ with
     | ret r =>
      obtain ⟨rfl,h',es,tk,rfl,htk,hS',hG',hk'⟩:=hr₂
      repeat (any_goals (first | assumption | wp_step))
      exact h _ _ _ htk hS' hG' hk'
     | _=>exact hr₂.elim
  | _=>exact hr.elim
end
open PySem PySem.SetTable PyProof.Rows PySem.Spec
section
variable  {prog:wu}{w:w4}{A:w6}{E:vP->vR->Prop}{s:vR}
set_option maxHeartbeats 3200000 in
theorem call_set_list {κ:Type}{kd:Kd prog w κ}{l:Addr}{items:Array vP}{ks:List κ}{Q:vP->vR->Prop}
  (hh:A.handled=none) (hrm:kd.room A.in1.in1.in1) (hl:s.heap.IsList l items) (hz:items.size=ks.length) (hi:∀(i:Nat) v,items[i]? = some v->∃q,ks[i]? = some q/\kd.El s.heap v q) (hb:items.size<300)
  (h:∀(h':Heap) (es:Array (Int×vP)) (tk:Nat),s.toks<=tk->dE w h' s.heap.objs.size es->Good kd h' es ks →
   (∀b o,s.heap.get? b=some o->h'.get? b=some o)->Q (.ref s.heap.objs.size) { s with heap:=h',toks:=tk }) :
  wA (wI prog w) A (call (.type "set") [.ref l]) Q E s:=by
 obtain ⟨c,tl,hmro⟩:=xY.mro
 have hmade:=xY.made
 have hsub:=xY.sub
 refine DV (Cm ?_)
 show wA _ _ (callAny (.type "set") _) _ _ _
 refine vW ⟨Bn _ (by decide +kernel),x3 CY ?_⟩
 rw[CJ (Cn "set" [.ref l] []) rfl]
 have h1:=xY.notType
 have h2:=xY.canCreate
 have hct:=B2 (.ref l)
 repeat (any_goals (first | assumption | wp_step))
 have gd:(s.heap.push (aW #[] 0 (.fresh 0 0 (!w.params.followText "set-order")))).objs.size=s.heap.objs.size+1:=yw _ _
 refine Am (mW (w:=w) (.ref l) (E:=E) (Q₁:=λobj s₁=>obj = .ref s.heap.objs.size/\s₁={ s with heap:=s.heap.push (aW #[] 0 (.fresh 0 0 (!w.params.followText "set-order"))) }) ⟨rfl,rfl⟩) λr s₁ hr =>?_
 cases r with
 | error e=>exact hr
 | ok fl =>
  cases fl with
  | ret obj =>
   obtain ⟨rfl,rfl⟩:=hr
   generalize hled:(!w.params.followText "set-order")=led at gd ⊢
   have hS:(s.heap.push (aW #[] 0 (.fresh 0 0 led))).get? s.heap.objs.size=some (aW #[] 0 (.fresh 0 0 led)):=v9 _ rfl
   have hT:Shared.TypeIs { s with heap:=s.heap.push (aW #[] 0 (.fresh 0 0 led)) } (.ref s.heap.objs.size) "set" :=⟨_,hS,rfl⟩
   have hli:=xY.init.lookup
   have hbi:=xY.init.bind (.ref s.heap.objs.size)
   repeat (any_goals (first | assumption | wp_step))
   refine Am (Cu (R:=wants (λr s₂=>r = .none/\∃h' es tk,s₂={ s with heap:=h',toks:=tk }/\s.toks<=tk ∧
     dE w h' s.heap.objs.size es/\Good kd h' es ks ∧
     (∀b o,s.heap.get? b=some o->h'.get? b=some o)) E) xY.init.plain Dp (check_set_init_1 hT ?_)) λr₂ s₂ hr₂ =>?_
   ·obtain ⟨ol,hol,hcl,nl,hdl⟩:=id hl
    obtain ⟨ocls,odict,odata,oslots⟩:=ol
    simp only at hcl hdl
    subst hcl;subst hdl
    have hol':(s.heap.push (aW #[] 0 (.fresh 0 0 led))).get? l=some { cls :=.type "list",dict:=odict,data :=.seq items nl,slots:=oslots }:=vO _ hol
    have hsls:=PySem.F.sub_list_set
    have hslf:=PySem.F.sub_list_frozenset
    have hne:(yF "list" == yF "dict")=false:=by decide
    have hl1:(s.heap.push (aW #[] 0 (.fresh 0 0 led))).IsList l items:=⟨_,hol',rfl,nl,rfl⟩
    unfold Builtin.«set.__init__» noKeywords Builtin.Frozenset.updateFrom
    generalize hPI:pyIter=PI
    wp_walk
    subst hPI
    refine AF hl1 ?_
    refine vN (Bw ?_)
    have hlS:l<s.heap.objs.size:=v3 hol
    have hh3:A.in1.in1.in1.handled=none:=by simp[hh]
    have hneI:l≠(s.heap.push (aW #[] 0 (.fresh 0 0 led))).objs.size:=by
     rw[gd];exact wg (xB hlS)
    have hSf:s.heap.objs.size∉[(s.heap.push (aW #[] 0 (.fresh 0 0 led))).objs.size,l]:=by
     rw[gd];simp only[wj,wc,AV,or_false,not_or]
     exact ⟨wg (xO _),Bl hlS⟩
    refine kF (kd:=kd) ((DS hh3 _ l hneI items).toS) hrm (λi s' st =>?hI) s.heap.objs.size hSf wJ ks hz hb (items.size-0) 0 _ #[] (by omega) (wM _)
     ⟨⟨_,v9 _ rfl,rfl,rfl⟩,(hl1.push _)⟩ ?hv (by subst hled;exact gP (vO _ hS)) (Good.nil _) ?hR
    case hI =>
     obtain ⟨o,ho,hc,_⟩:=st.1
     exact ⟨o,ho,by rw[hc];decide⟩
    case hv =>
     intro j v hv
     obtain ⟨q,e,x⟩:=hi j v hv
     exact ⟨q,e,kd.keeps x λb o _ e=>vO _ (vO _ e)⟩
    case hR =>
     intro s' es' hm hS' hG'
     obtain ⟨h',g',d',tk',os'⟩:=s'
     have eg:g'=s.gens:=hm.gens
     have ed:d'=s.drawn:=hm.drawn
     have eo:os'=s.os:=hm.os
     subst eg;subst ed;subst eo
     show wA _ _ _ _ _ _
     refine vW ?_
     show wA _ _ (ret yv) _ _ _
     refine vW ⟨rfl,h',es',tk',rfl,hm.toks,hS',hG',λb o e =>?_⟩
     have hbb:=v3 e
     have hb1:b≠s.heap.objs.size:=wg hbb
     have hb2:b≠(s.heap.push (aW #[] 0 (.fresh 0 0 led))).objs.size:=by
      rw[gd];exact wg (xB hbb)
     exact hm.heap b o (by simp only[wj,wc,AV,or_false,not_or];exact ⟨hb1,hb2⟩) (vO _ (vO _ e))
   ·cases r₂ with
    | error e=>exact hr₂
    | ok fl₂ =>
     cases fl₂ with
     | ret r =>
      obtain ⟨rfl,h',es,tk,rfl,htk,hS',hG',hk'⟩:=hr₂
      repeat (any_goals (first | assumption | wp_step))
      exact h _ _ _ htk hS' hG' hk'
     | _=>exact hr₂.elim
  | _=>exact hr.elim
end
open PySem PySem.SetTable PyProof.Rows Srt
section
variable  {prog:wu}{w:w4}{A:w6}{E:vP->vR->Prop}{s:vR}{O:A4}{key:vP->O.α}
end
end STab
namespace L2
open PySem PySem.Spec PyProof.Rows
section
variable  {X:Cx}
def gh (w:w4)(a:Addr)(ys:List V):HO :=.ext λh=>∃es,STab.dE w h a es/\Vals ys (es.toList.map (·.2))
theorem sg {prog:wu}{w:w4}{H:Hp}{h:Heap}{a:Addr}{ys:List V}{es:Array (Int×vP)}(I:STab.dE w h a es)(r:Vals ys (es.toList.map (·.2))):a6 prog w (upd H a (gh w a ys)) h a (gh w a ys):=by
 refine ⟨⟨es,I,r⟩,?_,λh1 h2 ⟨es',I',r'⟩ k=>⟨es',I'.at k,r'⟩⟩
 obtain ⟨ep,t,ho,_⟩:=I
 exact ⟨_,ho⟩
theorem ow (hh:X.A.handled=none):cc X (.type "set") (λxs H Q=>∃(p:Addr) (ns:List Int),xs=[.ref p]/\(SqL X.K H p (ns.map V.int)\/SqT X.K H p (ns.map V.int))/\ns.length<300 ∧
  ∀(a:Addr) (us:List Int),H a=none->(∀k,k∈us↔k∈ns)->us.Nodup->us.length<=ns.length->Q (.ref a) (upd H a (gh X.w a (us.map V.int)))):=by
 intro pins s σ H xs vs Q I r h
 obtain ⟨p,ns,rfl,hs,hl,q⟩:=h
 obtain ⟨u,rfl,ru⟩:=vals1 r
 cases (show u=wz p from ru)
 have goal:∀(h':Heap) (es:Array (Int×vP)) (tk:Nat),s.toks<=tk->STab.dE X.w h' s.heap.objs.size es->STab.Good (STab.mS X.prog X.w) h' es ns →
   (∀b o,s.heap.get? b=some o->h'.get? b=some o)->EP X pins σ Q (.ref s.heap.objs.size) { s with heap:=h',toks:=tk }:=by
  intro h' es tk _ S G k
  have sh:∀v∈es.toList.map (·.2),∃k t,v=yo k t:=λv hv=>by
   obtain ⟨e,he,rfl⟩:=xc.mp hv
   obtain ⟨k',_,_,t,e'⟩:=G.el e (wV.mp he)
   exact ⟨k',t,e'⟩
  have ru:=jD (iR sh)
  have mem:∀k,k∈(es.toList.map (·.2)).map Srt.intOf↔k∈ns:=λk=>by
   constructor
   ·intro m
    obtain ⟨v,hv,rfl⟩:=xc.mp m
    obtain ⟨e,he,rfl⟩:=xc.mp hv
    obtain ⟨k',mk,_,t,e'⟩:=G.el e (wV.mp he)
    rw[e'];exact mk
   ·intro m
    obtain ⟨e,he,t,e'⟩:=G.all k m
    exact xc.mpr ⟨e.2,xc.mpr ⟨e,wV.mpr he,rfl⟩,by rw[e'];rfl⟩
  have nd:((es.toList.map (·.2)).map Srt.intOf).Nodup:=by
   unfold List.Nodup
   rw[yN,yN]
   refine G.dis.imp_of_mem λ{e e'} m m' x y =>?_
   obtain ⟨k1,_,_,t1,e1⟩:=G.el e (wV.mp m)
   obtain ⟨k2,_,_,t2,e2⟩:=G.el e' (wV.mp m')
   rw[e1,e2] at y
   have y':k1=k2:=y
   subst y'
   exact x k1 ⟨t1,e1⟩ ⟨t2,e2⟩
  refine ⟨.ref s.heap.objs.size,_,I.laid k (vS _) (sg S ru),rfl,q _ _ (I.hok.fresh (vS _)) mem nd (by rw[vM,vM,vX];exact G.len)⟩
 have itm:∀(its:List vP),Vals (ns.map V.int) its->∀(i:Nat) (v:vP),its.toArray[i]? = some v->∃q,ns[i]? = some q/\(STab.mS X.prog X.w).El s.heap v q:=by
  intro its rv i v hv
  have hI:=fk rv
  obtain ⟨t,e⟩:=IntsAre.int_at hI i v (by rw[wW] at hv;exact hv)
  have hlt:i<ns.length:=by
   have:=hI.length
   rw[wW] at hv
   have:=(v7.mp hv).1
   omega
  refine ⟨ns.getD i 0,?_,t,e⟩
  rw[v5,vU hlt]
  rfl
 rcases hs with hs | hs
 ·obtain ⟨its,rv,⟨o,n,e,c,dn,d⟩,z⟩:=I.list hs
  have lz:its.length=ns.length:=by have:=rv.length;rw[vM] at this;exact this.symm
  exact STab.call_set_list (kd:=STab.mS X.prog X.w) (items:=its.toArray) (ks:=ns) hh trivial ⟨o,e,c,n,d⟩ (by simp[lz]) (itm its rv) (by simpa [lz] using hl) goal
 ·obtain ⟨its,rv,⟨o,e,c,n,d⟩,z⟩:=I.tuple hs
  have lz:its.length=ns.length:=by have:=rv.length;rw[vM] at this;exact this.symm
  exact STab.gQ (kd:=STab.mS X.prog X.w) (items:=its.toArray) (ks:=ns) hh trivial ⟨o,e,c,n,d⟩ (by simp[lz]) (itm its rv) (by simpa [lz] using hl) goal
end
open PySem PySem.Spec PyProof.Rows
section
variable  {X:Cx}{w:w4}
theorem eJ (hw:X.w=w)(hh:X.A.handled=none):cc X (.type "set") (λxs H Q=>∃(p:Addr) (ns:List Int),xs=[.ref p]/\(SqL X.K H p (ns.map V.int)\/SqT X.K H p (ns.map V.int))/\ns.length<300 ∧
  ∀(a:Addr) (us:List Int),H a=none->(∀k,k∈us↔k∈ns)->us.Nodup->us.length<=ns.length->Q (.ref a) (upd H a (gh w a (us.map V.int)))):=by
 subst hw
 exact ow hh
end
open PySem PySem.Spec PyProof.Rows
section
variable  {X:Cx}
def tBMT (r:V->List V->Hp->VK->Prop)(to:TE)(t:TA):TE:=λσ H Q=>to σ H λx H1=>(∃p xs,x = .ref p/\H1 p=some (.tup xs))/\t σ H1 λxs H2=>r x xs H2 Q
theorem lM {o e:Expr}{es:List Expr}{to:TE}{t:TA}{name:Str}{apos cpos:Pos}{id:String}{r:V->List V->Hp->VK->Prop}(slot:Slot "tuple" name id)(hty:typeOf (.builtin id)=pure (.type "method_descriptor"))(hm:MtR X id r)(ho:PE X o to)(ha:PA X (e :: es) t)
  (hbase:attributeBase o name X.env (eval o X.env)=eval o X.env:=by rfl)
  (hfew:((Aw cpos (xb (e :: es) X.env)).all (λx => !x.1) && (backToKw cpos (keywordEach [] X.env)).all (λx=>x.1.isSome)
   && decide ((e :: es).length+([]:List Keyword).length+(if ([]:List Keyword).isEmpty then 0 else 1)<30))=true:=by rfl)
  (hline:(apos.endLine == cpos.line)=true:=by rfl) (hs:xb (e :: es) X.env=(false,eval e X.env) :: xb es X.env:=by rfl) (hplain:(Aw cpos (xb es X.env)).any (·.1)=false:=by rfl) :
  PE X (.Call (.Attribute o name apos) (e :: es) [] cpos) (tBMT r to t):=by
 intro pins s σ H Q I h
 refine B5 hbase hfew hline rfl (thn (ho pins s σ H _ I h) λv s1 ⟨x,H1,I1,r1,ty,q1⟩ =>?_)
 obtain ⟨p,xs,rfl,hp⟩:=ty
 cases (show v=wz p from r1)
 obtain ⟨_,its,_,ob,e1,⟨c1,d1⟩,n,s1'⟩:=(show a6 X.prog X.w H1 s1.heap p (.tup xs) from I1.hok p _ hp)
 refine ⟨"tuple",id,PySem.F.plainAttrs_tuple,slot,hty,⟨ob,e1,c1⟩,λa e=>by cases e;exact ⟨ob,e1,d1⟩,?_⟩
 have hA:=ha cpos pins s1 σ H1 _ I1 q1
 rw[hs] at hA ⊢
 refine y6 (by show (false || (Aw cpos (xb es X.env)).any (·.1))=false;rw[hplain] <;> rfl) (zW ?_)
 exact thn hA λus s2 ⟨vs,H2,I2,r2,q2⟩=>hm pins s2 σ H2 (.ref p) vs _ us Q I2 rfl r2 q2
theorem ox {A:w6}{s:vR}{k:Int}{t:Tok}{its:List vP}{ns:List Int}(hi:yY its ns):∀y,y∈its.toArray->Cr A s y (.int k t) (isInt k y):=λy hy =>
 (eq_isInt k t hi y (by simpa using hy)).at _ _
theorem iZ:∀{ns:List Int} {xs:List vP} {prog:wu} {w:w4},yY xs ns->ItemsAre (intKind prog w) ns xs
 | _,_,_,_,.nil =>.nil
 | _,_,_,_,.cons n t r =>.cons (Cq _ _ _ _) (iZ r)
theorem Inv.tkA {pins:List (Addr×Obj)}{σ:St}{H:Hp}{s:vR}(I:Inv X pins σ H s){b:Addr}{ns:List Int}(h:SqT X.K H b (ns.map V.int))(prog:wu)(w:w4):IsTupleKey (intKind prog w) s.heap ns b:=by
 obtain ⟨its,r,⟨o,e,c,n,d⟩,_⟩:=I.tuple h
 exact ⟨o,_,n,e,c,d,iZ (by simpa using intsAre_of r)⟩
theorem Inv.eqT {pins:List (Addr×Obj)}{σ:St}{H:Hp}{s:vR}(I:Inv X pins σ H s){A:w6}(hu:A.units<cLine){a b:Addr}{ns ms:List Int}(h1:SqT X.K H a (ns.map V.int))(h2:SqT X.K H b (ms.map V.int)):Cr A s (.ref a) (.ref b) (decide (ns=ms)) :=
 λprog w E Q q=>wpAny_eqBool_tuple hu (I.tkA h1 prog w) (I.tkA h2 prog w) q
theorem eL:∀{ps:List (Addr×List Int)} {us:List vP},Vals (ps.map λx=>V.ref x.1) us->us=ps.map λx=>wz x.1
 | [],_,r=>by cases r;rfl
 | p :: ps,_,r=>by
  cases r with
  | cons h t=>rw[wQ, <- eL t,show _=wz p.1 from h]
noncomputable def jH (ts:List (Addr×List Int))(m:List Int):vP->Bool:=λv=>decide (∃t∈ts,v = .ref t.1/\t.2=m)
theorem i3 {pins:List (Addr×Obj)}{σ:St}{H:Hp}{s:vR}(I:Inv X pins σ H s){ts:List (Addr×List Int)}(ht:∀t∈ts,SqT X.K H t.1 (t.2.map V.int)){m:List Int}{t:Addr×List Int}(hm:t∈ts):jH ts m (.ref t.1)=decide (t.2=m):=by
 unfold jH
 by_cases e:t.2=m
 ·rw[decide_eq_true e,decide_eq_true ⟨t,hm,rfl,e⟩]
 ·rw[decide_eq_false e,decide_eq_false]
  rintro ⟨t',m',e1,e2⟩
  injection e1 with e1
  have:=I.fI (ht t hm) (by rw[e1];exact ht t' m')
  have inj:Function.Injective V.int:=λa b h=>by injection h
  have:t.2=t'.2:=(List.map_inj_right (λx y h=>inj h)).mp this
  exact e (this.trans e2)
theorem gS {pins:List (Addr×Obj)}{σ:St}{H:Hp}{s:vR}(I:Inv X pins σ H s){ts:List (Addr×List Int)}(ht:∀t∈ts,SqT X.K H t.1 (t.2.map V.int)){m:List Int}:∀us:List (Addr×List Int),(∀t∈us,t∈ts)->(us.map λt=>wz t.1).countP (jH ts m)=(us.map (·.2)).count m
 | [],_=>rfl
 | u :: us,h=>by
  rw[wQ,wQ,List.countP_cons,List.count_cons,gS I ht us (λt hm=>h t (wD _ hm)),i3 I ht (h u wJ)]
  by_cases e:u.2=m
  ·rw[decide_eq_true e,e];simp
  ·rw[decide_eq_false e];simp[e]
theorem gW (hu:X.A.units+8<cLine):MtR X "tuple.count" (λx vs H Q=>∃(p b:Addr) (ts:List (Addr×List Int)) (m:List Int),x = .ref p/\vs=[.ref b]/\H p=some (.tup (ts.map λt =>.ref t.1))/\(∀t∈ts,H t.1=some (.tup (t.2.map V.int)))/\H b=some (.tup (m.map V.int))/\Q (.int ((ts.map (·.2)).count m:Nat)) H):=by
 intro pins s σ H x vs v us Q I rx rv h
 obtain ⟨p,b,ts,m,rfl,rfl,hp,ht,hb,q⟩:=h
 cases rx
 obtain ⟨u,rfl,ru⟩:=vals1 rv
 cases (show u=wz b from ru)
 have ht':∀t∈ts,SqT X.K H t.1 (t.2.map V.int):=λt hm=>SqT.of (ht t hm)
 obtain ⟨z,its,r,ob,e1,⟨c1,d1⟩,n,s1⟩:=(show a6 X.prog X.w H s.heap p (.tup _) from I.hok p _ hp)
 have ei:=eL r
 obtain ⟨cls,dd,data,sl⟩:=ob
 simp only at c1 s1
 subst c1 s1
 refine AH Ak ⟨_,e1,rfl⟩ PySem.F.entry_tuple_count (PySem.F.args_tuple_count_2 _ _) (SeqAt.tuple_countAt p its.toArray n dd sl (.ref b) (jH ts m)) ⟨e1,λy hy =>?_,?_⟩
 ·have hy':y∈its:=by simpa using hy
  rw[ei] at hy'
  obtain ⟨t,hm,rfl⟩:=xc.mp hy'
  rw[i3 I ht' hm]
  exact I.eqT (by show X.A.units+1<cLine;omega) (ht' t hm) (SqT.of hb)
 ·rw[show its.toArray.toList=its from rfl,ei,gS I ht' ts (λt h=>h)]
  exact ⟨.int _,H,I.tok _,⟨_,rfl⟩,q⟩
theorem gc:∀{its:List vP} {ns:List Int},yY its ns->∃xs:List (Int×Tok),its=xs.map (λp=>yo p.1 p.2)/\xs.map (·.1)=ns
 | _,_,.nil=>⟨[],rfl,rfl⟩
 | _,_,.cons n t r=>by
  obtain ⟨xs,e1,e2⟩:=gc r
  exact ⟨(n,t) :: xs,by rw[wQ, <- e1],by rw[wQ,e2]⟩
end
end L2
namespace HT
open PySem PySem.Spec PyProof.Rows
section
variable  {prog:wu}{w:w4}{A:w6}{E:vP->vR->Prop}{s:vR}
theorem eB {t sl:Addr}{items:Array vP}{vl vu:vP}{lo hi:Option Int}{Q:vP->vR->Prop}(ht:IsTup s.heap t items)(hs:s.heap.IsSliceOf sl vl vu .none)(pl:IsPart vl lo)(pu:IsPart vu hi)
  (hw:sIx items.size 0 lo=0/\sIx items.size items.size hi=items.size) (h:Q (.ref t) s):wA (wI prog w) A (getItem (.ref t) (.ref sl)) Q E s:=by
 obtain ⟨os,hos,hcs,hds⟩:=id hs
 have hTs:s.TypeIs (.ref sl) "slice" :=⟨os,hos,hcs⟩
 unfold getItem
 try with_reducible refine yx ?_
 first | refine vN (vW ?_) | skip
 refine vN (C5 ht.typeIs (by decide) ?_)
 refine vN (x6 (name:=Str.ofString "__getitem__") ht.typeIs xg
  (xP xg ht.typeIs entry_tuple_getitem ?_ (CM _ _)))
 show wA _ _ (Builtin.Tuple.tupleItemsOf (.ref t) >>= _) _ _ s
 refine vN (tupleItemsOf_ ht ?_)
 refine vN (zN hTs ?_)
 rw[if_pos (by decide)]
 refine vN (cY hs pl pu ?_)
 show wA _ _ (if (((sIx items.size 0 lo:Nat):Int) == 0 && (1:Int) == 1 && (sIx items.size items.size hi-sIx items.size 0 lo) == items.size)=true then _ else _) _ _ s
 rw[hw.1,hw.2,if_pos (by simp)]
 unfold Builtin.Tuple.tupleIsExact
 refine vN (vN (zN ht.typeIs (vW ?_)))
 rw[if_pos (by decide)]
 exact vN (zd (vW ⟨_,rfl,vW h⟩))
end
end HT
namespace L2
open PySem PySem.Spec PyProof.Rows
section
variable  {X:Cx}
theorem si:SlR X (λx lo hi H Q=>∃a xs,x = .ref a/\SqT X.K H a xs/\((HT.sIx xs.length 0 lo=0/\HT.sIx xs.length xs.length hi=xs.length)->Q (.ref a) H) ∧
  (¬ (HT.sIx xs.length 0 lo=0/\HT.sIx xs.length xs.length hi=xs.length)->∀p,H p=none->Q (.ref p) (upd H p (.tup (cJ xs lo hi))))):=by
 intro pins s σ H x v vl vu lo hi sl Q I rx hs pl pu h
 obtain ⟨a,xs,rfl,hx,q1,q2⟩:=h
 by_cases hw:HT.sIx xs.length 0 lo=0/\HT.sIx xs.length xs.length hi=xs.length
 ·cases rx
  obtain ⟨its,r,ht,hz⟩:=I.tuple hx
  have hlen:its.toArray.size=xs.length:=by rw[vT];exact r.length.symm
  refine ⟨"tuple",_,xg.lookup,ht.typeIs,?_⟩
  exact HT.eB ht hs pl pu (by rw[hlen];exact hw) ⟨.ref a,H,I,rfl,q1 hw⟩
 ·exact t9 pins s σ H _ v vl vu lo hi sl Q I rx hs pl pu ⟨a,xs,rfl,hx,hw,q2 hw⟩
end
section
variable  {prog:wu}{w:w4}{A:w6}{E:vP->vR->Prop}{s:vR}
end
section
variable  {X:Cx}
end
open PySem PySem.Spec PyProof.Rows
section
variable  {κ:Type}[DecidableEq κ]
def bY (kvs:List (κ×V))(k:κ):Option V:=(kvs.find? λkv=>decide (kv.1=k)).map (·.2)
def putK (kvs:List (κ×V))(k:κ)(v:V):List (κ×V) :=
 if (kvs.any λkv=>decide (kv.1=k))=true then kvs.map (λkv=>if kv.1=k then (kv.1,v) else kv) else kvs++[(k,v)]
theorem fu {p:κ×V}{r:List (κ×V)}{k:κ}(e:p.1=k):bY (p :: r) k=some p.2:=by simp[bY,zL,e]
theorem fw {p:κ×V}{r:List (κ×V)}{k:κ}(e:¬ p.1=k):bY (p :: r) k=bY r k:=by simp[bY,zL,e]
theorem fA (k:κ):∀kvs:List (κ×V),(kvs.any λkv=>decide (kv.1=k))=(bY kvs k).isSome
 | []=>rfl
 | p :: r=>by
  rw[Ap]
  by_cases e:p.1=k
  ·simp only[fu e,decide_eq_true e,Bool.true_or,Option.isSome_some]
  ·rw[fw e,decide_eq_false e,DY];exact fA k r
theorem dJ (kvs:List (κ×V))(k:κ)(v:V):(putK kvs k v).length<=kvs.length+1:=by
 unfold putK
 split
 ·rw[vM];omega
 ·rw[vQ,wO,yT];omega
theorem qg {kvs:List (κ×V)}{k:κ}(v:V)(h:bY kvs k=none):putK kvs k v=kvs++[(k,v)]:=by
 unfold putK
 rw[fA,h]
 exact if_neg (by decide)
theorem fH.fM {o:Option V}{u:Option vP}(r:fH o u):o.isSome=u.isSome:=by
 cases o with
 | none=>cases u with
  | none=>rfl
  | some _=>exact (show False from r).elim
 | some _=>cases u with
  | none=>exact (show False from r).elim
  | some _=>rfl
theorem fH.getD {o:Option V}{u:Option vP}{d:V}{d':vP}(r:fH o u)(rd:RelV d d'):RelV (o.getD d) (u.getD d'):=by
 cases o with
 | none=>cases u with
  | none=>exact rd
  | some _=>exact (show False from r).elim
 | some _=>cases u with
  | none=>exact (show False from r).elim
  | some _=>exact r
theorem KV.val {kvs:List (κ×V)}{vs:List (κ×vP)}(r:KV kvs vs)(k:κ):fH (bY kvs k) (valueAt vs k):=by
 unfold KV at r
 induction r with
 | nil=>exact True.intro
 | @cons p q ps qs h t ih =>
  obtain ⟨h1,h2⟩:=h
  by_cases e:p.1=k
  ·have e':q.1=k:=h1.symm.trans e
   have b:valueAt (q :: qs) k=some q.2:=by simp[valueAt,zL,e']
   rw[fu e,b];exact h2
  ·have e':¬ q.1=k:=λz=>e (h1.trans z)
   have b:valueAt (q :: qs) k=valueAt qs k:=by simp[valueAt,zL,e']
   rw[fw e,b];exact ih
theorem KV.any {kvs:List (κ×V)}{vs:List (κ×vP)}(r:KV kvs vs)(k:κ):(kvs.any λkv=>decide (kv.1=k))=vs.any λkv=>decide (kv.1=k):=by
 unfold KV at r
 induction r with
 | nil=>rfl
 | cons h t ih=>rw[Ap,Ap,ih,h.1]
theorem KV.uF {kvs:List (κ×V)}{vs:List (κ×vP)}(r:KV kvs vs)(k:κ){y:V}{u:vP}(ry:RelV y u) :
  KV (kvs.map λkv=>if kv.1=k then (kv.1,y) else kv) (vs.map λkv=>if kv.1=k then (kv.1,u) else kv):=by
 unfold KV at r ⊢
 induction r with
 | nil=>exact .nil
 | @cons p q ps qs h t ih =>
  rw[wQ,wQ]
  refine .cons ?_ ih
  obtain ⟨h1,h2⟩:=h
  by_cases e:p.1=k
  ·rw[if_pos e,if_pos (h1.symm.trans e)];exact ⟨h1,ry⟩
  ·rw[if_neg e,if_neg (λz=>e (h1.trans z))];exact ⟨h1,h2⟩
theorem KV.put {kvs:List (κ×V)}{vs:List (κ×vP)}(r:KV kvs vs)(k:κ){y:V}{u:vP}(ry:RelV y u):KV (putK kvs k y) (stored vs k u):=by
 unfold putK stored
 rw[r.any k]
 by_cases e:(vs.any λkv=>decide (kv.1=k))=true
 ·rw[if_pos e,if_pos e];exact r.uF k ry
 ·rw[if_neg e,if_neg e];exact Ea r ⟨rfl,ry⟩
theorem KV.length {kvs:List (κ×V)}{vs:List (κ×vP)}(r:KV kvs vs):kvs.length=vs.length:=CF r
end
theorem i4 {P:wu}{w:w4}{k:Key}{u:vP}(r:RelV (kV k) u):(bq P w).is k u=true:=by
 cases k with
 | inl i=>obtain ⟨t,e⟩:=(show ∃t,u=yo i t from r);subst e;exact jX P w i t
 | inr x=>obtain ⟨t,e⟩:=(show ∃t,u=Value.str x t from r);subst e;exact jY P w x t
theorem i5 {P:wu}{w:w4}:∀{ks:List Key} {us:List vP},Vals (ks.map kV) us->ItemsAre (bq P w) ks us
 | [],_,r=>by rw[C7] at r;cases r;exact .nil
 | k :: ks,_,r=>by
  rw[wQ] at r
  cases r with
  | cons h t=>exact .cons (i4 h) (i5 t)
abbrev KT (H:Hp):List (List Key×V)->List (List Key×Addr×vP)->Prop:=Paired λp q=>p.1=q.1/\H q.2.1=some (.tup (p.1.map kV))/\RelV p.2 q.2.2
theorem KT.val {H:Hp}{kvs:List (List Key×V)}{xs:List (List Key×Addr×vP)}(r:KT H kvs xs)(k:List Key):fH (bY kvs k) ((atKey xs k).map (·.2)):=by
 induction r with
 | nil=>exact True.intro
 | @cons p q ps qs h t ih =>
  obtain ⟨h1,_,h2⟩:=h
  by_cases e:p.1=k
  ·have e':q.1=k:=h1.symm.trans e
   have b:atKey (q :: qs) k=some q.2:=by simp[atKey,zL,e']
   rw[fu e,b];exact h2
  ·have e':¬ q.1=k:=λz=>e (h1.trans z)
   have b:atKey (q :: qs) k=atKey qs k:=by simp[atKey,zL,e']
   rw[fw e,b];exact ih
theorem KT.uF {H:Hp}{kvs:List (List Key×V)}{xs:List (List Key×Addr×vP)}(r:KT H kvs xs)(k:List Key){y:V}{u:vP}(ry:RelV y u) :
  KT H (kvs.map λkv=>if kv.1=k then (kv.1,y) else kv) (xs.map (putAt k u)):=by
 induction r with
 | nil=>exact .nil
 | @cons p q ps qs h t ih =>
  rw[wQ,wQ]
  refine .cons ?_ ih
  obtain ⟨h1,h2,h3⟩:=h
  unfold putAt
  by_cases e:p.1=k
  ·rw[if_pos e,if_pos (h1.symm.trans e)];exact ⟨h1,h2,ry⟩
  ·rw[if_neg e,if_neg (λz=>e (h1.trans z))];exact ⟨h1,h2,h3⟩
theorem KT.put {H:Hp}{kvs:List (List Key×V)}{xs:List (List Key×Addr×vP)}(r:KT H kvs xs)(k:List Key){b:Addr}{y:V}{u:vP}(hb:H b=some (.tup (k.map kV)))(ry:RelV y u) :
  KT H (putK kvs k y) (storedH xs k b u):=by
 have e:(kvs.any λkv=>decide (kv.1=k))=(atKey xs k).isSome:=by
  rw[fA,(r.val k).fM,CZ]
 unfold putK storedH
 rw[e]
 by_cases q:(atKey xs k).isSome=true
 ·rw[if_pos q,if_pos q];exact r.uF k ry
 ·rw[if_neg q,if_neg q];exact Ea r ⟨rfl,hb,ry⟩
theorem KT.keeps {H H':Hp}{kvs:List (List Key×V)}{xs:List (List Key×Addr×vP)}(r:KT H kvs xs)(ht:∀b ys,H b=some (.tup ys)->H' b=some (.tup ys)):KT H' kvs xs :=
 Paired.tP r λ_ _ z=>⟨z.1,ht _ _ z.2.1,z.2.2⟩
section
variable  {P:wu}{w:w4}{H:Hp}{h:Heap}{a:Addr}
theorem tj {u:HO}(ok:HOk P w H h)(e:Rd H a u):a6 P w H h a u:=e.ok ok
theorem gX {kvs:List (Key×V)}(ok:HOk P w H h)(e:Rd H a (.dK kvs)):kvs.length<=vZ/\(a == sysModules)=false/\∃vs,KV kvs vs/\h.DictOf (bq P w) a vs :=
 show a6 P w H h a (.dK kvs) from tj ok e
theorem tm {kvs:List (Key×V)}(ok:HOk P w H h)(e:H a=some (.dK kvs)):kvs.length<=vZ/\(a == sysModules)=false/\∃vs,KV kvs vs/\h.DictOf (bq P w) a vs:=gX ok (.inl e)
theorem gY {ks:List Key}(ok:HOk P w H h)(e:H a=some (.tup (ks.map kV))):(tupleKind (bq P w)).is h ks a:=by
 obtain ⟨_,its,r,o,h1,h2,n,h3⟩:=(show a6 P w H h a (.tup (ks.map kV)) from ok a _ e)
 exact ⟨o,its.toArray,n,h1,h2.1,h3,by simpa using i5 r⟩
theorem i6 {kvs:List (List Key×V)}(ok:HOk P w H h)(e:Rd H a (.dT kvs)):kvs.length<=vZ/\(a == sysModules)=false ∧
  ∃xs,KT H kvs xs/\h.DictOfH (tupleKind (bq P w)) a xs:=by
 obtain ⟨z,y,xs,r,o,es,ep,h1,h2,h3,h4,h5⟩:=(show a6 P w H h a (.dT kvs) from tj ok e)
 refine ⟨z,y,xs,r,o,es,ep,h1,h2,h3,h4,λx hx =>?_,h5⟩
 have all:∀{l:List (List Key×V)} {m:List (List Key×Addr×vP)},KT H l m->∀x∈m,(tupleKind (bq P w)).is h x.1 x.2.1:=by
  intro l m q
  induction q with
  | nil=>intro x hx;exact nomatch hx
  | @cons p q ps qs hq t ih =>
   intro x hx
   rcases wj.mp hx with e | hx
   ·subst e
    exact gY ok (by rw[<- hq.1];exact hq.2.1)
   ·exact ih x hx
 exact all r x hx
theorem vx {kvs:List (List Key×V)}(ok:HOk P w H h)(e:H a=some (.dT kvs)):kvs.length<=vZ/\(a == sysModules)=false ∧
  ∃xs,KT H kvs xs/\h.DictOfH (tupleKind (bq P w)) a xs:=i6 ok (.inl e)
end
def eM (H:Hp)(a:Addr)(y:V)(r:Option V):Prop :=
 (∃kvs k,Rd H a (.dK kvs)/\y=kV k/\r=bY kvs k)\/∃kvs k b,Rd H a (.dT kvs)/\y = .ref b/\H b=some (.tup (k.map kV))/\r=bY kvs k
def oy (H:Hp)(a:Addr)(y v:V)(H':Hp):Prop :=
 (∃kvs k,H a=some (.dK kvs)/\y=kV k/\kvs.length<vZ/\H'=upd H a (.dK (putK kvs k v))) ∨
 ∃kvs k b,H a=some (.dT kvs)/\y = .ref b/\H b=some (.tup (k.map kV))/\kvs.length<vZ/\H'=upd H a (.dT (putK kvs k v))
theorem eM.k {H:Hp}{a:Addr}{kvs:List (Key×V)}{k:Key}(e:H a=some (.dK kvs)):eM H a (kV k) (bY kvs k) :=.inl ⟨kvs,k,.inl e,rfl,rfl⟩
theorem oy.k {H:Hp}{a:Addr}{kvs:List (Key×V)}{k:Key}{v:V}(e:H a=some (.dK kvs))(hl:kvs.length<vZ):oy H a (kV k) v (upd H a (.dK (putK kvs k v))) :=.inl ⟨kvs,k,e,rfl,hl,rfl⟩
section
variable  {X:Cx}{pins:List (Addr×Obj)}{σ:St}{H:Hp}{s:vR}{a:Addr}{y v:V}{u r:vP}{o:Option V}{A:w6}{E:vP->vR->Prop}
theorem Inv.big (I:Inv X pins σ H s):sysModules<s.heap.objs.size:=by
 have h:w5<s.heap.objs.size:=(I.mod.glob.keeps I.bk).lt
 exact Nat.lt_trans (by decide) h
theorem oA {Q:vP->vR->Prop}(hu:A.units+1<cLine)(I:Inv X pins σ H s)(g:eM H a y (some v))(ry:RelV y u)(h:∀w' s',Inv X pins σ H s'->RelV v w'->Q w' s') :
  wA (wI X.prog X.w) A (getItem (.ref a) u) Q E s:=by
 rcases g with ⟨kvs,k,e,ey,l⟩ | ⟨kvs,k,b,e,ey,eb,l⟩
 ·subst ey
  obtain ⟨z,hd,vs,rel,dd⟩:=gX I.hok e
  obtain ⟨w',hw,rw'⟩:=fH.some_of (v:=v) (o:=valueAt vs k) (by rw[l];exact rel.val k)
  exact wpAny_getItem_of (i4 ry) dd.mapOf hw (h w' _ (I.tok _) rw')
 ·subst ey
  cases (show u=wz b from ry)
  obtain ⟨z,hd,xs,rel,dd⟩:=i6 I.hok e
  obtain ⟨w',hw,rw'⟩:=fH.some_of (v:=v) (o:=(atKey xs k).map (·.2)) (by rw[l];exact rel.val k)
  obtain ⟨p,hp,hp2⟩:=Option.map_eq_some_iff.mp hw
  refine wpAny_getItem_heap (Av hu) (gY I.hok eb) dd hp ?_
  rw[hp2]
  exact h w' _ (I.tok _) rw'
theorem d_in {Q:vP->vR->Prop}(hu:A.units+1<cLine)(I:Inv X pins σ H s)(g:eM H a y o)(ry:RelV y u)(h:∀s',Inv X pins σ H s'->Q (.bool o.isSome) s') :
  wA (wI X.prog X.w) A (yp .In u (.ref a)) Q E s:=by
 rcases g with ⟨kvs,k,e,ey,l⟩ | ⟨kvs,k,b,e,ey,eb,l⟩
 ·subst ey
  obtain ⟨z,hd,vs,rel,dd⟩:=gX I.hok e
  refine wpAny_in_of (i4 ry) hd dd.mapOf ?_
  rw[<- (rel.val k).fM, <- l]
  exact h _ (I.tok _)
 ·subst ey
  cases (show u=wz b from ry)
  obtain ⟨z,hd,xs,rel,dd⟩:=i6 I.hok e
  refine wpAny_in_heap (Av hu) (gY I.hok eb) hd dd ?_
  have q:=(rel.val k).fM
  rw[CZ] at q
  rw[<- q, <- l]
  exact h _ (I.tok _)
theorem jI {h':Heap}{t':Nat}{ob:HO}(I:Inv X pins σ H s)(mu:Mut (H a))(hs:Heap.SameBut a s.heap h')(he:∃q,h'.get? a=some q)(new:a6 X.prog X.w (upd H a ob) h' a ob) :
  Inv X pins σ (upd H a ob) { s with heap:=h',toks:=t' } :=
 I.write (x:=a) (e:=a) mu (.inl rfl) (λb q hb z=>(hs.2 b hb).trans z) he new
theorem qh {P:wu}{w:w4}{H':Hp}{h':Heap}{kvs:List (Key×V)}{vs:List (Key×vP)}(z:kvs.length<=vZ)(hd:(a == sysModules)=false)(rel:KV kvs vs)(dd:h'.DictOf (bq P w) a vs) :
  a6 P w H' h' a (.dK kvs):=⟨z,hd,vs,rel,dd⟩
theorem oB {H':Hp}{Q:Unit->vR->Prop}(hu:A.units+1<cLine)(I:Inv X pins σ H s)(g:oy H a y v H')(ry:RelV y u)(rv:RelV v r)(h:∀s',Inv X pins σ H' s'->Q () s') :
  wA (wI X.prog X.w) A (setItem (.ref a) u r) Q E s:=by
 rcases g with ⟨kvs,k,e,ey,l,eH⟩ | ⟨kvs,k,b,e,ey,eb,l,eH⟩
 ·subst ey eH
  obtain ⟨z,hd,vs,rel,dd⟩:=tm I.hok e
  have hz:vs.length<=vZ:=by rw[<- rel.length];exact z
  have hl:(putK kvs k v).length<=vZ:=by have:=dJ kvs k v;omega
  refine wpAny_setItem_pairs (hsz:=hz) (i4 ry) dd λh' dd' hs=>h _ ?_
  have he:∃q,h'.get? a=some q:=let ⟨q,_,_,hq,_⟩:=dd';⟨q,hq⟩
  exact jI I (by rw[e];exact True.intro) hs he (qh hl hd (rel.put k rv) dd')
 ·subst ey eH
  cases (show u=wz b from ry)
  obtain ⟨z,hd,xs,rel,dd⟩:=vx I.hok e
  have hz:xs.length<=vZ:=by rw[<- CF rel];exact z
  have hl:(putK kvs k v).length<=vZ:=by have:=dJ kvs k v;omega
  refine wpAny_setItem_heap (hsz:=hz) (Av hu) (gY I.hok eb) dd λh' dd' hs=>h _ ?_
  obtain ⟨q,es,ep,hq,h2,h3,h4,_,h5⟩:=dd'
  refine jI I (by rw[e];exact True.intro) hs ⟨q,hq⟩ ⟨hl,hd,_,(rel.put k eb rv).keeps λc ys ec =>?_,q,es,ep,hq,h2,h3,h4,h5⟩
  rw[aA (ck ec e (λz=>nomatch z))]
  exact ec
end
section
variable  {X:Cx}{pins:List (Addr×Obj)}{σ:St}{H:Hp}{s:vR}{a:Addr}{kvs:List (Key×V)}{k:Key}{u:vP}{A:w6}{E:vP->vR->Prop}
end
def vy (i:Expr):Prop:=∀ov iv,subscripted i false ov iv=operate [ov,iv] (getItem ov iv)
theorem sj {prog:wu}{w:w4}{A:w6}{E:vP->vR->Prop}{s:vR}{env:Env}{value slice:Expr}{pos:Pos}{T id:String}{Q:vP->vR->Prop}
  (hl:typeLookup (.type T) "__getitem__" = pure (some (.builtin id))) (hs:vy slice)
  (h:wA (wI prog w) A (eval value env) (λo s₁=>wA (wI prog w) A (eval slice env) (λi s₂=>s₂.TypeIs o T/\wA (wI prog w) A (getItem o i) Q E s₂) E s₁) E s) :
  wA (wI prog w) A (eval (.Subscript value slice pos) env) Q E s:=by
 refine Subscript_ (yt h (λo s₁ h₁=>yt h₁ (λi s₂ h₂ =>?_) λ_ _ x=>x) λ_ _ x=>x)
 obtain ⟨hT,h₂⟩:=h₂
 unfold subscriptTail
 refine vN ?_
 rw[getitemInPython_of_ne hT.not_modules]
 refine vN (yW hT hl ?_)
 have fin:wA (wI prog w) A (subscripted slice false o i) (λr s₃=>wA (wI prog w) A (letTemporaryGo value o r >>= λ_=>pure r) Q E s₃) E s₂:=by
  rw[hs o i]
  exact wpAny_operating (yt h₂ (λr s₃ h₃=>vN (wpAny_letTemporaryGo (vW h₃))) λ_ _ x=>x)
 first
  | exact vW (vN fin)
  | exact vN (vW (vN fin))
  | exact vN fin
theorem kG {X:Cx}{pins:List (Addr×Obj)}{σ:St}{H:Hp}{s:vR}{a:Addr}{y:V}{o:Option V}(I:Inv X pins σ H s)(g:eM H a y o):s.TypeIs (.ref a) "dict" := by
 rcases g with ⟨kvs,k,e,_,_⟩ | ⟨kvs,k,b,e,_,_,_⟩
 ·obtain ⟨_,_,vs,_,dd⟩:=gX I.hok e
  exact dd.typeIs
 ·obtain ⟨_,_,xs,_,dd⟩:=i6 I.hok e
  exact dd.typeIs
def vz (td ty:TE):TE:=λσ H Q=>td σ H λx H1=>ty σ H1 λy H2=>∃a v,x = .ref a/\eM H2 a y (some v)/\Q v H2
def tDIn (ty td:TE):TE:=λσ H Q=>ty σ H λy H1=>td σ H1 λx H2=>∃a o,x = .ref a/\eM H2 a y o/\Q (.bl o.isSome) H2
def vA (td ty tv:TE):TS:=λD σ H=>tv σ H λv H1=>td σ H1 λx H2=>ty σ H2 λy H3=>∃a H4,x = .ref a/\oy H3 a y v H4/\D.nx σ H4
section
variable  {X:Cx}{o i e value:Expr}{pos pos' tpos:Pos}{td ty tv:TE}
theorem cD (hu:X.A.units+1<cLine)(ho:PE X o td)(hi:PE X i ty)(hs:vy i):PE X (.Subscript o i pos) (vz td ty):=by
 intro pins s σ H Q I h
 refine sj PySem.F.slot_dict_getitem.lookup hs (thn (ho pins s σ H _ I h) λu s1 ⟨x,H1,I1,rx,q1⟩=>thn (hi pins s1 σ H1 _ I1 q1) λiv s2 ⟨y,H2,I2,ry,a,v,ex,g,q2⟩ =>?_)
 subst ex
 obtain rfl:u=wz a:=rx
 exact ⟨kG I2 g,oA hu I2 g ry λw' s3 I3 rw'=>⟨v,H2,I3,rw',q2⟩⟩
theorem uG (hu:X.A.units+1<cLine)(hi:PE X i ty)(ho:PE X o td):PC X .In i o (tDIn ty td):=by
 intro pins s σ H Q I h
 refine thn (hi pins s σ H _ I h) λiv s1 ⟨y,H1,I1,ry,q1⟩=>thn (ho pins s1 σ H1 _ I1 q1) λu s2 ⟨x,H2,I2,rx,a,ov,ex,g,q2⟩ =>?_
 subst ex
 obtain rfl:u=wz a:=rx
 exact d_in hu I2 g ry λs3 I3=>⟨.bl ov.isSome,H2,I3,rfl,q2⟩
theorem sk (hu:X.A.units+1<cLine)(ho:PE X o td)(hi:PE X i ty)(hv:PE X value tv)(hs:swapsWith value (some (.Subscript o i pos')) pos.line X.env=pure false) :
  PS X (.Assign [.Subscript o i pos'] value pos) (vA td ty tv):=by
 intro pins s σ H D I h
 refine wpAny_Assign_Subscript (thn (hv pins s σ H _ I h) λr s1 ⟨v,H1,I1,rv,q1⟩=>thn (ho pins s1 σ H1 _ I1 q1) λu s2 ⟨x,H2,I2,rx,q2⟩=>thn (hi pins s2 σ H2 _ I2 q2) λiv s3 ⟨y,H3,I3,ry,a,H4,ex,g,q3⟩ =>?_) hs
 subst ex
 obtain rfl:u=wz a:=rx
 exact oB hu I3 g ry rv λs4 I4=>⟨σ,H4,I4,q3⟩
end
theorem qi {P:wu}{w:w4}{H:Hp}(h:Heap)(hb:sysModules<h.objs.size):a6 P w H (h.push { cls :=.type "dict",data :=.dict #[] }) h.objs.size (.dK []) :=
 ⟨wM _,beq_eq_false_iff_ne.mpr (xF (wg hb)),[],.nil,Heap.DictOf.new h⟩
def qj:TE:=λ_ H Q=>∀p,H p=none->Q (.ref p) (upd H p (.dK []))
section
variable  {X:Cx}{pos:Pos}
theorem gZ:PE X (.Dict [] [] pos) qj:=λpins s σ H Q I h =>
 wpAny_Dict_empty ⟨.ref s.heap.objs.size,_,I.laid (a:=s.heap.objs.size) (o :=.dK []) (t':=s.toks) (λ_ _ q=>vO _ q) (vS _) (qi s.heap I.big),rfl,h _ (I.hok.fresh (vS _))⟩
end
structure M2 (X:Cx)(o:Expr)(m:Str)(apos:Pos)(e f:Expr)(cpos:Pos):Prop where
 base:attributeBase o m X.env (eval o X.env)=eval o X.env
 few:((Aw cpos (xb [e,f] X.env)).all (λx => !x.1) && (backToKw cpos (keywordEach [] X.env)).all (λx=>x.1.isSome)
  && decide (([e,f]:List Expr).length+([]:List Keyword).length+(if ([]:List Keyword).isEmpty then 0 else 1)<30))=true
 line:(apos.endLine == cpos.line)=true
 trees:Aw cpos (xb [e,f] X.env)=[(false,eval e X.env),(false,eval f X.env)]
def IsD (H:Hp)(a:Addr):Prop:=(∃kvs,Rd H a (.dK kvs))\/∃kvs,Rd H a (.dT kvs)
theorem qk {X:Cx}{pins:List (Addr×Obj)}{σ:St}{H:Hp}{s:vR}{a:Addr}(I:Inv X pins σ H s)(d:IsD H a) :
  s.TypeIs (.ref a) "dict" /\ (∀b,wz a = .ref b->∃ob,s.heap.get? b=some ob/\ob.dict=none)/\(a == sysModules)=false:=by
 rcases d with ⟨kvs,e⟩ | ⟨kvs,e⟩
 ·obtain ⟨_,hd,vs,_,dd⟩:=gX I.hok e
  refine ⟨dd.typeIs,λb q =>?_,hd⟩
  cases q
  obtain ⟨ob,_,_,h1,h2,_⟩:=dd
  exact ⟨ob,h1,h2.2.1⟩
 ·obtain ⟨_,hd,xs,_,dd⟩:=i6 I.hok e
  refine ⟨dd.typeIs,λb q =>?_,hd⟩
  cases q
  obtain ⟨ob,_,_,h1,h2,_⟩:=dd
  exact ⟨ob,h1,h2.2.1⟩
section
variable  {X:Cx}{pins:List (Addr×Obj)}{σ:St}{H:Hp}{s:vR}{a:Addr}{y d:V}{u r:vP}{o:Option V}{A:w6}{E:vP->vR->Prop}
theorem uH {Q:vP->vR->Prop}(hu:A.units+1<cLine)(I:Inv X pins σ H s)(g:eM H a y o)(ry:RelV y u)(rd:RelV d r)(h:∀w' s',Inv X pins σ H s'->RelV (o.getD d) w'->Q w' s') :
  wA (wI X.prog X.w) A (call (.builtin "dict.get") [.ref a,u,r]) Q E s:=by
 rcases g with ⟨kvs,k,e,ey,l⟩ | ⟨kvs,k,b,e,ey,eb,l⟩
 ·subst ey
  obtain ⟨z,hd,vs,rel,dd⟩:=gX I.hok e
  refine Df AN dd.typeIs B3 (BO _ _ _) (meets_dict_get_default (bq X.prog X.w) a (i4 ry) hd r) ⟨_,dd.mapOf,h _ _ (I.tok _) ?_⟩
  rw[l]
  exact (rel.val k).getD rd
 ·subst ey
  cases (show u=wz b from ry)
  obtain ⟨z,hd,xs,rel,dd⟩:=i6 I.hok e
  refine Df AN dd.typeIs B3 (BO _ _ _) (meetsH_dict_get_default (tupleKind (bq X.prog X.w)) a b hd r) ⟨Av hu,k,xs,gY I.hok eb,dd,h _ _ (I.tok _) ?_⟩
  rw[l]
  exact (rel.val k).getD rd
end
def uI (td ty tx:TE):TE:=λσ H Q=>td σ H λx H1=>∃a,x = .ref a/\IsD H1 a/\ty σ H1 λy H2=>tx σ H2 λz H3=>∃o,eM H3 a y o/\Q (o.getD z) H3
section
variable  {X:Cx}{o e f:Expr}{apos cpos:Pos}{td ty tx:TE}
theorem ql (hu:X.A.units+1<cLine)(ho:PE X o td)(he:PE X e ty)(hf:PE X f tx)(m:M2 X o "get" apos e f cpos):PE X (.Call (.Attribute o "get" apos) [e,f] [] cpos) (uI td ty tx):=by
 intro pins s σ H Q I h
 refine C6 m.base m.few m.line BP AN PySem.F.type_dict_get (thn (ho pins s σ H _ I h) λu s1 ⟨x,H1,I1,rx,a,ex,d,q1⟩ =>?_)
 subst ex
 obtain rfl:u=wz a:=rx
 obtain ⟨t1,t2,_⟩:=qk I1 d
 refine ⟨t1,t2,?_⟩
 rw[m.trees]
 refine y6 rfl (zW (yB (thn (he pins s1 σ H1 _ I1 q1) λiv s2 ⟨y,H2,I2,ry,q2⟩ =>
  yB (thn (hf pins s2 σ H2 _ I2 q2) λfv s3 ⟨z,H3,I3,rz,ov,g,q3⟩=>zP ?_))))
 exact uH hu I3 g ry rz λw' s4 I4 rw'=>⟨_,H3,I4,rw',q3⟩
end
section
variable  {X:Cx}{pins:List (Addr×Obj)}{σ:St}{H:Hp}{s:vR}{a:Addr}{kvs:List (Key×V)}{A:w6}{E:vP->vR->Prop}
end
section
variable  {X:Cx}{pins:List (Addr×Obj)}{σ:St}{H:Hp}{s:vR}{a:Addr}{y:V}{u:vP}{A:w6}{E:vP->vR->Prop}
end
open PySem PySem.Spec PyProof.Rows
section
variable  {X:Cx}
end
section
variable  {κ:Type}[DecidableEq κ]
end
end L2
namespace SDct
open PySem PyProof.Rows Srt
section
variable  {prog:wu}{w:w4}{K:Type}[DecidableEq K]{knd:KeyKind prog w K}{A:w6}{E:vP->vR->Prop}{s:vR}
end
end SDct
namespace L2
open PySem PySem.Spec PyProof.Rows Srt
section
variable  {X:Cx}
theorem mX:∀{kvs:List (Key×V)} {vs:List (Key×vP)},KV kvs vs->vs.map (·.1)=kvs.map (·.1)
 | _,_,.nil=>rfl
 | _,_,.cons h t=>by rw[wQ,wQ,mX t,h.1]
end
end L2
namespace HT
open PySem PySem.Spec PyProof.Rows
section
variable  {prog:wu}{w:w4}{A:w6}{E:vP->vR->Prop}{s:vR}{l:Addr}{xs:Array (Int×Tok)}
theorem i7 {items:Array vP}{Q:vP->vR->Prop}(hl:s.heap.IsTuple l items)
  (h:∀s₂:vR,s₂={ s with heap:=s.heap.push { cls :=.type "tuple_iterator",data :=.fields #[.ref l,.int 0 0] } } →
   (s₂.heap.IsTupleIter s.heap.objs.size l 0/\s₂.heap.IsTuple l items)->(∀b∈[s.heap.objs.size,l],b<s₂.heap.objs.size)->l≠s.heap.objs.size->Q (.ref s.heap.objs.size) s₂) :
  wA (wI prog w) A (pyIter (.ref l)) Q E s:=by
 have hlt:l<s.heap.objs.size:=by obtain ⟨_,e,_⟩:=hl;exact v3 e
 refine yD hl (h _ rfl ⟨⟨_,v9 _ rfl,rfl,rfl⟩,?_⟩ (λb hb =>?_) (wg hlt))
 ·obtain ⟨o,e,c,d⟩:=hl
  exact ⟨o,vO _ e,c,d⟩
 show b<(s.heap.push _).objs.size
 rw[yw]
 rcases wj.mp hb with rfl | hb
 ·exact xO _
 ·rcases wj.mp hb with rfl | hb
  ·exact xB hlt
  ·cases hb
theorem i8 {h':Heap}(hk:∀b o,b∉[s.heap.objs.size]->(s.heap.push { cls :=.type "tuple_iterator",data :=.fields #[.ref l,.int 0 0] }).get? b=some o->h'.get? b=some o) :
  ∀b o,s.heap.get? b=some o->h'.get? b=some o:=λb o e=>by
 refine hk b o (λhm =>?_) (vO _ e)
 rcases wj.mp hm with e1 | hm
 ·exact absurd (e1 ▸ v3 e) (xq _)
 ·cases hm
theorem so {Q:vP->vR->Prop}(hh:A.handled=none)(hl:s.heap.IsTuple l (y9 xs))(hne:0<xs.size)
  (h:∀v h' tk,(y9 xs)[argBest (λi j=>decide (numAt xs i>numAt xs j)) (xs.size-1)]? = some v->(∀b o,s.heap.get? b=some o->h'.get? b=some o)->Q v { s with heap:=h',toks:=tk }) :
  wA (wI prog w) A (call (.builtin "max") [.ref l]) Q E s:=by
 refine call_max_walk (i7 hl λs₂ e st hfp hlI =>?_)
 subst e
 refine ⟨_,_,_,_,_,_,_,rfl,BN (A:=A.in1) hh _ l hlI (y9 xs),st,hfp,by simpa [y9] using hne,CmpOf.ints_gt (numAt xs) (λ_ _=>CB),λv h' tk hP hk =>?_⟩
 exact h v h' tk (by simpa [y9] using hP) (i8 hk)
theorem sq {Q:vP->vR->Prop}(hh:A.handled=none)(hl:s.heap.IsTuple l (y9 xs))(hne:0<xs.size)
  (h:∀v h' tk,(y9 xs)[argBest (λi j=>decide (numAt xs i<numAt xs j)) (xs.size-1)]? = some v->(∀b o,s.heap.get? b=some o->h'.get? b=some o)->Q v { s with heap:=h',toks:=tk }) :
  wA (wI prog w) A (call (.builtin "min") [.ref l]) Q E s:=by
 refine call_min_walk (i7 hl λs₂ e st hfp hlI =>?_)
 subst e
 refine ⟨_,_,_,_,_,_,_,rfl,BN (A:=A.in1) hh _ l hlI (y9 xs),st,hfp,by simpa [y9] using hne,DZ (numAt xs) (λ_ _=>CB),λv h' tk hP hk =>?_⟩
 exact h v h' tk (by simpa [y9] using hP) (i8 hk)
end
end HT
namespace L2
open PySem PyProof.Rows
section
variable  {X:Cx}{K:vV}
theorem ii2 {i j:Int}{t1 t2:Tok}:y9 #[(i,t1),(j,t2)] = #[yo i t1,yo j t2]:=by simp[y9]
theorem i9 (hc:X.calm=true)(hk:X.K=K:=by rfl):cc X (.builtin "min") (λxs H Q=>∃(p:Addr) (i j:Int),xs=[.ref p]/\SqT K H p [.int i,.int j]/\Q (.int (if j<i then j else i)) H):=by
 subst hk
 intro pins s σ H xs us Q I r h
 obtain ⟨p,i,j,rfl,hq,q⟩:=h
 obtain ⟨u,rfl,ru⟩:=vals1 r
 cases (show u=wz p from ru)
 obtain ⟨its,rv,ht,_⟩:=I.tuple hq
 obtain ⟨x,y,rfl,⟨t1,rfl⟩,⟨t2,rfl⟩⟩:=vals2 rv
 refine HT.sq (I.ok.hd hc) (xs := #[(i,t1),(j,t2)]) (by rw[ii2];exact ht) (by simp) λv h' tk hv k =>?_
 have ev:∃t,v = .int (if j<i then j else i) t:=by
  have hb:argBest (λa b=>decide (numAt #[(i,t1),(j,t2)] a<numAt #[(i,t1),(j,t2)] b)) (#[(i,t1),(j,t2)].size-1)=if j<i then 1 else 0:=by
   show (if decide (j<i)=true then 1 else 0)=_
   by_cases h:j<i
   ·rw[decide_eq_true h,if_pos h,if_pos rfl]
   ·rw[decide_eq_false h,if_neg h,if_neg wa]
  rw[hb,ii2] at hv
  by_cases h:j<i
  ·rw[if_pos h] at hv ⊢
   exact ⟨t2,(wB (show some (yo j t2)=some v from hv)).symm⟩
  ·rw[if_neg h] at hv ⊢
   exact ⟨t1,(wB (show some (yo i t1)=some v from hv)).symm⟩
 obtain ⟨t,rfl⟩:=ev
 exact ⟨.int _,H,I.kept k,⟨_,rfl⟩,q⟩
theorem ja (hc:X.calm=true)(hk:X.K=K:=by rfl):cc X (.builtin "max") (λxs H Q=>∃(p:Addr) (i j:Int),xs=[.ref p]/\SqT K H p [.int i,.int j]/\Q (.int (if j>i then j else i)) H):=by
 subst hk
 intro pins s σ H xs us Q I r h
 obtain ⟨p,i,j,rfl,hq,q⟩:=h
 obtain ⟨u,rfl,ru⟩:=vals1 r
 cases (show u=wz p from ru)
 obtain ⟨its,rv,ht,_⟩:=I.tuple hq
 obtain ⟨x,y,rfl,⟨t1,rfl⟩,⟨t2,rfl⟩⟩:=vals2 rv
 refine HT.so (I.ok.hd hc) (xs := #[(i,t1),(j,t2)]) (by rw[ii2];exact ht) (by simp) λv h' tk hv k =>?_
 have ev:∃t,v = .int (if j>i then j else i) t:=by
  have hb:argBest (λa b=>decide (numAt #[(i,t1),(j,t2)] a>numAt #[(i,t1),(j,t2)] b)) (#[(i,t1),(j,t2)].size-1)=if j>i then 1 else 0:=by
   show (if decide (j>i)=true then 1 else 0)=_
   by_cases h:j>i
   ·rw[decide_eq_true h,if_pos h,if_pos rfl]
   ·rw[decide_eq_false h,if_neg h,if_neg wa]
  rw[hb,ii2] at hv
  by_cases h:j>i
  ·rw[if_pos h] at hv ⊢
   exact ⟨t2,(wB (show some (yo j t2)=some v from hv)).symm⟩
  ·rw[if_neg h] at hv ⊢
   exact ⟨t1,(wB (show some (yo i t1)=some v from hv)).symm⟩
 obtain ⟨t,rfl⟩:=ev
 exact ⟨.int _,H,I.kept k,⟨_,rfl⟩,q⟩
end
open PySem PyProof.Rows
section
variable  {X:Cx}
def uJ (ns ms:List Int)(j:Nat):Bool:=ns.getD j 0 == ms.getD j 0
theorem qm {ns ms:List Int}(h:ns.length=ms.length):((xJ ns.length).all λj=>uJ ns ms j)=decide (ns=ms):=by
 rw[yQ,decide_eq_true_iff,yG]
 constructor
 ·intro hh
  refine BV h λj h1 h2 =>?_
  have:=hh j (xh.mpr h1)
  unfold uJ at this
  rw[v5,v5,vU h1,vU h2] at this
  exact of_decide_eq_true (by simpa using this)
 ·rintro rfl j _
  exact beq_self_eq_true _
theorem intAt {ns:List Int}{us:List vP}(r:Vals (ns.map V.int) us){j:Nat}(h:j<us.toArray.size):∃t,us.toArray[j] = .int (ns.getD j 0) t:=by
 have l:=r.length
 rw[vM] at l
 rw[vT] at h
 have e1:(ns.map V.int)[j]? = some (.int (ns.getD j 0)):=by
  rw[wm,v5,vU (by omega)]
  rfl
 obtain ⟨u,g1,q1⟩:=r.get e1
 have f1:us.toArray[j]=u:=by simp[v7] at g1;obtain ⟨_,g⟩:=g1;simpa using g
 rw[f1]
 exact q1
theorem sr {k:Nat}(hr:cy k X.A):OpR X (yp .NotEq) (λx y H Q=>∃(a b:Addr) (ns ms:List Int),x = .ref a/\y = .ref b/\SqL X.K H a (ns.map V.int)/\SqL X.K H b (ms.map V.int)/\Q (.bl (!decide (ns=ms))) H):=by
 intro pins s σ H x y v u Q I rx ry h
 obtain ⟨a,b,ns,ms,rfl,rfl,h1,h2,q⟩:=h
 cases (show v=wz a from rx)
 cases (show u=wz b from ry)
 obtain ⟨its,r1,⟨⟨c1,d1,da1,sl1⟩,n1,e1,k1,_,k3⟩,_⟩:=I.list h1
 obtain ⟨its2,r2,⟨⟨c2,d2,da2,sl2⟩,n2,e2,g1,_,g3⟩,_⟩:=I.list h2
 simp only at k1 k3 g1 g3
 subst k1 k3 g1 g3
 have l1:=r1.length
 have l2:=r2.length
 rw[vM] at l1 l2
 have hu:=hr.un
 have hu1:X.A.units<cLine:=by omega
 by_cases hl:ns.length=ms.length
 ·refine AA (op :=.NotEq) ⟨_,e1,rfl⟩ ⟨_,e2,rfl⟩ F.slot_list_ne DB (Dq _ _) (SeqAt.list_neAt a b its.toArray its2.toArray n1 n2 d1 d2 sl1 sl2 (by rw[vT,vT];omega) (uJ ns ms)) ⟨e1,e2,?_,?_⟩ hu1
  ·intro j h1 h2
   obtain ⟨t1,g1⟩:=intAt r1 h1
   obtain ⟨t2,g2⟩:=intAt r2 h2
   rw[g1,g2]
   exact zB _ t1 _ t2
  ·have ez:its.toArray.size=ns.length:=by rw[vT];omega
   rw[ez,qm hl]
   exact ⟨(λz=>nomatch z),⟨.bl _,H,I,rfl,q⟩⟩
 ·have ne:ns≠ms:=λz=>hl (by rw[z])
  rw[decide_eq_false ne] at q
  refine AA (op :=.NotEq) ⟨_,e1,rfl⟩ ⟨_,e2,rfl⟩ F.slot_list_ne DB (Dq _ _) (SeqAt.list_ne_lengthsAt a b its.toArray its2.toArray n1 n2 d1 d2 sl1 sl2 (by simp;omega)) ⟨e1,e2,?_⟩ hu1
  exact ⟨(λz=>nomatch z),⟨.bl true,H,I,rfl,q⟩⟩
end
end L2
namespace HT
open PySem PySem.Spec PyProof.Rows
section
variable  {prog:wu}{w:w4}{A:w6}{R:Result->vR->Prop}{I:Addr}{fp wr:List Addr}{n:Nat}{P:Nat->vP->Prop}{St:Nat->Heap->Prop}{kw:List (Str×vP)}
end
section
variable  {prog:wu}{w:w4}{A:w6}{E:vP->vR->Prop}{s:vR}{l:Addr}{xs:Array (Int×Tok)}
end
end HT
namespace L2
open PySem PyProof.Rows
section
variable  {X:Cx}{x:Str}{id:String}{e:Expr}{es:List Expr}{kws:List Keyword}{p pos:Pos}{t tk:TA}{ks:List Str}{r:List V->List V->Hp->VK->Prop}
end
open PySem PyProof.Rows
section
variable  {X:Cx}
theorem uK {ns:List Int}{j:Nat}(h:j<ns.length):ns.getD j 0∈ns:=by
 rw[v5,vU h]
 exact yH h
theorem uL {ns:List Int}{a:Int}(h:a∈ns):∃j,j<ns.length/\ns.getD j 0=a:=by
 obtain ⟨j,hj,e⟩:=Bb h
 exact ⟨j,hj,by rw[v5,vU hj];exact e⟩
end
open PySem PyProof.Rows
section
variable  {X:Cx}
def kH (ns ms:List Int)(j:Nat):Bool:=ns.getD j 0 == ms.getD j 0
theorem oD {ns ms:List Int}(h:ns.length=ms.length):((xJ ns.length).all λj=>kH ns ms j)=decide (ns=ms):=by
 rw[yQ,decide_eq_true_iff,yG]
 constructor
 ·intro hh
  refine BV h λj h1 h2 =>?_
  have:=hh j (xh.mpr h1)
  unfold kH at this
  rw[v5,v5,vU h1,vU h2] at this
  exact of_decide_eq_true (by simpa using this)
 ·rintro rfl j _
  exact beq_self_eq_true _
theorem jb {ns ms:List Int}:((xJ (min ns.length ms.length)).all (kH ns ms) && ns.length == ms.length)=decide (ns=ms):=by
 by_cases h:ns.length=ms.length
 ·rw[<- h,Cc,show (ns.length == ns.length)=true from beq_self_eq_true _,Bool.and_true]
  exact oD h
 ·have ne:ns≠ms:=λz=>h (by rw[z])
  rw[decide_eq_false ne,show (ns.length == ms.length)=false from by simpa using h,DJ]
theorem jJ {ns:List Int}{us:List vP}(r:Vals (ns.map V.int) us){j:Nat}(h:j<us.toArray.size):∃t,us.toArray[j] = .int (ns.getD j 0) t:=by
 have l:=r.length
 rw[vM] at l
 rw[vT] at h
 have e1:(ns.map V.int)[j]? = some (.int (ns.getD j 0)):=by
  rw[wm,v5,vU (by omega)]
  rfl
 obtain ⟨u,g1,q1⟩:=r.get e1
 have f1:us.toArray[j]=u:=by simp[v7] at g1;obtain ⟨_,g⟩:=g1;simpa using g
 rw[f1]
 exact q1
theorem op_eqTI {k:Nat}(hr:cy k X.A):OpR X (yp .Eq) (λx y H Q=>∃(a b:Addr) (ns ms:List Int),x = .ref a/\y = .ref b/\SqT X.K H a (ns.map V.int)/\SqT X.K H b (ms.map V.int)/\Q (.bl (decide (ns=ms))) H):=by
 intro pins s σ H x y v u Q I rx ry h
 obtain ⟨a,b,ns,ms,rfl,rfl,h1,h2,q⟩:=h
 cases (show v=wz a from rx)
 cases (show u=wz b from ry)
 obtain ⟨its,r1,p1,_⟩:=I.tuple h1
 obtain ⟨its2,r2,p2,_⟩:=I.tuple h2
 have l1:=r1.length
 have l2:=r2.length
 rw[vM] at l1 l2
 have hu:=hr.un
 have hu1:X.A.units<cLine:=by omega
 have R:=SeqAt.RcAt.tuples (A:=X.A) (e:=kH ns ms) (show s.heap.IsTuple a its.toArray from p1) (show s.heap.IsTuple b its2.toArray from p2) hu1 (by
  intro j h1 h2
  obtain ⟨t1,g1⟩:=jJ r1 h1
  obtain ⟨t2,g2⟩:=jJ r2 h2
  rw[g1,g2]
  exact zB _ t1 _ t2)
 rw[vT,vT, <- l1, <- l2,jb] at R
 exact R _ _ _ _ ⟨.bl _,H,I,rfl,q⟩
theorem mY {k:Nat}(hr:cy k X.A):OpR X (yp .NotEq) (λx y H Q=>∃(a b:Addr) (ns ms:List Int),x = .ref a/\y = .ref b/\SqT X.K H a (ns.map V.int)/\SqT X.K H b (ms.map V.int)/\Q (.bl (!decide (ns=ms))) H):=by
 intro pins s σ H x y v u Q I rx ry h
 obtain ⟨a,b,ns,ms,rfl,rfl,h1,h2,q⟩:=h
 cases (show v=wz a from rx)
 cases (show u=wz b from ry)
 obtain ⟨its,r1,p1,_⟩:=I.tuple h1
 obtain ⟨its2,r2,p2,_⟩:=I.tuple h2
 have l1:=r1.length
 have l2:=r2.length
 rw[vM] at l1 l2
 have hu:=hr.un
 have hu1:X.A.units<cLine:=by omega
 have R:=SeqAt.RcNeAt.tuples (A:=X.A) (e:=kH ns ms) (show s.heap.IsTuple a its.toArray from p1) (show s.heap.IsTuple b its2.toArray from p2) hu1 (by
  intro j h1 h2
  obtain ⟨t1,g1⟩:=jJ r1 h1
  obtain ⟨t2,g2⟩:=jJ r2 h2
  rw[g1,g2]
  exact zB _ t1 _ t2)
 rw[vT,vT, <- l1, <- l2,jb] at R
 exact R _ _ _ _ ⟨.bl _,H,I,rfl,q⟩
end
section
variable  {P:wu}{w:w4}{K:vV}{mg:Str->Option vP}{base:Heap}
end
end L2
namespace L2.Rev
open PySem
open Sem (wp)
section
variable  {prog:wu}{w:w4}{A:w6}{E:vP->vR->Prop}{s:vR}
theorem lN:typeLookup (.type "list_reverseiterator") "__len__" = pure none:=by rw[yX,x4];kernel_rfl
theorem fB:typeLookup (.type "list_reverseiterator") "__length_hint__" = pure (some (.builtin "list_reverseiterator.__length_hint__")):=by rw[yX,x4];kernel_rfl
theorem qo {I l:Addr}{i:Int}{Q:Bool->vR->Prop}(hit:s.heap.IsRevIter I l i)(h:Q false s):wA (wI prog w) A (yZ (.ref I)) Q E s:=by
 unfold yZ
 refine vN (yW hit.typeIs lN ?_)
 wp_delta
 refine vN (yW hit.typeIs fB ?_)
 generalize hid:("list_reverseiterator.__length_hint__" : String)=id0
 wp_delta
 rw[show splitId id0=some ("list_reverseiterator", "__length_hint__") from by subst hid;decide +kernel]
 subst hid
 refine vN (Ad (T := "list_reverseiterator") (b:=true) hit.typeIs (by rw[yL];kernel_rfl) ?_)
 refine xD (λhab=>absurd hab (by decide)) (λ_ =>?_)
 refine xD (λ_ =>?_) (λhab=>absurd (by decide +kernel) hab)
 refine xD (λhab=>absurd hab (by decide +kernel)) (λ_ =>?_)
 exact vW h
theorem lO {R:Result->vR->Prop}{I l:Addr}{items:Array vP}(hh:A.handled=none)(hit:s.heap.IsRevIter I l ((items.size:Int)-1))(hl:s.heap.IsList l items)(hne:l≠I)(hlen:items.size<=2 ^ 24)
  (S:Addr) (hSI:S≠I) (hSl:S≠l) (res:vP) (c₀:Nat) (hS:s.heap.get? S=some { cls :=.type "list",data :=.seq #[] c₀ })
  (hR:∀h' tk acc' c',(∀b o,b≠S->b≠I->s.heap.get? b=some o->h'.get? b=some o)->h'.get? S=some { cls :=.type "list",dict:=none,data :=.seq acc' c',slots := #[] } →
   ItemsOf (λi v=>items[items.size-1-i]? = some v) acc' items.size->R (.ok (.ret res)) { s with heap:=h',toks:=tk }) :
  wA (wI prog w) A.in1 (xn (.ref S) (.ref I) res)
   (λfin s'=>match fin with | .done f=>R (.ok f) s' | .again c'=>c'.quiet=true/\AZ (wI prog w) A c' R s') (λe s'=>R (.error e) s') s:=by
 have hSf:S∉[I,l]:=λhm=>by
  rcases wj.mp hm with e | hm
  ·exact hSI e
  ·exact hSl (wc.mp hm)
 have W:=(Walks.listRev (prog:=prog) (w:=w) (A:=A.in1) hh I l hne items).toS
 unfold xn
 refine vN (zN (T := "list_reverseiterator") hit.typeIs ?_)
 have h1:zr (.ref S) (.ref I)=false:=by simp[zr,hSI]
 have h2:(yF "list_reverseiterator" == yF "list")=false:=by decide +kernel
 have h3:(yF "list_reverseiterator" == yF "tuple")=false:=by decide +kernel
 simp only[h1,h2,h3,D1,xW,if_false]
 refine vN (wpAny_pyIter_revIter hit ?_)
 refine vN (yx (qo hit ?_))
 refine xD (λhab=>absurd hab (by decide +kernel)) (λ_=>vW ⟨yn F.plain_extend_loop _,?_⟩)
 refine A3 W (by rw[AG];omega) S hSf res items.size 0 _ #[] c₀ rfl (wM _) ⟨wM _,by simpa using hit,hl⟩ hS (DC _) λs' acc' c' hm hS' hacc =>?_
 rw[CK hm]
 refine hR s'.heap s'.toks acc' c' (λb o hb hbI e=>hm.heap b o (λhmem =>?_) e) hS' hacc
 rcases wj.mp hmem with e' | hmem
 ·exact hb e'
 ·exact hbI (wc.mp hmem)
theorem qp {R:Result->vR->Prop}{I l:Addr}{items:Array vP}(hh:A.handled=none)(hit:s.heap.IsRevIter I l ((items.size:Int)-1))(hl:s.heap.IsList l items)(hne:l≠I)(hlen:items.size<=2 ^ 24)
    (S:Addr) (hSI:S≠I) (hSl:S≠l) (hS:s.heap.get? S=some { cls :=.type "list",data :=.seq #[] })
    (hR:∀h' tk acc' c',(∀b o,b≠S->b≠I->s.heap.get? b=some o->h'.get? b=some o)->h'.get? S=some { cls :=.type "list",dict:=none,data :=.seq acc' c',slots := #[] } →
      ItemsOf (λi v=>items[items.size-1-i]? = some v) acc' items.size->R (.ok (.ret .none)) { s with heap:=h',toks:=tk }) :
    wA (wI prog w) A.in1 (Builtin.«list.__init__» ⟨[.ref S,.ref I],[]⟩)
      (λfin s'=>match fin with | .done f=>R (.ok f) s' | .again c'=>c'.quiet=true/\AZ (wI prog w) A c' R s') (λe s'=>R (.error e) s') s:=by
  show wA _ _ (do let old ← Builtin.List.listItems (.ref S);Builtin.List.listUpdate (.ref S) (λ_ => #[]);letGo old.toList.reverse;xn (.ref S) (.ref I) .none) _ _ s
  refine vN ?_
  unfold Builtin.List.listItems
  refine vN (Aa hS rfl (vW ?_))
  show wA _ _ (updateSeq S (λ_ => #[]) >>= λ_=>letGo (#[]:Array vP).toList.reverse >>= λ_=>xn (.ref S) (.ref I) .none) _ _ s
  refine vN (zO hS rfl ?_)
  have hS₂:=xG (zt (λ_=>(#[]:Array vP))) hS rfl
  have oth:∀b o,b≠S->s.heap.get? b=some o->(s.heap.update S (zt (λ_=>(#[]:Array vP)))).get? b=some o :=
    λb o hb e=>(xp _ _ (xF hb)).trans e
  refine vN (BS ?_)
  refine lO hh (hit.at λo e=>oth I o (xF hSI) e) (hl.at λo e=>oth l o (xF hSl) e) hne hlen S hSI hSl .none _ hS₂ λh' tk acc' c' hk hS' hacc =>?_
  exact hR h' tk acc' c' (λb o hb hbI e=>hk b o hb hbI (oth b o hb e)) hS' hacc
theorem qr {Q:vP->vR->Prop}{I l:Addr}{items:Array vP}(hh:A.handled=none)(hit:s.heap.IsRevIter I l ((items.size:Int)-1))(hl:s.heap.IsList l items)(hne:l≠I)(hlen:items.size<=2 ^ 24)
  (hQ:∀h' tk acc' c',(∀b o,b≠I->s.heap.get? b=some o->h'.get? b=some o) →
   h'.get? s.heap.objs.size=some { cls :=.type "list",dict:=none,data :=.seq acc' c',slots := #[] }->ItemsOf (λi v=>items[items.size-1-i]? = some v) acc' items.size->Q (.ref s.heap.objs.size) { s with heap:=h',toks:=tk }) :
  wA (wI prog w) A (call (.type "list") [.ref I]) Q E s:=by
 refine callType_codes (Q₁:=λobj s₁=>obj = .ref s.heap.objs.size/\s₁={ s with heap:=s.heap.push { cls :=.type "list",data :=.seq #[] } }) F.called_list (F.typeCall_list_1 _) F.entry_list_init
  (code_list_new _ ⟨rfl,rfl⟩) λobj s₁ h₁ =>?_
 obtain ⟨rfl,rfl⟩:=h₁
 have hS:(s.heap.push { cls :=.type "list",data :=.seq #[] }).get? s.heap.objs.size=some { cls :=.type "list",data :=.seq #[] }:=v9 _ rfl
 obtain ⟨oi,hoi,_⟩:=id hit
 obtain ⟨ol,hol,_⟩:=id hl
 refine ⟨⟨_,hS,rfl⟩,F.args_list_init_2 _ _,qp (A:=A.in1) hh (hit.at λo e=>vO _ e) (hl.at λo e=>vO _ e) hne hlen _ (xF (wg (v3 hoi))) (xF (wg (v3 hol))) hS λh' tk acc' c' hk hS' hacc =>?_⟩
 exact ⟨rfl,hQ h' tk acc' c' (λb o hbI e=>hk b o (wg (v3 e)) hbI (vO _ e)) hS' hacc⟩
end
end L2.Rev
namespace L2
open PySem PySem.Spec PyProof.Rows
section
variable  {X:Cx}
theorem gf:xA "reversed" = some (.type "reversed"):=by decide +kernel
theorem qu:xA "list" = some (.type "list"):=by decide +kernel
theorem hJ:∀{xs:List V} {us:List vP},Vals xs us->Vals xs.reverse us.reverse
 | [],[],_ =>.nil
 | x :: xs,u :: us,.cons h t=>by
  rw[BE,BE]
  exact (hJ t).append (.cons h .nil)
def qv (K:vV)(te:TE):TE:=λσ H Q=>te σ H λx H1=>∃l xs,x = .ref l/\SqL K H1 l xs/\xs.length<=1000/\∀p,H1 p=none->Q (.ref p) (upd H1 p (.lst xs.reverse))
theorem lP {e:Expr}{te:TE}{p1 p2 pos1 pos2:Pos}(hh:X.A.handled=none)(hg1:Gl X "list")(hm1:X.mg "list" = none)(hg2:Gl X "reversed")(hm2:X.mg "reversed" = none)(he:PE X e te)
  (hs1:xb [Expr.Call (.Name "reversed" p2) [e] [] pos2] X.env=(false,eval (.Call (.Name "reversed" p2) [e] [] pos2) X.env) :: xb [] X.env:=by rfl) (hp1:(Aw pos1 (xb [] X.env)).any (·.1)=false:=by rfl)
  (hs2:xb [e] X.env=(false,eval e X.env) :: xb [] X.env:=by rfl) (hp2:(Aw pos2 (xb [] X.env)).any (·.1)=false:=by rfl) :
  PE X (.Call (.Name "list" p1) [.Call (.Name "reversed" p2) [e] [] pos2] [] pos1) (qv X.K te):=by
 intro pins s σ H Q I h
 refine yE (cR I hg1 hm1 qu ?_ (by decide) (by decide))
 refine xu ?_ hs1 hp1
 rw[hs1]
 show wA _ _ (spliced ((false,eval (.Call (.Name "reversed" p2) [e] [] pos2) X.env) :: Aw pos1 (xb [] X.env))) _ _ s
 refine yB ?_
 refine yE (cR I hg2 hm2 gf ?_ (by decide) (by decide))
 refine xu (thn ((aa he ag hs2) pos2 pins s σ H (λvs H1=>match vs with | [x]=>∃l xs,x = .ref l/\SqL X.K H1 l xs/\xs.length<=1000/\∀p,H1 p=none->Q (.ref p) (upd H1 p (.lst xs.reverse)) | _=>False) I ?_) λus s1 ⟨vs,H1,I1,r1,q1⟩ =>?_) hs2 hp2
 ·exact h
 ·match vs,q1 with
  | [x],q1 =>
  obtain ⟨l,xs,rfl,hx,h1000,q⟩:=q1
  obtain ⟨u,rfl,ru⟩:=vals1 r1
  cases (show u=wz l from ru)
  obtain ⟨its,r,hl,hz⟩:=I1.list hx
  have hL:s1.heap.IsList l its.toArray:=hl.isList
  refine call_reversed_list hL ?_
  refine zP ?_
  have ll:=r.length
  obtain ⟨ol,hol,_⟩:=id hL
  refine Rev.qr hh (I:=s1.heap.objs.size) (l:=l) (items:=its.toArray) ⟨_,v9 _ rfl,rfl,rfl⟩ (hL.at λo e=>vO _ e) (wg (v3 hol)) (by rw[vT];omega) λh' tk acc' c' k e' it =>?_
  have ea:acc'.toList=its.reverse:=by
   refine AE λj =>?_
   rw[v8]
   have h1:acc'.size=its.length:=by rw[it.1,vT]
   by_cases hj:j<its.length
   ·obtain ⟨v,hv⟩:∃v,acc'[j]? = some v:=⟨acc'[j]'(by omega),wY _⟩
    have:=it.2 j v hv
    dsimp only at this
    rw[wW,vT] at this
    rw[hv,Cf hj,this]
   ·rw[y8 (by omega),zK (by rw[xK];omega)]
  have rv:=hJ r
  rw[<- ea] at rv
  have L1:(s1.heap.push (revObj l (((its.toArray).size:Int)-1))).objs.size=s1.heap.objs.size+1:=by
   simp[Heap.push]
  refine ⟨.ref (s1.heap.push (revObj l (((its.toArray).size:Int)-1))).objs.size,_,I1.laid (o :=.lst xs.reverse) (λb u eb=>k b u (wg (v3 eb)) (vO _ eb)) (by rw[L1];omega) ⟨by rw[xK];exact hz,acc'.toList,c',rv,by simpa using e'⟩,rfl,q _ (I1.hok.fresh (by rw[L1];omega))⟩
end
open PySem PySem.Spec PyProof.Rows
section
variable  {X:Cx}
theorem dM:cc X (.builtin "len") (λxs H Q=>∃(a:Addr) (ys:List V),xs=[.ref a]/\H a=some (gh X.w a ys)/\ys.length<1000/\Q (.int ys.length) H):=by
 intro pins s σ H xs us Q I r h
 obtain ⟨a,ys,rfl,ha,hl,q⟩:=h
 obtain ⟨u,rfl,ru⟩:=vals1 r
 cases (show u=wz a from ru)
 obtain ⟨⟨es,⟨ep,t,ho,T,_⟩,rv⟩,_⟩:=(show a6 X.prog X.w H s.heap a (gh X.w a ys) from I.hok a _ ha)
 have l:=rv.length
 have l2:es.size=ys.length:=by simpa using l.symm
 refine call_len_set ho ⟨rfl,rfl,rfl⟩ rfl (by have:=T.fits;rwa [xS] at this) (by omega) ?_
 rw[l2]
 exact ⟨.int ys.length,H,I.tok _,⟨_,rfl⟩,q⟩
end
open PySem PySem.Spec PyProof.Rows
def Itd (d:Addr)(ob:Obj)(kvs:List (Key×V))(ks:List Int):It :=
 ⟨λi H=>H d=some (.frz ob (.dK kvs))/\∃k,ks[i]? = some k,λi H x H'=>H'=H/\∃k,ks[i]? = some k/\x = .int k,λi H=>H d=some (.frz ob (.dK kvs))/\ks.length<=i⟩
theorem oE {P:wu}{w:w4}{K:vV}{tg:Expr}{kvs:List (Key×V)}{ks:List Int}{vs:List (Key×vP)}{ep:Nat}{ob:Obj}{h0:Heap}(d it:Addr)(hm:h0.DictAt (bq P w) d vs ep)(ho:h0.get? d=some ob)(keys:vs.map (·.1)=ks.map Sum.inl) :
  Turn P w K tg (Itd d ob kvs ks) [it] it (λi h=>h.IsKeyIter it d i vs.length ep) where
 mem:=by simp
 obj:=λi h st b hb=>by
  have e:b=it:=by simpa using hb
  subst e
  obtain ⟨o,e,c,d⟩:=st
  exact ⟨o,e,λv z=>by rw[d] at z;cases z⟩
 keep:=λi h h' st k=>by
  obtain ⟨o,e,r⟩:=st
  exact ⟨o,k it (by simp) o e,r⟩
 item:=by
  intro X hP hw hK hc i pins s σ H E I hf st hg
  subst hP hw hK
  obtain ⟨hd,k,hk⟩:=hg
  have e1:s.heap.get? d=some ob:=(show a6 X.prog X.w H s.heap d (.frz ob (.dK kvs)) from I.hok d _ hd).1
  have hm1:s.heap.DictAt (bq X.prog X.w) d vs ep:=by
   obtain ⟨o,es,h1,r⟩:=hm
   rw[ho] at h1
   cases h1
   exact ⟨ob,es,e1,r⟩
  obtain ⟨f0,f1,f2,f3,f4,f5⟩:=hf it (by simp)
  obtain ⟨kv,hx,hkv⟩:∃kv,vs[i]? = some kv/\kv.1=Sum.inl k:=by
   have e3:(vs.map (·.1))[i]? = some (Sum.inl k):=by rw[keys,wm,hk];rfl
   rw[wm] at e3
   cases hv:vs[i]? with
   | none=>rw[hv] at e3;cases e3
   | some kv=>rw[hv] at e3;exact ⟨kv,rfl,by injection e3⟩
  obtain ⟨k',x⟩:=kv
  have hkv':k'=Sum.inl k:=hkv
  subst hkv'
  refine wpAny_pyNext_dict_item st hm1 hx λkey h' ik st' sb =>?_
  obtain ⟨t,rfl⟩:=Bz (show Value.isInt k key=true from ik)
  have I1:Inv X pins σ H { s with heap:=h' }:=I.turned (t':=s.toks) (λb o hb e=>(sb.2 b hb).trans e) f0 f1 f3 f4 f5
  obtain ⟨o,e,c,dd⟩:=id st'
  exact ⟨_,rfl,mq (s:={ s with heap:=h' }) e c dd (by decide) ⟨.int k,H,I1,⟨_,rfl⟩,⟨rfl,k,hk,rfl⟩,st',λb hb=>(hf b hb).1⟩⟩
 done:=by
  intro X hP hw hK hc i pins s σ H E I hf st hg
  subst hP hw hK
  obtain ⟨hd,hl⟩:=hg
  have e1:s.heap.get? d=some ob:=(show a6 X.prog X.w H s.heap d (.frz ob (.dK kvs)) from I.hok d _ hd).1
  have hm1:s.heap.DictAt (bq X.prog X.w) d vs ep:=by
   obtain ⟨o,es,h1,r⟩:=hm
   rw[ho] at h1
   cases h1
   exact ⟨ob,es,e1,r⟩
  obtain ⟨f0,f1,f2,f3,f4,f5⟩:=hf it (by simp)
  have lv:vs.length=ks.length:=by have:=congrArg List.length keys;simpa using this
  exact wpAny_pyNext_dict_end (I.ok.hd hc) st hm1 (zZ.mpr (by omega)) λh' eb=>⟨rfl,I.turned (t':=s.toks) (λb o hb e=>eb b o hb e) f0 f1 f3 f4 f5⟩
 self:=λ_ _ _ _ _ st h=>wpAny_pyIter_keyiter st h
theorem Inv.freeze {X:Cx}{pins:List (Addr×Obj)}{σ:St}{H:Hp}{s:vR}{d:Addr}{ob:Obj}{kvs:List (Key×V)}(I:Inv X pins σ H s)(hd:H d=some (.dK kvs))(ho:s.heap.get? d=some ob):Inv X pins σ (upd H d (.frz ob (.dK kvs))) s:=by
 have tt:∀b xs,H b=some (.tup xs)->upd H d (.frz ob (.dK kvs)) b=some (.tup xs):=λb xs e=>by rw[aA (ck e hd (by intro z;cases z))];exact e
 have oo:∀b,H b=none->upd H d (.frz ob (.dK kvs)) b=none:=λb e=>by
  rw[aA (λz=>by rw[z,hd] at e;cases e)];exact e
 refine I.step (g':=s.gens) (d':=s.drawn) (t':=s.toks) (h':=s.heap) (ch:=[]) (λ_ z=>nomatch z) (λb o _ _ _ e _=>e) (λb o _ _ _ e _=>⟨o.slots,e⟩) (λb o _ _ n=>oo b n) (λb o _ e=>⟨o,e⟩) tt (λb o u e=>by rw[aA (ck e hd (by intro z;cases z))];exact e)
  (λb ps e=>⟨#[],by rw[aA (ck e hd (by intro z;cases z)),e];simp⟩) (λ_ m=>m) (λb u e =>?_) I.bare
 by_cases hb:b=d
 ·subst hb
  rw[ah] at e
  cases e
  exact ⟨ho,(show a6 X.prog X.w H s.heap b (.dK kvs) from I.hok b _ hd)⟩
 ·rw[aA hb] at e
  refine (I.hok b u e).jZ (λc v _ q=>q) (λc q =>?_) λc xs q=>tt c xs q
  rw[aA (ck q hd (by intro z;cases z))];exact q
theorem lQ {d:Addr}{ob:Obj}{kvs:List (Key×V)}{ks:List Int}{k:Nat}{tc:TT}{te:TE}{τ:St}{H:Hp}{Q:VK}(Pv:Nat->List V->Hp->Prop)(h0:Pv 0 [] H)(hz:ks.length<=vZ)
  (hl:∀i ys H,i<=ks.length->Pv i ys H->H d=some (.frz ob (.dK kvs))) (hs:∀i x ys H,ks[i]? = some x->ys.length<=i->Pv i ys H->mG k tc te τ Pv i (.int x) ys H)
  (hd:∀ys H,ys.length<=ks.length->Pv ks.length ys H->∀l,H l=none->Q (.ref l) (upd H l (.lst ys))) :
  iK (Itd d ob kvs ks) (fe k) tc te τ Q H:=by
 refine ⟨λi m σ ys H=>m=ks.length-i/\i<=ks.length/\(∀x,σ.set k (some x)=τ.set k (some x))/\ys.length<=i/\Pv i ys H,⟨ks.length,by simp,wM _,λ_=>rfl,vS _,h0⟩,?_⟩
 rintro i m σ ys H ⟨rfl,hi,hτ,hy,p⟩
 have q:=hl i ys H hi p
 by_cases hlt:i<ks.length
 ·refine .inr ⟨⟨q,ks[i],by simp[hlt]⟩,λx H' y =>?_⟩
  obtain ⟨e,n,hn,rfl⟩:=y
  subst e
  show tc (σ.set k (some _)) _ _
  rw[hτ (.int n)]
  have hσ:∀z,(τ.set k (some (.int n))).set k (some z)=τ.set k (some z):=λz=>by rw[AL]
  refine hs i n ys _ hn hy p _ _ (λy4 H4 p4=>⟨by omega,ks.length-(i+1),by omega,rfl,hlt,hσ,by rw[vQ,xC];omega,p4⟩) λH3 p3=>⟨ks.length-(i+1),by omega,rfl,hlt,hσ,by omega,p3⟩
 ·have e:i=ks.length:=by omega
  subst e
  exact .inl ⟨⟨q,vS _⟩,by omega,hd ys H hy p⟩
open PySem PySem.Spec PyProof.Rows
def su:Stmt->List Stmt
 | .For _ _ body _ _=>body
 | _=>[]
variable  {X:Cx}
open PySem PySem.Spec PyProof.Rows
section
variable  {X:Cx}
theorem qw {k:Int}:∀{ns:List Int} {m:Nat} (h:m<ns.length),m<ns.idxOf k->ns[m]≠k
 | [],m,h,_=>absurd h (Cg _)
 | n :: ns,0,_,l=>by
  intro z
  have e:(n :: ns)[0]=n:=rfl
  rw[e] at z
  subst z
  simp at l
 | n :: ns,m+1,h,l=>by
  have h':m<ns.length:=Nat.lt_of_succ_lt_succ h
  show ns[m]≠k
  refine qw h' ?_
  by_cases e:n=k
  ·subst e;simp at l
  ·rw[List.idxOf_cons,show (n == k)=false by simpa using e] at l
   simp at l
   exact l
def mZ (K:vV):R2:=λx y H Q=>∃a b xs ys,x = .ref a/\y = .ref b/\SqT K H a xs/\SqT K H b ys/\xs.length+ys.length<=vZ/\(xs=[]->Q (.ref b) H)/\(ys=[]->Q (.ref a) H)/\(xs≠[]->ys≠[]->∀p,H p=none->Q (.ref p) (upd H p (.tup (xs++ys))))
theorem qx:OpR X (binaryOp .Add) (mZ X.K):=by
 intro pins s σ H x y v u Q I rx ry h
 obtain ⟨a,b,xs,ys,rfl,rfl,ha,hb,hz,q1,q2,q3⟩:=h
 by_cases hx:xs=[]
 ·cases rx
  cases ry
  obtain ⟨its,r1,p1,_⟩:=I.tuple ha
  obtain ⟨its2,r2,p2,_⟩:=I.tuple hb
  obtain ⟨⟨c1,d1,da1,s1⟩,o1,k1,n1,g1⟩:=id p1
  obtain ⟨⟨c2,d2,da2,s2⟩,o2,k2,n2,g2⟩:=id p2
  simp only at k1 g1 k2 g2
  subst k1 g1 k2 g2
  have e0:its=[]:=r1.gk.mpr hx
  exact Ck ⟨_,o1,rfl⟩ ⟨_,o2,rfl⟩ BX CL Ay Ao (Ah _ _)
   (tuple_addW0 a b its.toArray its2.toArray n1 n2 d1 d2 s1 s2 (by simp[e0])) ⟨o1,o2,⟨.ref b,H,I,rfl,q1 hx⟩⟩
 ·exact rC pins s σ H _ _ v u Q I rx ry ⟨a,b,xs,ys,rfl,rfl,ha,hb,hx,hz,q2,λhy=>q3 hx hy⟩
theorem mZ.one {K:vV}{H:Hp}{Q:VK}{a b:Addr}{xs ys:List V}(ha:H a=some (.tup xs))(hb:H b=some (.tup ys))(hz:xs.length+ys.length<=vZ)(q:∀p H',aB H H'->H' p=some (.tup (xs++ys))->Q (.ref p) H'):mZ K (.ref a) (.ref b) H Q:=by
 refine ⟨a,b,xs,ys,rfl,rfl,SqT.of ha,SqT.of hb,hz,λz =>?_,λz =>?_,λ_ _ p hp=>q p _ (ae hp _) ah⟩
 ·subst z;exact q b H (aB.refl _) hb
 ·subst z;exact q a H (aB.refl _) (by rw[xN];exact ha)
end
end L2
namespace L2.RvT
open PySem PyProof.Rows
open Sem (wp)
theorem fN:Manifest.owners.lookup (String.ofList ['d', 'e', 's', 'r', 'e', 'v', 'e', 'r'].reverse)=some Manifest.sig_reversed:=by kernel_rfl
theorem slot_next:Slot "reversed" "__next__" "reversed.__next__" :=
 .of (owner := "reversed") (n := "__next__") (by rw[yX,x4];kernel_rfl) (by decide +kernel) (by decide +kernel) (by decide +kernel)
  (by first | exact .inl (by decide +kernel) | exact .inr (by decide +kernel)) (by rw[yL];kernel_rfl)
theorem entry_next:entryFor table "reversed.__next__" = some Builtin.«reversed.__next__» := entryFor_of_tree (by kernel_rfl)
theorem args_next (a:vP):argsOk "reversed.__next__" ⟨[a],[]⟩:=by
 unfold argsOk;rw[CP (id := "reversed.__next__") (n:=['_', '_', 't', 'x', 'e', 'n', '_', '_']) (o:=['d', 'e', 's', 'r', 'e', 'v', 'e', 'r']) (by kernel_rfl) fN];kernel_rfl
theorem jf:Slot "reversed" "__iter__" "reversed.__iter__" :=
 .of (owner := "reversed") (n := "__iter__") (by rw[yX,x4];kernel_rfl) (by decide +kernel) (by decide +kernel) (by decide +kernel)
  (by first | exact .inl (by decide +kernel) | exact .inr (by decide +kernel)) (by rw[yL];kernel_rfl)
theorem oF (a:vP):argsOk "reversed.__iter__" ⟨[a],[]⟩:=by
 unfold argsOk;rw[CP (id := "reversed.__iter__") (n:=['_', '_', 'r', 'e', 't', 'i', '_', '_']) (o:=['d', 'e', 's', 'r', 'e', 'v', 'e', 'r']) (by kernel_rfl) fN];kernel_rfl
theorem lR:entryFor table "reversed.__iter__" = some Builtin.«dict_keyiterator.__iter__» :=
 entryFor_alias (id' := "dict_keyiterator.__iter__") (by kernel_rfl) (by first | rfl | decide +kernel | (unfold String.splitOn;simp +decide [String.splitOnAux])) (by decide +kernel) (by kernel_rfl)
theorem uM:typeLookup (.type "tuple") "__reversed__" = pure none:=by rw[yX,x4];kernel_rfl
theorem lN:typeLookup (.type "reversed") "__len__" = pure none:=by rw[yX,x4];kernel_rfl
theorem fB:typeLookup (.type "reversed") "__length_hint__" = pure (some (.builtin "reversed.__length_hint__")):=by rw[yX,x4];kernel_rfl
theorem sub_self:isSubtype (.type "reversed") (.type "reversed")=pure true:=by rw[yL];kernel_rfl
theorem qy:isSubtype (.type "tuple") (.type "dict")=pure false:=by rw[yL];kernel_rfl
theorem oG:Slot "reversed" "__init__" "object.__init__" :=
 .of (owner := "object") (n := "__init__") (by rw[yX,x4];kernel_rfl) (by decide +kernel) (by decide +kernel) (by decide +kernel)
  (by first | exact .inl (by decide +kernel) | exact .inr (by decide +kernel)) (by rw[yL];kernel_rfl)
theorem called:TypeCalled "reversed" "reversed.__new__" "object.__init__" :=
 ⟨by decide +kernel,by decide +kernel,⟨_,_,Ct⟩,madeBy_type Ct PySem.F.lookup_reversed_new (by decide +kernel),by decide +kernel,by rw[yL];kernel_rfl,oG⟩
def rvO (t:Addr)(i:Int):Obj:={ cls :=.type "reversed",data :=.fields #[.ref t,Bp i] }
def eC (h:Heap)(a t:Addr)(i:Int):Prop:=∃o,h.get? a=some o/\o.cls = .type "reversed" /\ o.data = .fields #[.ref t,Bp i]
section
variable  {prog:wu}{w:w4}{A:w6}{E:vP->vR->Prop}{s:vR}
theorem eC.typeIs {a t:Addr}{i:Int}(x:eC s.heap a t i):s.TypeIs (.ref a) "reversed" := let ⟨o,ho,hc,_⟩:=x;⟨o,ho,hc⟩
theorem eC.at {h h':Heap}{a t:Addr}{i:Int}(x:eC h a t i)(e:∀o,h.get? a=some o->h'.get? a=some o):eC h' a t i:=let ⟨o,ho,r⟩:=x;⟨o,e _ ho,r⟩
theorem kI {h h':Heap}{a:Addr}{its:Array vP}(x:IsTup h a its)(e:∀o,h.get? a=some o->h'.get? a=some o):IsTup h' a its:=let ⟨o,ho,r⟩:=x;⟨o,e _ ho,r⟩
theorem oH (t:Addr)(its:Array vP)(hz:(its.size:Int)<2 ^ 63) :
  Meets (Builtin.«reversed.__new__» ⟨[.type "reversed",.ref t],[]⟩) (λ_ R s=>IsTup s.heap t its/\R (.ok (.ret (.ref s.heap.objs.size))) { s with heap:=s.heap.push (rvO t ((its.size:Int)-1)),toks:=s.toks+1+1 }) :=
 .of_wp λprog w A R s h=>by
  obtain ⟨ht,h⟩:=h
  unfold Builtin.«reversed.__new__»
  refine vN (yl (newClass_reversed _) ?_)
  try dsimp only
  refine vN (yl (a:=()) (by first | rfl | kernel_rfl) ?_)
  refine vN (yl (a:=()) (by first | rfl | kernel_rfl) ?_)
  try dsimp only
  refine vN (yW ht.typeIs uM ?_)
  try dsimp only
  refine vN ?_
  show wA _ _ (isInstance (.ref t) (.type "dict") >>= _) _ _ s
  refine vN (Ad (T := "tuple") (b:=false) ht.typeIs qy ?_)
  refine xD (λhab=>absurd hab (by decide)) (λ_ =>?_)
  refine vN (yW ht.typeIs xg.lookup ?_)
  refine xD (λ_=>vW ?_) (λhab=>absurd (by decide +kernel) hab)
  refine xD (λhab=>absurd hab (by decide)) (λ_ =>?_)
  refine vN (len_tuple ht hz ?_)
  refine vN (yl (a:=some (its.size:Int)) rfl ?_)
  refine vN ?_
  show wA _ _ (newObj (.type "reversed") (.fields #[.ref t,Bp ((its.size:Int)-1)])) _ _ _
  exact xo (vW ⟨_,rfl,h⟩)
theorem qz {t:Addr}{its:Array vP}{Q:vP->vR->Prop}(ht:IsTup s.heap t its)(hz:(its.size:Int)<2 ^ 63)
  (h:Q (.ref s.heap.objs.size) { s with heap:=s.heap.push (rvO t ((its.size:Int)-1)),toks:=s.toks+1+1 }):wA (wI prog w) A (call (.type "reversed") [.ref t]) Q E s:=by
 refine Dd called (by decide) (PySem.F.typeCall_reversed_1 _) (PySem.F.newCall_reversed_1 _) (λobj=>Bj obj _) PySem.F.entry_reversed_new (oH t its hz) ⟨ht,?_⟩
 exact ⟨⟨_,v9 _ rfl,rfl⟩,h⟩
theorem next_item {I t:Addr}{i:Nat}{its:Array vP}{x:vP}{Q:Option vP->vR->Prop}(hit:eC s.heap I t (i:Int))(ht:IsTup s.heap t its)(hx:its[i]? = some x)(hi:(i:Int)<2 ^ 63)
  (hQ:∀h' tk,eC h' I t ((i:Int)-1)->Heap.SameBut I s.heap h'->Q (some x) { s with heap:=h',toks:=tk }):wA (wI prog w) A (pyNext (.ref I)) Q E s:=by
 obtain ⟨o,ho,hc,hd⟩:=id hit
 unfold pyNext
 refine vN (Au (x6 (name:=Str.ofString "__next__") hit.typeIs slot_next (xP slot_next hit.typeIs entry_next ?_ (args_next _))))
 unfold Builtin.«reversed.__next__»
 refine vN (yl (a:=(wz I,[])) rfl ?_)
 try dsimp only
 refine vN (yj ho hd (x :=.ref t) rfl ?_)
 refine vN (yj ho hd (x:=Bp (i:Int)) rfl ?_)
 show wA _ _ (if (i:Int)<0 then _ else _) _ _ s
 rw[if_neg (by omega)]
 show wA _ _ (specialOf (.ref t) "__getitem__" >>= _) _ _ s
 refine vN (yW ht.typeIs xg.lookup ?_)
 refine xD (λhab=>absurd hab (by decide)) (λ_ =>?_)
 refine vN (DE ?_)
 refine vN (Au ?_)
 refine PyProof.Rows.getItem_tuple (j:=i) ht (by omega) hi (DD (by omega) (by have:=(x9.mp hx).1;omega)) hx ?_
 refine vN (yj ho hd (x:=Bp (i:Int)) rfl ?_)
 show wA _ _ (setField (.ref I) 1 (Bp ((i:Int)-1)) >>= λ_=>ret x) _ _ _
 refine vN (AJ ho hd (by simp) ?_)
 refine vW ⟨x,rfl,vW (hQ _ _ ?_ (Af ..))⟩
 exact ⟨_,xG _ ho (AM (ze hd _)),(CU ..).trans hc,by rw[ze hd];simp⟩
theorem next_end {I t:Addr}{Q:Option vP->vR->Prop}(hh:A.handled=none)(hit:eC s.heap I t (-1))
  (hQ:∀h',Heap.ExtBut I s.heap h'->Q none { s with heap:=h' }):wA (wI prog w) A (pyNext (.ref I)) Q E s:=by
 obtain ⟨o,ho,hc,hd⟩:=id hit
 unfold pyNext
 refine vN (Au (x6 (name:=Str.ofString "__next__") hit.typeIs slot_next (xP slot_next hit.typeIs entry_next ?_ (args_next _))))
 unfold Builtin.«reversed.__next__»
 refine vN (yl (a:=(wz I,[])) rfl ?_)
 try dsimp only
 refine vN (yj ho hd (x :=.ref t) rfl ?_)
 refine vN (yj ho hd (x:=Bp (-1)) rfl ?_)
 show wA _ _ (if (-1:Int)<0 then _ else _) _ _ s
 rw[if_pos (by decide)]
 refine vN (zd ?_)
 refine vN ?_
 show wA _ _ (setField (.ref I) 1 (Bp (-1)) >>= λ_=>setField (.ref I) 0 .none) _ _ s
 refine vN (AJ ho hd (by simp) ?_)
 have h1:=xG (Obj.mapFields λfs=>fs.setIfInBounds 1 (Bp (-1))) ho (AM (ze hd _))
 refine AJ h1 (ze hd _) (by simp) ?_
 refine vN ?_
 show wA _ _ (newExc (.type "StopIteration") [] >>= _) _ _ _
 refine vN ?_
 simp only[newExc,newTuple]
 refine vN (xo ?_ (by size_fits))
 refine vN (m:=firstArgMember _ _) (yl (a:=yv) (by first | rfl | (simp only[firstArgMember];rfl)) ?_)
 refine xo ?_ (by size_fits)
 simp only[raiseNew]
 refine vN (wpAny_handled ?_)
 first | rw[show A.in1.handled=none from hh] | rw[hh]
 refine vN (vW (wpAny_throw ?_))
 refine vN (Ad (T := "StopIteration") (b:=true) ⟨_,v9 _ rfl,rfl⟩ isSubtype_stop ?_)
 refine vW (hQ _ ?_)
 refine Dr (Dr (λb o hb eo =>?_) _) _
 exact (xp _ _ (xF hb)).trans ((xp _ _ (xF hb)).trans eo)
theorem m5 {I t:Addr}{i:Int}{Q:vP->vR->Prop}(hit:eC s.heap I t i)(h:Q (.ref I) s):wA (wI prog w) A (pyIter (.ref I)) Q E s:=by
 refine BI hit.typeIs jf (xP jf hit.typeIs lR ?_ (oF _))
 show wA _ _ (ret (.ref I)) _ _ s
 exact vW ⟨_,rfl, "reversed",_,hit.typeIs,slot_next.lookup,h⟩
theorem jg:Slot "reversed" "__length_hint__" "reversed.__length_hint__" :=
 .of (owner := "reversed") (n := "__length_hint__") fB (by decide +kernel) (by decide +kernel) (by decide +kernel)
  (by first | exact .inl (by decide +kernel) | exact .inr (by decide +kernel)) sub_self
theorem lS:entryFor table "reversed.__length_hint__" = some Builtin.«reversed.__length_hint__» := entryFor_of_tree (by kernel_rfl)
theorem oJ (a:vP):argsOk "reversed.__length_hint__" ⟨[a],[]⟩:=by
 unfold argsOk;rw[CP (id := "reversed.__length_hint__") (n:=['_', '_', 't', 'n', 'i', 'h', '_', 'h', 't', 'g', 'n', 'e', 'l', '_', '_']) (o:=['d', 'e', 's', 'r', 'e', 'v', 'e', 'r']) (by kernel_rfl) fN];kernel_rfl
theorem oK {I t:Addr}{its:Array vP}{Q:vP->vR->Prop}(hit:eC s.heap I t ((its.size:Int)-1))(ht:IsTup s.heap t its)(hz:(its.size:Int)<2 ^ 63)
  (h:∀u tk,Q (.int its.size u) { s with toks:=tk }):wA (wI prog w) A (call (.builtin "reversed.__length_hint__") [.ref I]) Q E s:=by
 obtain ⟨o,ho,hc,hd⟩:=id hit
 refine xP jg hit.typeIs lS ?_ (oJ _)
 unfold Builtin.«reversed.__length_hint__»
 refine vN (yl (a:=wz I) rfl ?_)
 refine vN (yj ho hd (x :=.ref t) rfl ?_)
 refine xD (λhab=>absurd hab (show ¬ (false=true) from wa)) (λ_ =>?_)
 refine vN (len_tuple ht hz ?_)
 refine vN (yl (a:=some (its.size:Int)) rfl ?_)
 refine vN (yj ho hd (x:=Bp ((its.size:Int)-1)) rfl ?_)
 show wA _ _ (if (its.size:Int)<((its.size:Int)-1)+1 then _ else retInt (((its.size:Int)-1)+1)) _ _ _
 rw[if_neg (by omega),show ((its.size:Int)-1)+1=its.size by omega]
 exact vN (DE (vW ⟨_,rfl,h _ _⟩))
theorem sv {I t:Addr}{its:Array vP}{Q:Bool->vR->Prop}(hit:eC s.heap I t ((its.size:Int)-1))(ht:IsTup s.heap t its)(hz:its.size<=2 ^ 24)(h:∀b tk,Q b { s with toks:=tk }):wA (wI prog w) A (yZ (.ref I)) Q E s:=by
 unfold yZ
 refine vN (yW hit.typeIs lN ?_)
 wp_delta
 refine vN (yW hit.typeIs fB ?_)
 generalize hid:("reversed.__length_hint__" : String)=id0
 wp_delta
 rw[show splitId id0=some ("reversed", "__length_hint__") from by subst hid;decide +kernel]
 subst hid
 refine vN (Ad (T := "reversed") (b:=true) hit.typeIs sub_self ?_)
 refine xD (λhab=>absurd hab (by decide)) (λ_ =>?_)
 refine xD (λhab=>absurd hab (by decide +kernel)) (λ_ =>?_)
 refine vN (zd ?_)
 refine vN (yl (jg.bind _) ?_)
 refine vN (Au (oK hit ht (by omega) λu tk =>?_))
 show wA _ A (asInt? (.int (its.size:Int) u) >>= _) Q E _
 have ea:asInt? (yo (its.size:Int) u)=pure (some (its.size:Int)):=rfl
 rw[ea,pure_bind]
 generalize hn:(its.size:Int)=n
 dsimp only
 refine xD (λhab=>absurd hab ?_) (λ_ =>?_)
 ·unfold Builtin.List.listFitsIndex;simp;omega
 refine xD (λhab=>absurd hab (by omega)) (λ_ =>?_)
 refine xD (λhab=>absurd hab ?_) (λ_ =>?_)
 ·rw[L2.gG (by rw[AG];omega)];exact wa
 exact vW (h _ _)
end
theorem walk {prog:wu}{w:w4}{A:w6}(hh:A.handled=none)(I t:Addr)(hne:t≠I)(its:Array vP)(hz:(its.size:Int)<2 ^ 63) :
  Walks prog w A I [I,t] [I] its.size (λi v=>its[its.size-1-i]? = some v) (λi h=>i<=its.size/\eC h I t ((its.size:Int)-1-(i:Int))/\IsTup h t its) where
 sub:=λb hb=>by simp at hb;simp[hb]
 frame:=λ_ _ _ x hk=>⟨x.1,x.2.1.at λo e=>hk I (by simp) o e,kI x.2.2 λo e=>hk t (by simp) o e⟩
 item:=λi s Q E hi x hQ=>by
  have e:(its.size:Int)-1-(i:Int)=((its.size-1-i:Nat):Int):=by omega
  have hit:=x.2.1
  rw[e] at hit
  have hx:its[its.size-1-i]? = some (its[its.size-1-i]'(by omega)):=wY (by omega)
  refine next_item hit x.2.2 hx (by omega) λh' tk hit' hs' =>?_
  have e2:((its.size-1-i:Nat):Int)-1=(its.size:Int)-1-((i+1:Nat):Int):=by omega
  rw[e2] at hit'
  exact hQ _ h' tk hx ⟨hi,hit',kI x.2.2 λo eo=>(hs'.2 t hne).trans eo⟩ λb o hb eo=>hs'.extBut b o (λh=>hb (by simp[h])) eo
 done:=λs Q E x hQ=>by
  have e:(its.size:Int)-1-(its.size:Int) = -1:=by omega
  have hit:=x.2.1
  rw[e] at hit
  exact next_end hh hit λh' he'=>hQ h' s.toks λb o hb eo=>he' b o (λh=>hb (by simp[h])) eo
 self:=λ_ _ _ _ x hQ=>m5 x.2.1 hQ
section
variable  {prog:wu}{w:w4}{A:w6}{E:vP->vR->Prop}{s:vR}
theorem oM {R:Result->vR->Prop}{I t:Addr}{items:Array vP}(hh:A.handled=none)(hit:eC s.heap I t ((items.size:Int)-1))(hl:IsTup s.heap t items)(hne:t≠I)(hlen:items.size<=2 ^ 24)
  (S:Addr) (hSI:S≠I) (hSl:S≠t) (res:vP) (c₀:Nat) (hS:s.heap.get? S=some { cls :=.type "list",data :=.seq #[] c₀ })
  (hR:∀h' tk acc' c',(∀b o,b≠S->b≠I->s.heap.get? b=some o->h'.get? b=some o)->h'.get? S=some { cls :=.type "list",dict:=none,data :=.seq acc' c',slots := #[] } →
   ItemsOf (λi v=>items[items.size-1-i]? = some v) acc' items.size->R (.ok (.ret res)) { s with heap:=h',toks:=tk }) :
  wA (wI prog w) A.in1 (xn (.ref S) (.ref I) res)
   (λfin s'=>match fin with | .done f=>R (.ok f) s' | .again c'=>c'.quiet=true/\AZ (wI prog w) A c' R s') (λe s'=>R (.error e) s') s:=by
 have hSf:S∉[I,t]:=λhm=>by
  rcases wj.mp hm with e | hm
  ·exact hSI e
  ·exact hSl (wc.mp hm)
 have W:=(walk (prog:=prog) (w:=w) (A:=A.in1) hh I t hne items (by omega)).toS
 unfold xn
 refine vN (zN (T := "reversed") hit.typeIs ?_)
 have h1:zr (.ref S) (.ref I)=false:=by simp[zr,hSI]
 have h2:(yF "reversed" == yF "list")=false:=by decide +kernel
 have h3:(yF "reversed" == yF "tuple")=false:=by decide +kernel
 simp only[h1,h2,h3,D1,xW,if_false]
 refine vN (m5 hit ?_)
 refine vN (yx (sv hit hl hlen λb tk =>?_))
 refine xD (λ_ =>?_) (λ_=>vW ⟨yn Bv _,?_⟩)
 ·refine vN (zd ?_)
  refine vN ?_
  show wA _ A.in1 (updateSeq S (·.push .none) >>= λ_=>updateSeq S (·.pop)) _ _ _
  refine vN (zO hS rfl ?_)
  have hS₂:=xG (zt (·.push yv)) hS rfl
  refine zO (hz:=by seq_fits) hS₂ rfl ?_
  have hS₃:=xG (zt (·.pop)) hS₂ rfl
  have oth:∀b o,b≠S->s.heap.get? b=some o->((s.heap.update S (zt (·.push yv))).update S (zt (·.pop))).get? b=some o :=
   λb o hb e=>(xp _ _ (xF hb)).trans ((xp _ _ (xF hb)).trans e)
  refine vW ⟨yn Bv _,A3 W (by rw[AG];omega) S hSf res items.size 0 _ _ _ rfl (wM _) ⟨wM _,by simpa using hit.at λo e=>oth I o (xF hSI) e,kI hl λo e=>oth t o (xF hSl) e⟩ hS₃ (DC _) λs' acc' c' hm hS' hacc =>?_⟩
  rw[CK hm]
  refine hR s'.heap s'.toks acc' c' (λb o hb hbI e=>hm.heap b o (λhmem =>?_) (oth b o hb e)) hS' hacc
  rcases wj.mp hmem with e' | hmem
  ·exact hb e'
  ·exact hbI (wc.mp hmem)
 refine A3 W (by rw[AG];omega) S hSf res items.size 0 _ #[] c₀ rfl (wM _) ⟨wM _,by simpa using hit,hl⟩ hS (DC _) λs' acc' c' hm hS' hacc =>?_
 rw[CK hm]
 refine hR s'.heap s'.toks acc' c' (λb o hb hbI e=>hm.heap b o (λhmem =>?_) e) hS' hacc
 rcases wj.mp hmem with e' | hmem
 ·exact hb e'
 ·exact hbI (wc.mp hmem)
theorem lU {R:List vP->vR->Prop}{I t:Addr}{items:Array vP}(hh:A.handled=none)(hit:eC s.heap I t ((items.size:Int)-1))(hl:IsTup s.heap t items)(hne:t≠I)(hlen:items.size<=2 ^ 24)
    (h:∀(h1:Heap) (tk:Nat) (vs:List vP),vs=items.toList.reverse->(∀b o,b≠I->s.heap.get? b=some o->h1.get? b=some o)->R vs { s with heap:=h1,toks:=tk }) :
    wA (wI prog w) A (collect (.ref I)) R E s:=by
  obtain ⟨oi,hoi,_⟩:=id hit
  obtain ⟨ol,hol,_⟩:=id hl
  unfold collect
  refine vN (Bw (x3 PySem.F.entry_proto_collect ?_))
  rw[yc PySem.F.plain_proto_collect _]
  show wA _ A.in1 (newList [] >>= λl=>again (.builtin "list.__iadd__" ⟨[l,.ref I],[]⟩)) _ _ s
  refine vN (xo ?_)
  refine vW ⟨yn BQ _,x3 PySem.F.entry_list_iadd ?_⟩
  rw[yc BQ _]
  show wA _ A.in1 (xn (.ref s.heap.objs.size) (.ref I) (.ref s.heap.objs.size)) _ _ { s with heap:=s.heap.push { cls :=.type "list",data :=.seq ([]:List vP).toArray } }
  have hS0:(s.heap.push { cls :=.type "list",data :=.seq ([]:List vP).toArray }).get? s.heap.objs.size=some { cls :=.type "list",data :=.seq #[] 0 }:=v9 _ rfl
  refine oM (A:=A) (R:=λres s'=>match res with
      | .ok (.ret v)=>wA (wI prog w) A (match v with | .ref a=>(do match (← load a).data with | .seq xs _=>pure xs.toList | _=>unsupported "internal:collect") | _=>unsupported "internal:collect") R E s'
      | .ok _=>False
      | .error e=>E e s') (s:={ s with heap:=s.heap.push { cls :=.type "list",data :=.seq ([]:List vP).toArray } }) hh (hit.at λo e=>vO _ e) (kI hl λo e=>vO _ e) hne hlen s.heap.objs.size (xF (wg (v3 hoi))) (xF (wg (v3 hol))) (.ref s.heap.objs.size) 0 hS0 λh' tk acc' c' kk hS' it =>?_
  show wA _ A (load s.heap.objs.size >>= _) _ _ { s with heap:=h',toks:=tk }
  refine vN (DU hS' ?_)
  refine vW (h h' tk acc'.toList ?_ λb o hb e=>kk b o (wg (v3 e)) hb (vO _ e))
  refine AE λj =>?_
  rw[v8]
  have h1:acc'.size=items.toList.length:=it.1
  by_cases hj:j<items.toList.length
  · obtain ⟨v,hv⟩:∃v,acc'[j]? = some v:=⟨acc'[j]'(by omega),wY _⟩
    have:=it.2 j v hv
    dsimp only at this
    rw[<- v8] at this
    rw[hv,Cf hj, <- this]
    rfl
  · rw[y8 (by omega),zK (by rw[xK];omega)]
theorem gi (I t:Addr)(items:Array vP)(hne:t≠I)(hn:items.size<=1000) :
  Meets (Builtin.«tuple.__new__» ⟨[.type "tuple",.ref I],[]⟩)
   (λA R s=>A.handled=none/\eC s.heap I t ((items.size:Int)-1)/\IsTup s.heap t items/\∀(h':Heap) (tk:Nat),(∀b o',b≠I->s.heap.get? b=some o'->h'.get? b=some o')->R (.ok (.ret (.ref h'.objs.size))) { s with heap:=h'.push { cls :=.type "tuple",data :=.seq items.toList.reverse.toArray },toks:=tk }) :=
 .of_wp λprog w A R s h=>by
  obtain ⟨hp,g,d,tk,os⟩:=s;obtain ⟨hh,hr,ht,h⟩:=h
  have hsub:=sub_tuple_self
  have hinit:=init_tuple_lookup
  have hmh:=madeHere_tuple
  have hT:Shared.TypeIs ⟨hp,g,d,tk,os⟩ (.ref I) "reversed" := eC.typeIs (s:=⟨hp,g,d,tk,os⟩) hr
  wp_walk using zN hT,lU (by simpa using hh) hr ht hne (by omega)
  rintro h' tk' vs rfl hk
  show wA _ _ (Builtin.Tuple.tupleExact items.toList.reverse.toArray >>= λv=>ret v) _ _ _
  unfold Builtin.Tuple.tupleExact
  refine vN (xo ?_ (by show items.toList.reverse.toArray.size<=vZ;rw[vT,xK,vX];exact small hn))
  exact vW ⟨_,rfl,h h' tk' hk⟩
end
end L2.RvT
namespace L2
open PySem PySem.Spec PyProof.Rows
section
variable  {X:Cx}
theorem oN:xA "tuple" = some (.type "tuple"):=by decide +kernel
def sC (K:vV)(te:TE):TE:=λσ H Q=>te σ H λx H1=>∃l xs,x = .ref l/\SqT K H1 l xs/\xs.length<=1000/\∀p,H1 p=none->Q (.ref p) (upd H1 p (.tup xs.reverse))
theorem fO {e:Expr}{te:TE}{p1 p2 pos1 pos2:Pos}(hh:X.A.handled=none)(hg1:Gl X "tuple")(hm1:X.mg "tuple" = none)(hg2:Gl X "reversed")(hm2:X.mg "reversed" = none)(he:PE X e te)
  (hs1:xb [Expr.Call (.Name "reversed" p2) [e] [] pos2] X.env=(false,eval (.Call (.Name "reversed" p2) [e] [] pos2) X.env) :: xb [] X.env:=by rfl) (hp1:(Aw pos1 (xb [] X.env)).any (·.1)=false:=by rfl)
  (hs2:xb [e] X.env=(false,eval e X.env) :: xb [] X.env:=by rfl) (hp2:(Aw pos2 (xb [] X.env)).any (·.1)=false:=by rfl) :
  PE X (.Call (.Name "tuple" p1) [.Call (.Name "reversed" p2) [e] [] pos2] [] pos1) (sC X.K te):=by
 intro pins s σ H Q I h
 refine yE (cR I hg1 hm1 oN ?_ (by decide) (by decide))
 refine xu ?_ hs1 hp1
 rw[hs1]
 show wA _ _ (spliced ((false,eval (.Call (.Name "reversed" p2) [e] [] pos2) X.env) :: Aw pos1 (xb [] X.env))) _ _ s
 refine yB ?_
 refine yE (cR I hg2 hm2 gf ?_ (by decide) (by decide))
 refine xu (thn ((aa he ag hs2) pos2 pins s σ H (λvs H1=>match vs with | [x]=>∃l xs,x = .ref l/\SqT X.K H1 l xs/\xs.length<=1000/\∀p,H1 p=none->Q (.ref p) (upd H1 p (.tup xs.reverse)) | _=>False) I ?_) λus s1 ⟨vs,H1,I1,r1,q1⟩ =>?_) hs2 hp2
 ·exact h
 ·match vs,q1 with
  | [x],q1 =>
  obtain ⟨t,xs,rfl,hx,h1000,q⟩:=q1
  obtain ⟨u,rfl,ru⟩:=vals1 r1
  cases (show u=wz t from ru)
  obtain ⟨its,r,ht,hz⟩:=I1.tuple hx
  have ll:=r.length
  have lz:its.toArray.size=xs.length:=by rw[vT];exact ll.symm
  refine RvT.qz ht (by rw[lz];omega) ?_
  refine zP ?_
  obtain ⟨ot,hot,_⟩:=id ht
  refine Dd PySem.F.called_tuple (by decide) (PySem.F.typeCall_tuple_1 _) (PySem.F.newCall_tuple_1 _) (λobj=>Bj obj _) PySem.F.entry_tuple_new
   (RvT.gi s1.heap.objs.size t its.toArray (wg (v3 hot)) (by rw[lz];exact h1000)) ⟨by simpa using hh,⟨_,v9 _ rfl,rfl,rfl⟩,RvT.kI ht (λo e=>vO _ e),λh' tk k=>⟨⟨_,v9 _ rfl,rfl⟩,?_⟩⟩
  have I2:Inv X pins σ H1 { s1 with heap:=h',toks:=tk }:=I1.kept λb o e=>k b o (wg (v3 e)) (vO _ e)
  exact ⟨.ref h'.objs.size,_,I2.laid (o :=.tup xs.reverse) (λb ob q=>vO _ q) (vS _) ⟨by rw[xK];exact small h1000,its.reverse,hJ r,cQ.new _ _⟩,rfl,q _ (I2.hok.fresh (vS _))⟩
theorem bJ:SlR X (λx lo hi H Q=>∃a xs,x = .ref a/\H a=some (.tup xs)/\∀p2 H2,aB H H2->H2 p2=some (.tup (cJ xs lo hi))->Q (.ref p2) H2):=by
 intro pins s σ H x v vl vu lo hi sl Q I rx hs pl pu h
 obtain ⟨a,xs,rfl,ep,key⟩:=h
 refine si pins s σ H _ v vl vu lo hi sl Q I rx hs pl pu ⟨a,xs,rfl,SqT.of ep,λz=>key a H (aB.refl _) ?_,λ_ p2 hp2=>key p2 _ (ae hp2 _) ah⟩
 unfold cJ
 rw[z.1,z.2,Bt,C9,List.take_length]
 exact ep
theorem bT:OpR X (binaryOp .Add) (λx y H Q=>∃a b xs ys,x = .ref a/\y = .ref b/\H a=some (.tup xs)/\H b=some (.tup ys)/\xs.length+ys.length<=vZ/\∀p H',aB H H'->H' p=some (.tup (xs++ys))->Q (.ref p) H'):=by
 intro pins s σ H x y v u Q I rx ry h
 obtain ⟨a,b,xs,ys,rfl,rfl,ha,hb,hz,q⟩:=h
 exact qx pins s σ H _ _ v u Q I rx ry (mZ.one ha hb hz q)
end
end L2
namespace L2.MnT
open PySem PyProof.Rows
section
variable  {prog:wu}{w:w4}{A:w6}{E:vP->vR->Prop}{I:Addr}{fp wr:List Addr}{n:Nat}{P:Nat->vP->Prop}{St:Nat->Heap->Prop}
def Cmp (prog:wu)(w:w4)(A:w6)(P:Nat->vP->Prop)(St:Nat->Heap->Prop)(bt:Nat->Nat->Bool):Prop :=
 ∀k i j x y (s:vR) (Q E:vP->vR->Prop),St k s.heap->P i x->P j y->Q (.bool (bt i j)) s->wA (wI prog w) A (richCompare .Lt x y) Q E s
abbrev Bag (S:Addr)(xs:Array vP)(c:Nat)(h:Heap):Prop:=h.get? S=some { cls :=.type "list",dict:=none,data :=.seq xs c,slots := #[] }
abbrev Kept (wr:List Addr)(S:Addr)(h h':Heap):Prop:=∀b o,b∉wr->b≠S->h.get? b=some o->h'.get? b=some o
theorem loop {R:Result->vR->Prop}(W:Walks prog w A.in1 I fp wr n P St){bt:Nat->Nat->Bool}(C:Cmp prog w A.in1 P St bt){S:Addr}(nS:S∉fp):∀(d j:Nat) (s:vR) (best:vP) (c:Nat),n=j+1+d->St (j+1) s.heap->P (argBest bt j) best->Bag S #[best,best] c s.heap →
  (∀v h' tk,P (argBest bt (n-1)) v->Kept wr S s.heap h'->R (.ok (.ret v)) { s with heap:=h',toks:=tk })->AZ (wI prog w) A (.builtin "min.loop" ⟨[.ref I,.none,.ref S],[]⟩) R s:=by
 have nw:S∉wr:=λh=>nS (W.sub _ h)
 have nm:(toString "min" ++ toString ".loop" : String) = "min.loop" := by decide
 intro d
 induction d with
 | zero =>
  intro j s best c hn st pb bg hR
  have e:j+1=n:=by omega
  rw[e] at st
  refine x3 Az ?_
  rw[yc xV _]
  show wA _ _ (seqItems? (.ref S) >>= _) _ _ s
  refine vN (Aa bg rfl ?_)
  show wA _ _ (tryCatch (pyNext (.ref I)) _ >>= _) _ _ s
  refine vN (Bx (W.done s _ _ st λh1 tk kp =>?_))
  show wA _ _ (updateSeq S (λ_ => #[]) >>= _) _ _ _
  refine vN ?_
  refine zO (kp S _ nw bg) rfl (vN (BS (vW (hR best _ tk (by rw[<- e];exact pb) ?_))))
  exact λb o nb ns eb=>(xp _ _ (xF ns)).trans (kp b o nb eb)
 | succ d ih =>
  intro j s best c hn st pb bg hR
  refine x3 Az ?_
  rw[yc xV _]
  show wA _ _ (seqItems? (.ref S) >>= _) _ _ s
  refine vN (Aa bg rfl ?_)
  show wA _ _ (tryCatch (pyNext (.ref I)) _ >>= _) _ _ s
  refine vN (Bx (W.item (j+1) s _ _ (by omega) st λv h1 tk pv st1 kp =>?_))
  have bg1:=kp S _ nw bg
  show wA _ _ (tryCatch (holding [v,v] (richCompare .Lt v best >>= _)) _ >>= _) _ _ _
  refine vN (Bx (yx (vN (C (j+1+1) (j+1) (argBest bt j) v best _ _ _ st1 pv pb ?_))))
  refine vN (yx (yO ?_))
  refine vN (BS (vW ?_))
  by_cases hb:bt (j+1) (argBest bt j)=true
  ·have ea:argBest bt (j+1)=j+1:=by simp only[argBest,hb,if_true]
   rw[hb]
   simp only[if_true]
   refine vN ?_
   refine zO bg1 rfl (vN (BS ?_))
   rw[nm]
   refine vW ⟨yn xV _,ih (j+1) _ v _ (by omega) (W.frame _ _ _ st1 λb fb o eb =>?_) (by rw[ea];exact pv) (xG _ bg1 rfl) λv2 h2 tk2 p2 k2=>hR v2 h2 tk2 p2 λb o nb ns eb=>k2 b o nb ns ?_⟩
   ·exact (xp _ _ (λz:S=b=>nS (z ▸ fb))).trans eb
   ·exact (xp _ _ (xF ns)).trans (kp b o nb eb)
  ·have ea:argBest bt (j+1)=argBest bt j:=by simp only[argBest,hb];rfl
   rw[zT.mpr hb]
   simp only[xW,if_false]
   refine vN (BS ?_)
   rw[nm]
   exact vW ⟨yn xV _,ih (j+1) _ best c (by omega) st1 (by rw[ea];exact pb) bg1 λv2 h2 tk2 p2 k2=>hR v2 h2 tk2 p2 λb o nb ns eb=>k2 b o nb ns (kp b o nb eb)⟩
theorem first {R:Result->vR->Prop}(W:Walks prog w A.in1 I fp wr n P St){bt:Nat->Nat->Bool}(C:Cmp prog w A.in1 P St bt){S:Addr}(nS:S∉fp)(hn:0<n){s:vR}{c:Nat}(st:St 0 s.heap)(bg:Bag S #[] c s.heap)
  (hR:∀v h' tk,P (argBest bt (n-1)) v->Kept wr S s.heap h'->R (.ok (.ret v)) { s with heap:=h',toks:=tk }):AZ (wI prog w) A (.builtin "min.loop" ⟨[.ref I,.none,.ref S],[]⟩) R s:=by
 have nw:S∉wr:=λh=>nS (W.sub _ h)
 have nm:(toString "min" ++ toString ".loop" : String) = "min.loop" := by decide
 refine x3 Az ?_
 rw[yc xV _]
 show wA _ _ (seqItems? (.ref S) >>= _) _ _ s
 refine vN (Aa bg rfl ?_)
 show wA _ _ (tryCatch (pyNext (.ref I)) _ >>= _) _ _ s
 refine vN (Bx (W.item 0 s _ _ hn st λv h1 tk pv st1 kp =>?_))
 have bg1:=kp S _ nw bg
 show wA _ _ (updateSeq S (λ_ => #[v,v]) >>= _) _ _ _
 refine vN ?_
 refine zO bg1 rfl ?_
 rw[nm]
 refine vW ⟨yn xV _,loop W C nS (n-1) 0 _ v _ (by omega) (W.frame _ _ _ st1 λb fb o eb =>?_) pv (xG _ bg1 rfl) λv2 h2 tk2 p2 k2=>hR v2 h2 tk2 p2 λb o nb ns eb=>k2 b o nb ns ?_⟩
 ·exact (xp _ _ (λz:S=b=>nS (z ▸ fb))).trans eb
 ·exact (xp _ _ (xF ns)).trans (kp b o nb eb)
def Goes (prog:wu)(w:w4)(A:w6)(Q:vP->vR->Prop)(it:vP)(s:vR):Prop:=∃I fp wr n P St bt,it = .ref I/\Walks prog w A.in1 I fp wr n P St/\St 0 s.heap/\(∀b∈fp,b<s.heap.objs.size)/\0<n/\Cmp prog w A.in1 P St bt ∧
 ∀v h' tk,P (argBest bt (n-1)) v->(∀b o,b∉wr->s.heap.get? b=some o->h'.get? b=some o)->Q v { s with heap:=h',toks:=tk }
theorem vB {s:vR}{x:vP}{Q:vP->vR->Prop}(h:wA (wI prog w) A.in1 (pyIter x) (Goes prog w A Q) E s):wA (wI prog w) A (call (.builtin "min") [x]) Q E s:=by
 have nm:(toString "min" ++ toString ".loop" : String) = "min.loop" := by decide
 refine CQ Ds C0 C3 (PySem.F.args_min1 _) ?_
 show wA _ _ (Builtin.Builtins.bindParams "min" ["key", "default"] 0 ⟨[],[]⟩ >>= _) _ _ s
 refine vN (yl (a:=[none,none]) rfl ?_)
 refine vN (vW ?_)
 refine vN (yt h (λit s2 g =>?_) λ_ _ e=>e)
 obtain ⟨I,fp,wr,n,P,St,bt,rfl,W,st,hf,hn,C,hq⟩:=g
 refine vN (xo ?_)
 rw[nm]
 refine vW ⟨yn xV _,first W C (S:=s2.heap.objs.size) (λhm=>xq _ (hf _ hm)) hn (W.frame _ _ _ st λb _ o e=>vO _ e) (v9 _ rfl) λv h' tk pv kp =>?_⟩
 exact hq v h' tk pv λb o nb e=>kp b o nb (wg (v3 e)) (vO _ e)
theorem call2 {s:vR}{a b:vP}{Q:vP->vR->Prop}(h:wA (wI prog w) A.in1 (pyIter (.ref s.heap.objs.size)) (Goes prog w A Q) E { s with heap:=s.heap.push { cls :=.type "tuple",data :=.seq #[a,b] } }):wA (wI prog w) A (call (.builtin "min") [a,b]) Q E s:=by
 have nm:(toString "min" ++ toString ".loop" : String) = "min.loop" := by decide
 refine CQ Ds C0 C3 (PySem.F.args_min2 _ _) ?_
 show wA _ _ (Builtin.Builtins.bindParams "min" ["key", "default"] 0 ⟨[],[]⟩ >>= _) _ _ s
 refine vN (yl (a:=[none,none]) rfl ?_)
 show wA _ _ (newTuple [a,b] >>= _) _ _ s
 refine vN (xo ?_)
 refine vN (yt h (λit s2 g =>?_) λ_ _ e=>e)
 obtain ⟨I,fp,wr,n,P,St,bt,rfl,W,st,hf,hn,C,hq⟩:=g
 refine vN (xo ?_)
 rw[nm]
 refine vW ⟨yn xV _,first W C (S:=s2.heap.objs.size) (λhm=>xq _ (hf _ hm)) hn (W.frame _ _ _ st λb _ o e=>vO _ e) (v9 _ rfl) λv h' tk pv kp =>?_⟩
 exact hq v h' tk pv λb o nb e=>kp b o nb (wg (v3 e)) (vO _ e)
def TI (h:Heap)(t:Addr×List Int):Prop:=∃its:Array vP,IsTup h t.1 its/\yY its.toList t.2
theorem TI.at {h h':Heap}{t:Addr×List Int}(x:TI h t)(e:∀o,h.get? t.1=some o->h'.get? t.1=some o):TI h' t:=let ⟨its,⟨o,ho,r⟩,y⟩:=x;⟨its,⟨o,e o ho,r⟩,y⟩
theorem more (W:Walks prog w A I fp wr n P St)(ts:List (Addr×List Int))(nw:∀t∈ts,t.1∉wr):Walks prog w A I (fp++ts.map (·.1)) wr n P (λi h=>St i h/\∀t∈ts,TI h t) where
 sub:=λb hb=>vY.mpr (.inl (W.sub b hb))
 frame:=λi h h' x hk=>⟨W.frame i h h' x.1 λb hb o e=>hk b (vY.mpr (.inl hb)) o e,λt ht=>(x.2 t ht).at (hk t.1 (vY.mpr (.inr (xM (f:=(·.1)) ht))))⟩
 item:=λi s Q E hi x hQ=>W.item i s Q E hi x.1 λv h' tk pv st' kp=>hQ v h' tk pv ⟨st',λt ht=>(x.2 t ht).at λo=>kp t.1 o (nw t ht)⟩ kp
 done:=λs Q E x hQ=>W.done s Q E x.1 hQ
 self:=λi s Q E x hQ=>W.self i s Q E x.1 hQ
theorem cmp (ts:List (Addr×List Int))(hu:A.units<cLine)(hP:∀i v,P i v->∃t,ts[i]? = some t/\v = .ref t.1):Cmp prog w A P (λi h=>St i h/\∀t∈ts,TI h t) (λi j=>HT.lexLt (ts.getD i (0,[])).2 (ts.getD j (0,[])).2):=by
 intro k i j x y s Q E st hx hy h
 obtain ⟨t,et,rfl⟩:=hP i x hx
 obtain ⟨u,eu,rfl⟩:=hP j y hy
 obtain ⟨i1,p1,a1⟩:=st.2 t (we et)
 obtain ⟨i2,p2,a2⟩:=st.2 u (we eu)
 dsimp only at h
 rw[v5,v5,et,eu] at h
 exact HT.k9 p1 p2 a1 a2 hu h
theorem best (g:Nat->List Int):∀k,(argBest (λi j=>HT.lexLt (g i) (g j)) k<=k)/\∀j,j<=k->HT.lexLt (g j) (g (argBest (λi j=>HT.lexLt (g i) (g j)) k))=false
 | 0=>⟨vS _,λj hj=>by rw[Nat.le_zero.mp hj];exact Srt.lex_irrefl _⟩
 | k+1=>by
  obtain ⟨l,ih⟩:=best g k
  by_cases hb:HT.lexLt (g (k+1)) (g (argBest (λi j=>HT.lexLt (g i) (g j)) k))=true
  ·have ea:argBest (λi j=>HT.lexLt (g i) (g j)) (k+1)=k+1:=by simp only[argBest,hb,if_true]
   rw[ea]
   refine ⟨vS _,λj hj =>?_⟩
   by_cases e:j=k+1
   ·rw[e];exact Srt.lex_irrefl _
   ·refine zT.mpr λz =>?_
    have:=ih j (by omega)
    rw[Srt.lex_trans _ _ _ z hb] at this
    cases this
  ·have ea:argBest (λi j=>HT.lexLt (g i) (g j)) (k+1)=argBest (λi j=>HT.lexLt (g i) (g j)) k:=by simp only[argBest,hb];rfl
   rw[ea]
   refine ⟨by omega,λj hj =>?_⟩
   by_cases e:j=k+1
   ·rw[e];exact zT.mpr hb
   ·exact ih j (by omega)
end
end L2.MnT
namespace L2
open PySem PySem.Spec PyProof.Rows
section
variable  {X:Cx}
theorem lV (hc:X.calm=true)(hu:X.A.units+8<cLine):cc X (.builtin "min") (λxs H Q=>∃(p:Addr) (ts:List (Addr×List Int)),xs=[.ref p]/\SqL X.K H p (ts.map λt =>.ref t.1)/\(∀t∈ts,SqT X.K H t.1 (t.2.map V.int))/\ts≠[]/\∀t∈ts,(∀u∈ts,HT.lexLt u.2 t.2=false)->Q (.ref t.1) H):=by
 intro pins s σ H xs us Q I r h
 obtain ⟨p,ts,rfl,hS,hT,hne,q⟩:=h
 obtain ⟨u,rfl,ru⟩:=vals1 r
 cases (show u=wz p from ru)
 obtain ⟨its,r1,p1,_⟩:=I.list hS
 have hl:s.heap.IsList p its.toArray:=p1.isList
 have ll:=r1.length
 rw[vM] at ll
 have hp:0<ts.length:=xZ.mpr hne
 have TIs:∀t∈ts,MnT.TI s.heap t:=λt ht=>by
  obtain ⟨i2,r2,p2,_⟩:=I.tuple (hT t ht)
  exact ⟨_,p2,intsAre_of r2⟩
 have hlt:∀t∈ts,t.1<s.heap.objs.size:=λt ht=>by
  obtain ⟨_,⟨o,ho,_⟩,_⟩:=TIs t ht
  exact v3 ho
 have hpl:p<s.heap.objs.size:=by obtain ⟨_,e,_⟩:=hl;exact v3 e
 have at_:∀(i:Nat) (v:vP),its.toArray[i]? = some v->∃t:Addr×List Int,ts[i]? = some t/\v=wz t.1:=λi v hv=>by
  rw[wW] at hv
  have hi:i<ts.length:=by rw[ll];exact (v7.mp hv).1
  have e1:(ts.map λt=>V.ref t.1)[i]? = some (.ref ts[i].1):=by rw[wm,vU hi];rfl
  obtain ⟨w',ew,rw'⟩:=r1.get e1
  rw[ew] at hv
  exact ⟨ts[i],vU hi,(wB hv).symm.trans rw'⟩
 refine MnT.vB (AF hl ?_)
 refine ⟨s.heap.objs.size,_,_,its.toArray.size,_,_,_,rfl,MnT.more (DS (A:=X.A.in1) (I.ok.hd hc) s.heap.objs.size p (wg hpl) its.toArray) ts (λt ht hm =>?_),⟨⟨⟨_,v9 _ rfl,rfl,rfl⟩,hl.push _⟩,λt ht=>(TIs t ht).at λo e=>vO _ e⟩,λb hb =>?_,by rw[vT];omega,MnT.cmp ts ?_ at_,λv h' tk pv kp =>?_⟩
 ·have:=hlt t ht
  rw[wc.mp hm] at this
  exact xq _ this
 ·show b<(s.heap.push _).objs.size
  rw[yw]
  rcases vY.mp hb with hb | hb
  ·rcases wj.mp hb with rfl | hb
   ·exact xO _
   ·rw[wc.mp hb];exact xB hpl
  ·obtain ⟨t,ht,rfl⟩:=xc.mp hb
   exact xB (hlt t ht)
 ·show X.A.units+_<cLine
  omega
 ·obtain ⟨t,et,rfl⟩:=at_ _ v pv
  obtain ⟨b1,b2⟩:=MnT.best (λi=>(ts.getD i (0,[])).2) (its.toArray.size-1)
  have kept:∀b o,s.heap.get? b=some o->h'.get? b=some o:=λb o e=>kp b o (λhm=>by
   have:=v3 e
   rw[wc.mp hm] at this
   exact xq _ this) (vO _ e)
  refine ⟨.ref t.1,H,I.kept kept,rfl,q t (we et) λu hu' =>?_⟩
  obtain ⟨j,hj,eu⟩:=Bb hu'
  have:=b2 j (by rw[vT];omega)
  rw[v5,v5,et,vU hj,eu] at this
  exact this
theorem lW (hc:X.calm=true)(hu:X.A.units+8<cLine):cc X (.builtin "min") (λxs H Q=>∃(a b:Addr) (ns ms:List Int),xs=[.ref a,.ref b]/\SqT X.K H a (ns.map V.int)/\SqT X.K H b (ms.map V.int)/\(HT.lexLt ms ns=true->Q (.ref b) H)/\(HT.lexLt ms ns=false->Q (.ref a) H)):=by
 intro pins s σ H xs us Q I r h
 obtain ⟨a,b,ns,ms,rfl,ha,hb,q1,q2⟩:=h
 obtain ⟨u,v,rfl,ru,rv⟩:=vals2 r
 cases (show u=wz a from ru)
 cases (show v=wz b from rv)
 have TIs:∀t∈[(a,ns),(b,ms)],MnT.TI s.heap t:=λt ht=>by
  rcases wj.mp ht with rfl | ht
  ·obtain ⟨i2,r2,p2,_⟩:=I.tuple ha
   exact ⟨_,p2,intsAre_of r2⟩
  ·rw[wc.mp ht]
   obtain ⟨i2,r2,p2,_⟩:=I.tuple hb
   exact ⟨_,p2,intsAre_of r2⟩
 have hlt:∀t∈[(a,ns),(b,ms)],t.1<s.heap.objs.size:=λt ht=>by
  obtain ⟨_,⟨o,ho,_⟩,_⟩:=TIs t ht
  exact v3 ho
 have hT:(s.heap.push { cls :=.type "tuple",data :=.seq #[.ref a,.ref b] }).IsTuple s.heap.objs.size #[.ref a,.ref b]:=⟨_,v9 _ rfl,rfl,0,rfl⟩
 have hz:(s.heap.push { cls :=.type "tuple",data :=.seq #[.ref a,.ref b] }).objs.size=s.heap.objs.size+1:=yw ..
 have at_:∀(i:Nat) (v:vP),(#[.ref a,.ref b]:Array vP)[i]? = some v->∃t:Addr×List Int,[(a,ns),(b,ms)][i]? = some t/\v=wz t.1:=λi v hv=>by
  match i,hv with
  | 0,hv=>exact ⟨_,rfl,(wB hv).symm⟩
  | 1,hv=>exact ⟨_,rfl,(wB hv).symm⟩
  | i+2,hv=>simp at hv
 refine MnT.call2 (yD hT ?_)
 refine ⟨_,_,_,_,_,_,_,rfl,MnT.more (BN (A:=X.A.in1) (I.ok.hd hc) _ s.heap.objs.size (by rw[hz];exact wg (xO _)) #[.ref a,.ref b]) [(a,ns),(b,ms)] (λt ht hm =>?_),⟨⟨⟨_,v9 _ rfl,rfl,rfl⟩,hT.push _⟩,λt ht=>(TIs t ht).at λo e=>vO _ (vO _ e)⟩,λc hc' =>?_,Nat.zero_lt_two,MnT.cmp [(a,ns),(b,ms)] ?_ at_,λv h' tk pv kp =>?_⟩
 ·have:=hlt t ht
  rw[wc.mp hm,hz] at this
  exact xq _ (zQ this)
 ·show c<((s.heap.push _).push _).objs.size
  rw[yw,hz]
  rcases vY.mp hc' with hc' | hc'
  ·rcases wj.mp hc' with rfl | hc'
   ·rw[hz];exact xO _
   ·rw[wc.mp hc'];exact xB (xO _)
  ·obtain ⟨t,ht,rfl⟩:=xc.mp hc'
   exact xB (xB (hlt t ht))
 ·show X.A.units+_<cLine
  omega
 ·have kept:∀b o,s.heap.get? b=some o->h'.get? b=some o:=λb o e=>kp b o (λhm=>by
   have:=v3 e
   rw[wc.mp hm,hz] at this
   exact xq _ (zQ this)) (vO _ (vO _ e))
  by_cases z:HT.lexLt ms ns=true
  ·have e:argBest (λi j=>HT.lexLt ([(a,ns),(b,ms)].getD i (0,[])).2 ([(a,ns),(b,ms)].getD j (0,[])).2) 1=1:=by
    show (if HT.lexLt ms ns=true then 1 else 0)=1
    rw[if_pos z]
   rw[show (#[wz a,wz b]:Array vP).size-1=1 from rfl,e] at pv
   have pv:=(wB pv).symm
   exact ⟨.ref b,H,I.kept kept,pv,q1 z⟩
  ·have e:argBest (λi j=>HT.lexLt ([(a,ns),(b,ms)].getD i (0,[])).2 ([(a,ns),(b,ms)].getD j (0,[])).2) 1=0:=by
    show (if HT.lexLt ms ns=true then 1 else 0)=0
    rw[if_neg z]
   rw[show (#[wz a,wz b]:Array vP).size-1=1 from rfl,e] at pv
   have pv:=(wB pv).symm
   exact ⟨.ref a,H,I.kept kept,pv,q2 (zT.mpr z)⟩
end
open PySem PySem.Spec PyProof.Rows
section
variable  {X:Cx}
theorem lX (hc:X.calm=true):cc X (.builtin "min") (λxs H Q=>∃(a:Addr) (ns:List Int),xs=[.ref a]/\SqT X.K H a (ns.map V.int)/\ns≠[]/\∀M:Int,M∈ns->(∀b∈ns,M<=b)->Q (.int M) H):=by
 intro pins s σ H xs us Q I r h
 obtain ⟨a,ns,rfl,hS,hne,q⟩:=h
 obtain ⟨u,rfl,ru⟩:=vals1 r
 cases (show u=wz a from ru)
 obtain ⟨its,r1,p1,_⟩:=I.tuple hS
 obtain ⟨ps,e2,e3⟩:=gc (intsAre_of r1)
 have ei:its.toArray=y9 ps.toArray:=by rw[e2];simp[y9]
 have hT:s.heap.IsTuple a (y9 ps.toArray):=by
  obtain ⟨o,ho,hc',n,hd⟩:=p1
  exact ⟨o,ho,hc',n,by rw[<- ei];exact hd⟩
 have hz:ps.toArray.size=ns.length:=by rw[vT, <- e3,vM]
 have hp:0<ns.length:=xZ.mpr hne
 have ht:ps.toArray.toList.map (·.1)=ns:=e3
 have hal:a<s.heap.objs.size:=by obtain ⟨o,ho,_⟩:=p1;exact v3 ho
 refine call_min_walk (yD hT ?_)
 refine ⟨_,[_,a],[_],_,_,_,_,rfl,BN (A:=X.A.in1) (I.ok.hd hc) _ a (wg hal) (y9 ps.toArray),⟨⟨_,v9 _ rfl,rfl,rfl⟩,hT.push _⟩,λc hc' =>?_,by simp only[y9,xS];omega,DZ (numAt ps.toArray) (λ_ _=>CB),λv h' tk hv hk =>?_⟩
 ·show c<(s.heap.push _).objs.size
  rw[yw]
  rcases wj.mp hc' with rfl | hc'
  ·exact xO _
  ·rw[wc.mp hc'];exact xB hal
 ·have k:∀b o,s.heap.get? b=some o->h'.get? b=some o:=λb o e=>hk b o (λhm=>by
   have:=v3 e
   rw[wc.mp hm] at this
   exact xq _ this) (vO _ e)
  have hsz:(y9 ps.toArray).size=ns.length:=by simp only[y9,xS];exact hz
  rw[hsz] at hv
  obtain ⟨t,rfl⟩:=CB hv
  obtain ⟨h1,h2⟩:=argBest_lt (numAt ps.toArray) (ns.length-1)
  refine ⟨.int _,H,I.kept k,⟨_,rfl⟩,q _ ?_ λb hb =>?_⟩
  ·rw[D5,ht];exact uK (by omega)
  ·obtain ⟨j,hj,rfl⟩:=uL hb
   have:=h2 j (by omega)
   rw[D5,D5,ht] at this
   rw[D5,ht]
   exact this
end
open PySem PySem.Spec PyProof.Rows SeqAt
theorem iz (l:Addr)(items:Array vP)(n:Nat)(dd:Option Addr)(sl:Array (Option vP))(x:vP)(e:vP->Bool)(j:Nat)(hj:j<items.size)(hit:e items[j]=true)(hno:∀m (hm:m<items.size),m<j->e items[m]=false) :
  Meets (Builtin.«tuple.index» ⟨[.ref l,x],[]⟩)
   (λA R s=>s.heap.get? l=some { cls :=.type "tuple",dict:=dd,data :=.seq items n,slots:=sl }/\(∀y,y∈items->EqAt A.in1 s y x (e y))/\R (.ok (.ret (.int j s.toks))) { s with toks:=s.toks+1 }) :=
 .of_wp λprog w A R s h=>by
  obtain ⟨hl,he,h⟩:=h
  unfold Builtin.«tuple.index»
  refine vN (yl (a:=(wz l,[x])) rfl ?_)
  refine vN (PyProof.Rows.tupleItemsOf_ (⟨_,hl,rfl,_,rfl⟩:IsTup s.heap l items) ?_)
  dsimp only
  refine vN (vW (vN (vW ?_)))
  rw[Cc,Co]
  refine vN (wpAny_forIn_list _ (λrest b s'=>s'=s/\b=(none,())/\∃i,rest=List.range' i (items.size-i)/\i<=j) _ ?_ ?_ _ _ ⟨rfl,rfl,0,?_,wM _⟩)
  ·rintro k rest b s' ⟨rfl,rfl,i,er,hi⟩
   rw[show items.size-i=(items.size-(i+1))+1 by omega,Dt] at er
   injection er with e1 e2
   subst e1
   have hk:k<items.size:=by omega
   rw[wY hk]
   refine vN (he _ (Array.getElem_mem hk) prog w _ _ ?_)
   by_cases z:k=j
   ·subst z
    rw[hit]
    refine vN (vN (DE (vW (vW ?_))))
    exact vW ⟨_,rfl,h⟩
   ·rw[hno k hk (by omega)]
    exact vW ⟨rfl,rfl,k+1,e2,by omega⟩
  ·rintro b s' ⟨rfl,rfl,i,er,hi⟩
   rw[show items.size-i=(items.size-(i+1))+1 by omega,Dt] at er
   cases er
  ·simp[Std.Legacy.Range.size]
section
variable  {X:Cx}
theorem oO:MtR X "tuple.index" (λx vs H Q=>∃(p:Addr) (ns:List Int) (k:Int),x = .ref p/\vs=[.int k]/\H p=some (.tup (ns.map V.int))/\k∈ns/\Q (.int (ns.idxOf k:Nat)) H):=by
 intro pins s σ H x vs v us Q I rx rv h
 obtain ⟨p,ns,k,rfl,rfl,hp,hk,q⟩:=h
 cases rx
 obtain ⟨u,rfl,⟨t,rfl⟩⟩:=vals1 rv
 obtain ⟨z,its,r,ob,e1,⟨c1,d1⟩,n,s1⟩:=(show a6 X.prog X.w H s.heap p (.tup _) from I.hok p _ hp)
 have hi:yY its ns:=intsAre_of r
 have hlen:=hi.length
 have hj:ns.idxOf k<ns.length:=zj.mpr hk
 obtain ⟨cls,dd,data,sl⟩:=ob
 simp only at c1 s1
 subst c1 s1
 refine AH BF ⟨_,e1,rfl⟩ PySem.F.entry_tuple_index (PySem.F.args_tuple_index_2 _ _) (iz p its.toArray n dd sl (.int k t) (isInt k) (ns.idxOf k) (by simpa [hlen] using hj) ?_ ?_) ⟨e1,λy hy=>ox hi y hy,⟨.int _,H,I.tok _,⟨_,rfl⟩,q⟩⟩
 ·show isInt k its[ns.idxOf k]=true
  rw[isInt_at k hi _ (by omega) hj];simpa using Bo hj
 ·intro j hjs hlt
  show isInt k its[j]=false
  rw[isInt_at k hi j (by simpa using hjs) (by omega)]
  simpa using qw (by omega) hlt
end
end L2
namespace Srt
open PySem PyProof.Rows
section
variable  {prog:wu}{w:w4}{A:w6}{E:vP->vR->Prop}{s:vR}{O:A4}{key:vP->O.α}
end
section
variable  {prog:wu}{w:w4}{s:vR}
end
end Srt
namespace L2
open PySem PySem.Spec PyProof.Rows
section
variable  {X:Cx}
def qA (us ws:List (Addr×List Int))(j:Nat):Bool:=decide ((us.map (·.2)).getD j []=(ws.map (·.2)).getD j [])
theorem oP {us ws:List (Addr×List Int)}(h:us.length=ws.length):((xJ us.length).all λj=>qA us ws j)=decide (us.map (·.2)=ws.map (·.2)):=by
 rw[yQ,decide_eq_true_iff,yG]
 constructor
 ·intro hh
  refine BV (by rw[vM,vM];exact h) λj h1 h2 =>?_
  have:=of_decide_eq_true (hh j (xh.mpr (by rw[vM] at h1;exact h1)))
  rw[v5,v5,vU h1,vU h2] at this
  exact this
 ·intro e j _
  exact decide_eq_true (by rw[e])
theorem tw {us:List (Addr×List Int)}{its:List vP}(r:Vals (us.map λu=>V.ref u.1) its){j:Nat}(h:j<its.toArray.size):∃u,us[j]? = some u/\its.toArray[j] = .ref u.1:=by
 have e:=eL r
 subst e
 rw[vT,vM] at h
 exact ⟨us[j],vU h,by simp⟩
theorem m6 {k:Nat}(hr:cy k X.A):OpR X (yp .NotEq) (λx y H Q=>∃(a b:Addr) (us ws:List (Addr×List Int)),x = .ref a/\y = .ref b/\H a=some (.lst (us.map λu =>.ref u.1))/\H b=some (.lst (ws.map λu =>.ref u.1))/\(∀u∈us,H u.1=some (.tup (u.2.map V.int)))/\(∀u∈ws,H u.1=some (.tup (u.2.map V.int)))/\Q (.bl (!decide (us.map (·.2)=ws.map (·.2)))) H):=by
 intro pins s σ H x y v u Q I rx ry h
 obtain ⟨a,b,us,ws,rfl,rfl,h1,h2,t1,t2,q⟩:=h
 cases (show v=wz a from rx)
 cases (show u=wz b from ry)
 obtain ⟨its,r1,p1,_⟩:=I.list (SqL.of (K:=X.K) h1)
 obtain ⟨its2,r2,p2,_⟩:=I.list (SqL.of (K:=X.K) h2)
 have l1:=r1.length
 have l2:=r2.length
 rw[vM] at l1 l2
 have hu:=hr.un
 have hu1:X.A.units<cLine:=by omega
 by_cases hl:us.length=ws.length
 ·have R:=SeqAt.RcNeAt.lists (A:=X.A) (e:=qA us ws) p1.isList p2.isList (by rw[vT,vT];omega) hu1 (by
   intro j h1 h2
   obtain ⟨u,eu,g1⟩:=tw r1 h1
   obtain ⟨w,ew,g2⟩:=tw r2 h2
   rw[g1,g2]
   have:=I.eqT (A:=X.A.in1) (by rw[Around.in1_units];omega) (SqT.of (t1 u (we eu))) (SqT.of (t2 w (we ew)))
   unfold qA
   rw[v5,v5,wm,wm,eu,ew]
   exact this)
  rw[vT, <- l1,oP hl] at R
  exact R _ _ _ _ ⟨.bl _,H,I,rfl,q⟩
 ·have ne:us.map (·.2)≠ws.map (·.2):=λz=>hl (by have:=congrArg List.length z;simpa using this)
  rw[decide_eq_false ne] at q
  exact SeqAt.RcNeAt.lists_lengths (A:=X.A) p1.isList p2.isList (by simp;omega) hu1 _ _ _ _ ⟨.bl true,H,I,rfl,q⟩
end
end L2
set_option maxHeartbeats 800000
namespace L2
open PySem PySem.Spec PyProof.Rows
def l4 (td ty tx:TE):TE:=λσ H Q=>td σ H λx H1=>∃a,x = .ref a/\IsD H1 a/\ty σ H1 λy H2=>tx σ H2 λz H3=>∃kvs k,H3 a=some (.dK kvs)/\y=kV k ∧
 (∀v,bY kvs k=some v->Q v H3)/\(bY kvs k=none->kvs.length<vZ/\Q z (upd H3 a (.dK (putK kvs k z))))
theorem fC {X:Cx}{o e f:Expr}{apos cpos:Pos}{td ty tx:TE}(ho:PE X o td)(he:PE X e ty)(hf:PE X f tx)(m:M2 X o "setdefault" apos e f cpos):PE X (.Call (.Attribute o "setdefault" apos) [e,f] [] cpos) (l4 td ty tx):=by
 intro pins s σ H Q I h
 refine C6 m.base m.few m.line BP A6 PySem.F.type_dict_setdefault (thn (ho pins s σ H _ I h) λu s1 p1 =>?_)
 obtain ⟨_,H1,I1,rx,a,rfl,d,q1⟩:=p1
 cases rx
 have t:=qk I1 d
 refine ⟨t.1,t.2.1,?_⟩
 rw[m.trees]
 refine y6 rfl (zW (yB (thn (he pins s1 σ H1 _ I1 q1) λiv s2 p2 =>?_)))
 obtain ⟨y,H2,I2,ry,q2⟩:=p2
 refine yB (thn (hf pins s2 σ H2 _ I2 q2) λfv s3 p3=>zP ?_)
 obtain ⟨z,H3,I3,rz,kvs,k,ea,rfl,q3,q4⟩:=p3
 obtain ⟨zl,hd,vs,rel,dd⟩:=tm I3.hok ea
 have rk:=rel.val k
 refine Df A6 dd.typeIs PySem.F.entry_dict_setdefault (PySem.F.args_dict_setdefault_3 _ _ _) (kt_meets_setdefault (bq X.prog X.w) a (i4 ry) hd fv) ⟨vs,dd,by rw[<- rel.length];exact zl,λv' hv =>?_,λhn h' dd' hs =>?_⟩
 ·cases l:bY kvs k with
  | none=>rw[l,hv] at rk;exact rk.elim
  | some v =>
   rw[l,hv] at rk
   exact ⟨v,H3,I3.tok _,rk,q3 v l⟩
 ·cases l:bY kvs k with
  | some v=>rw[l,hn] at rk;exact rk.elim
  | none =>
   obtain ⟨hl,q⟩:=q4 l
   have hl2:(putK kvs k z).length<=vZ:=wL (dJ kvs k z) hl
   have he:∃q,h'.get? a=some q:=let ⟨q,_,_,hq,_⟩:=dd';⟨q,hq⟩
   exact ⟨z,_,jI I3 (by rw[ea];exact True.intro) hs he (qh hl2 hd (rel.put k rz) dd'),rz,q⟩
def DSt (H1:Hp)(d:Addr)(kvs:List (Key×V))(ks:List Int)(R:It->Hp->Prop):Prop:=(H1 d=some (.dK kvs)/\∀ob,R (Itd d ob kvs ks) (upd H1 d (.frz ob (.dK kvs))))\/∃ob,H1 d=some (.frz ob (.dK kvs))/\R (Itd d ob kvs ks) H1
def vC (tl:TE):TI:=λσ H R=>tl σ H λx H1=>∃d kvs ks,x = .ref d/\kvs.map (·.1)=ks.map Sum.inl/\DSt H1 d kvs ks R
theorem fD {X:Cx}{tg l:Expr}{tl:TE}(hl:PE X l tl):PI X tg l (vC tl):=by
 intro pins s σ H R I h
 refine thn (hl pins s σ H _ I h) λv s1 p1 =>?_
 obtain ⟨_,H1,I1,r1,d,kvs,ks,rfl,ek,q⟩:=p1
 cases r1
 have rd:Rd H1 d (.dK kvs):=q.elim (λz =>.inl z.1) λ⟨ob,z,_⟩ =>.inr ⟨ob,z⟩
 obtain ⟨z,hsys,vs,rel,dd⟩:=gX I1.hok rd
 obtain ⟨ep,dd⟩:=dd.dictAt
 obtain ⟨ob,es,ho,_⟩:=id dd
 refine wpAny_pyIter_dict hsys dd ?_
 have keys:vs.map (·.1)=ks.map Sum.inl:=by rw[mX rel,ek]
 obtain ⟨H2,I2,R2⟩:∃H2,Inv X pins σ H2 s1/\R (Itd d ob kvs ks) H2:=by
  rcases q with ⟨hd,q⟩ | ⟨ob',hd,q⟩
  ·exact ⟨_,I1.freeze hd ho,q ob⟩
  ·have e1:s1.heap.get? d=some ob':=(show a6 X.prog X.w H1 s1.heap d (.frz ob' (.dK kvs)) from I1.hok d _ hd).1
   rw[ho] at e1
   cases e1
   exact ⟨H1,I1,q⟩
 refine ⟨s1.heap.objs.size,[s1.heap.objs.size],_,_,_,rfl,I2.kept (t':=s1.toks) λb o e=>vO _ e,oE (kvs:=kvs) (ob:=ob) d _ dd ho keys,⟨_,v9 _ rfl,rfl,rfl⟩,λb hb =>?_,R2⟩
 obtain rfl:b=s1.heap.objs.size:=by simpa using hb
 exact I2.oZ (vS _) (I2.hok.fresh (vS _))
theorem hW {d:Addr}{ob:Obj}{kvs:List (Key×V)}{ks:List Int}{g:TG}{tb:TS}{D:Ends}{σ:St}{H:Hp}(Pv:Nat->St->Hp->Prop)(h0:Pv 0 σ H)(hl:∀i σ H,i<=ks.length->Pv i σ H->H d=some (.frz ob (.dK kvs)))
  (hs:∀i x σ H,ks[i]? = some x->Pv i σ H->g (.int x) σ H λσ2 H2=>tb { D with nx:=Pv (i+1),ct:=Pv (i+1),bk:=D.nx } σ2 H2) (hd:∀σ H,Pv ks.length σ H->D.nx σ H) :
  ∃W:Nat->Nat->St->Hp->Prop,(∃m,W 0 m σ H)/\∀i m σ H,W i m σ H →
   ((Itd d ob kvs ks).stop i H/\D.nx σ H)\/((Itd d ob kvs ks).go i H/\∃N:St->Hp->Prop,(∀σ' H',N σ' H'->∃m',m'<m/\W (i+1) m' σ' H')/\∀x H',(Itd d ob kvs ks).yld i H x H'->g x σ H' λσ2 H2=>tb { D with nx:=N,ct:=N,bk:=D.nx } σ2 H2):=by
 refine ⟨λi m σ H=>m+i=ks.length/\Pv i σ H,⟨ks.length,rfl,h0⟩,λi m σ H p =>?_⟩
 have q:=hl i σ H (by omega) p.2
 rcases m with _ | m
 ·have e:i=ks.length:=by omega
  subst e
  exact .inl ⟨⟨q,vS _⟩,hd σ H p.2⟩
 ·have hi:i<ks.length:=by omega
  refine .inr ⟨⟨q,_,vU hi⟩,Pv (i+1),λσ' H' p'=>⟨m,xO m,by omega,p'⟩,λx H' y =>?_⟩
  obtain ⟨rfl,k,hk,rfl⟩:=y
  exact hs i k σ _ hk p.2
end L2
set_option maxHeartbeats 4000000
namespace L2
open PySem PySem.Spec PyProof.Rows
def cK (K:vV)(x:Str)(st:Stmt):Prop:=∃(f:Addr) (od an:Option Addr) (sl:Array (Option vP)) (oc kV dc pm cd ct:vP),xU K w5 x=some (some (.ref f))/\K.lookup f=some ⟨oc,od,.func (PySem.W.fnOf x x (cN st) (bI st) (aL st) .none kV dc pm an cd ct),sl⟩/\PySem.W.codeIn K cd x=true/\PySem.W.keepIn K (.ref f)=true
theorem cK.mk {K:vV}{x:Str}{st:Stmt}{f:Addr}{od an:Option Addr}{sl:Array (Option vP)}{oc kV dc pm cd ct:vP}(a:xU K w5 x=some (some (.ref f)))(l:K.lookup f=some ⟨oc,od,.func (PySem.W.fnOf x x (cN st) (bI st) (aL st) .none kV dc pm an cd ct),sl⟩)(c:PySem.W.codeIn K cd x=true)(k:PySem.W.keepIn K (.ref f)=true):cK K x st:=⟨_,_,_,_,_,_,_,_,_,_,a,l,c,k⟩
theorem cK.cal {K:vV}{x:Str}{st:Stmt}(hf:cK K x st)(P:wu)(w:w4)(base:Heap){h:Heap}{mg:Str->Option vP}(X:K.In h)(G:h.Ns w5 mg){lv:Nat}{ps:List Str}{sp:Sp}(ok:∀{f:Addr} {fd:x8},Fun K x x st f fd->cn P w K mg base CX0 lv f fd ps sp)
  (hb:∀(kV doc pm:vP) (an:Option Addr) (cdv ct:vP) (us:List vP),us.length=ps.length->bindArgs (PySem.W.fnOf x x (cN st) (bI st) (aL st) .none kV doc pm an cdv ct) ⟨us,[]⟩=pure (ps.zip us)):Cal P w K mg base lv x ps sp:=by
 obtain ⟨f,od,an,sl,oc,kV,dc,pm,cd,ct,a,l,c,k⟩:=hf
 have F:=pD l c k
 exact ⟨_,_,ok F,D3 X G a,k,F.binds hb⟩
end L2
set_option maxHeartbeats 800000
namespace K07
open PySem L2
def top (i:Nat):Stmt:=PySem.Challenge.pw_ringfell_k07_rings_judged.main.body.getD i (.Pass ⟨0,0,0,0⟩)
abbrev qB:Stmt:=top 1
abbrev hX:Stmt:=top 2
abbrev jK:Stmt:=top 4
abbrev fP:Stmt:=top 5
abbrev qC:Stmt:=top 7
abbrev qD:Stmt:=top 8
abbrev tD:Stmt:=top 9
abbrev qE:Stmt:=top 10
abbrev m7:Stmt:=top 11
abbrev jL:Stmt:=top 12
abbrev ia:Stmt:=top 13
abbrev l6:Stmt:=top 14
abbrev gp:Stmt:=top 15
abbrev l8:Stmt:=top 16
abbrev fE:Stmt:=top 17
abbrev ib:Stmt:=top 18
abbrev kJ:Stmt:=top 19
structure Blt (mg:Str->Option vP):Prop where
 b_all:mg "all" = none
 b_bool:mg "bool" = none
 b_divmod:mg "divmod" = none
 b_enumerate:mg "enumerate" = none
 b_int:mg "int" = none
 b_isinstance:mg "isinstance" = none
 b_len:mg "len" = none
 b_list:mg "list" = none
 b_max:mg "max" = none
 b_min:mg "min" = none
 b_range:mg "range" = none
 b_reversed:mg "reversed" = none
 b_set:mg "set" = none
 b_sorted:mg "sorted" = none
 b_tuple:mg "tuple" = none
theorem uN:xA "all" = some (.builtin "all"):=by decide +kernel
theorem sD:xA "bool" = some (.type "bool"):=by decide +kernel
theorem aG:xA "divmod" = some (.builtin "divmod"):=by decide +kernel
theorem qF:xA "int" = some (.type "int"):=by decide +kernel
theorem eF:xA "isinstance" = some (.builtin "isinstance"):=by decide +kernel
theorem bL:xA "len" = some (.builtin "len"):=by decide +kernel
theorem m8:xA "list" = some (.type "list"):=by decide +kernel
theorem fQ:xA "max" = some (.builtin "max"):=by decide +kernel
theorem dN:xA "min" = some (.builtin "min"):=by decide +kernel
theorem l9:xA "set" = some (.type "set"):=by decide +kernel
theorem d8:xA "sorted" = some (.builtin "sorted"):=by decide +kernel
theorem da:xA "tuple" = some (.type "tuple"):=by decide +kernel
theorem hu8 {A:w6}{k:Nat}(hr:cy k A):A.units+8<cLine:=zC (Ae (by decide:8<=64) _) hr.units
abbrev tE:Stmt:=qC
abbrev tF:Stmt:=qD
abbrev kK:Stmt:=tD
abbrev qG:Stmt:=qE
abbrev qH:Stmt:=m7
abbrev vD:Stmt:=qB
abbrev qI:Stmt:=hX
structure Wb (H:Hp)(r:Addr)(m:Int)(ts:List (Addr×List Int)):Prop where
 at':∃t,H r=some (.tup [.int m,.ref t])/\H t=some (.tup (ts.map λu =>.ref u.1))
 tup:∀u∈ts,H u.1=some (.tup (u.2.map V.int))
 pr:∀u∈ts,∃a b:Int,u.2=[a,b]/\0<=a/\a<=b/\b<m
 len:ts.length<=200
theorem Wb.tp {H H':Hp}{r:Addr}{m:Int}{ts:List (Addr×List Int)}(h:Wb H r m ts)(t:Tp H H'):Wb H' r m ts :=
 let ⟨p,e1,e2⟩:=h.at'
 ⟨⟨p,t _ _ e1,t _ _ e2⟩,λu hu=>t _ _ (h.tup u hu),h.pr,h.len⟩
theorem Wb.same {H H':Hp}{r:Addr}{m:Int}{ts:List (Addr×List Int)}(h:Wb H r m ts)(s:aB H H'):Wb H' r m ts:=h.tp s.tp
theorem item {ts:List (Addr×List Int)}{i:Nat}{x:V}(e:(ts.map λt:Addr×List Int=>V.ref t.1)[i]? = some x):∃u,ts[i]? = some u/\x = .ref u.1:=by
 rw[wm] at e
 cases z:ts[i]? with
 | none=>rw[z] at e;cases e
 | some tt=>rw[z] at e;exact ⟨tt,rfl,(wB e).symm⟩
theorem tG {ts:List (Addr×Int×Int)}{i:Nat}{x:V}(e:(ts.map λt:Addr×Int×Int=>V.ref t.1)[i]? = some x):∃u,ts[i]? = some u/\x = .ref u.1:=by
 rw[wm] at e
 cases z:ts[i]? with
 | none=>rw[z] at e;cases e
 | some tt=>rw[z] at e;exact ⟨tt,rfl,(wB e).symm⟩
theorem take_snoc {α β:Type}{f:α -> β}{l:List α}{i:Nat}{x:α}(e:l[i]? = some x):(l.take (i+1)).map f=(l.take i).map f++[f x]:=by
 rw[zS,e,wb];rfl
structure bM (H:Hp)(l:Addr)(many:Int)(ts:List (Addr×Int×Int)):Prop where
 at':H l=some (.lst (ts.map λt =>.ref t.1))
 tup:∀t∈ts,H t.1=some (.tup [.int t.2.1,.int t.2.2])
 bnd:∀t∈ts,0<=t.2.1/\t.2.1<many/\0<=t.2.2/\t.2.2<many
theorem bM.same {H H':Hp}{l:Addr}{many:Int}{ts:List (Addr×Int×Int)}(h:bM H l many ts)(s:aB H H'):bM H' l many ts:=⟨s _ _ h.at',λt m=>s _ _ (h.tup t m),h.bnd⟩
theorem bM.put {H H':Hp}{l:Addr}{many:Int}{ts us:List (Addr×Int×Int)}(h:bM H' l many ts)(tu:∀t∈us,H' t.1=some (.tup [.int t.2.1,.int t.2.2]))(b:∀t∈us,0<=t.2.1/\t.2.1<many/\0<=t.2.2/\t.2.2<many) :
  bM (upd H' l (.lst (us.map λt =>.ref t.1))) l many us:=by
 refine ⟨ah,λt ht =>?_,b⟩
 rw[aA (ck (tu t ht) h.at' (by intro z;cases z))]
 exact tu t ht
theorem aB.bN {H H':Hp}{l:Addr}(s:aB H H')(hl:H l=none)(o:HO):aB H (upd H' l o):=λb u e=>by
 rw[aA (aF e hl)];exact s _ _ e
def key (t:Addr×Int×Int):List Int:=nrm t.2.1 t.2.2
def kM (H:Hp)(ys:List V)(us:List (Addr×List Int)):Prop:=ys=us.map (λu =>.ref u.1)/\∀u∈us,H u.1=some (.tup (u.2.map V.int))
theorem kM.add {H:Hp}{ys:List V}{us:List (Addr×List Int)}(h:kM H ys us){t:Addr}(ht:H t=none)(ns:List Int):kM (upd H t (.tup (ns.map V.int))) (ys++[.ref t]) (us++[(t,ns)]):=by
 refine ⟨by rw[h.1,wb];rfl,λu hu =>?_⟩
 rcases vY.mp hu with z | z
 ·rw[aA (aF (h.2 u z) ht)]
  exact h.2 u z
 ·have e:u=(t,ns):=by simpa using z
  rw[e]
  exact ah
theorem kM.same {H H':Hp}{ys:List V}{us:List (Addr×List Int)}(h:kM H ys us)(s:aB H H'):kM H' ys us:=⟨h.1,λu hu=>s _ _ (h.2 u hu)⟩
theorem qJ {a b m:Int}(h:0<=a/\a<m/\0<=b/\b<m):∃x y:Int,nrm a b=[x,y]/\0<=x/\x<=y/\y<m:=by
 refine ⟨mnI a b,mxI a b,rfl,?_,?_,?_⟩ <;> (try unfold mnI) <;> (try unfold mxI) <;> (repeat' split) <;> omega
theorem dmN {n j:Int}(h:0<=n)(hj:0<j):0<=n/j/\0<=n%j/\n%j<j:=⟨Ci h (by omega),yV _ (by omega),yC _ hj⟩
@[irreducible] def jM (K:vV):Sp:=λvs H Q _=>∃(a:Addr) (ns:List Int) (k:Int),vs=[.ref a,.int k]/\SqL K H a (ns.map V.int)/\0<=k/\∀c:Int,Q (.int c) H
theorem eO {K:vV}{vs:List V}{H:Hp}{Q:VK}{E:XK}:jM K vs H Q E↔∃(a:Addr) (ns:List Int) (k:Int),vs=[.ref a,.int k]/\SqL K H a (ns.map V.int)/\0<=k/\∀c:Int,Q (.int c) H:=by
 delta jM
 exact As
abbrev m9:Sp:=λvs H Q _=>∃c s:Int,vs=[.int c,.int s]/\0<=s/\s<=1000/\∀n:Int,0<=n->Q (.int n) H
@[irreducible] def jN:Sp:=m9
theorem eQ {vs:List V}{H:Hp}{Q:VK}{E:XK}:jN vs H Q E↔m9 vs H Q E:=by
 delta jN
 exact As
section
variable  {P:wu}{w:w4}{K:vV}{mg:Str->Option vP}{base:Heap}{f:Addr}{fd:x8}
theorem uO:bh ["script", "k"] ["script", "k"] (aL tE):=⟨rfl,rfl,rfl,by decide +kernel,rfl,by decide +kernel,by decide +kernel⟩
theorem uP (F:Fun K "_law_cell" "_law_cell" tE f fd)(B:Blt mg):cn P w K mg base CX0 1 f fd ["script", "k"] (jM K):=by
 refine F.ok uO (λvs H Q E h =>?_) (λcdv A outer s H vs Q E hr h =>?_)
 ·obtain ⟨c,k,k',rfl,_⟩:=eO.mp h
  rfl
 obtain ⟨a,ns,k,rfl,hS,k0,q⟩:=eO.mp h
 refine ⟨_,ai (bp (aD fT (pv 1) (ax aH rfl B.b_len Cv (aa (pv 0) ag)) (aI _)) (ay (aP (bK dU (pv 0) (pv 1) (λ_ _=>rfl)))) aN)
  (ay (aP aj)),?_⟩
 refine ⟨_,rfl,_,rfl,a,_,rfl,.inl hS,_,_,rfl,rfl,_,rfl,bX (λc =>?_) λ_=>q 0⟩
 have c':k<((ns.map V.int).length:Int):=of_decide_eq_true c
 rw[vM] at c'
 obtain ⟨n,rfl⟩:∃n:Nat,k=n:=⟨k.toNat,by omega⟩
 exact ⟨_,rfl,_,rfl,a,_,_,.int (ns[n]'(by omega)),rfl,rfl,hS,cz (by rw[wm,vU (by omega)];rfl),q _⟩
theorem eR:bh ["cell", "salt", "one", "number", "j"] ["cell", "salt"] (aL tF):=⟨rfl,rfl,rfl,by decide +kernel,rfl,by decide +kernel,by decide +kernel⟩
theorem uQ (F:Fun K "_law_deal" "_law_deal" tF f fd)(B:Blt mg):cn P w K mg base CX0 1 f fd ["cell", "salt"] jN:=by
 refine F.ok eR (λvs H Q E h =>?_) (λcdv A outer s H vs Q E hr h =>?_)
 ·obtain ⟨c,k,rfl,_⟩:=eQ.mp h
  rfl
 obtain ⟨c,salt,rfl,s0,s1,q⟩:=eQ.mp h
 refine ⟨_,ai (bp (aD o9 (pv 0) (aE jt aj aj) (aI _)) (ay (aP (aE bU (pv 0) (aE jt aj aj)))) aN)
  (ai (a9 (i:=2) eR.nd rfl (Or.inl rfl) (aE dj (pv 0) aj))
  (ai (a9 (i:=3) eR.nd rfl (Or.inl rfl) aj)
  (ai (bO wZ rfl (bB rfl B.b_range (aa aj ag)) (ak (i:=4) eR.nd rfl (Or.inl rfl))
   (ai (a9 (i:=2) eR.nd rfl (Or.inl rfl) (aE dj (aE di (aE bP (aE bP (aE bP (pv 2) (aE di (aE di aj (pv 4)) (pv 4))) (aE di aj (pv 1))) aj) aj) aj))
   (ai (a9 (i:=2) eR.nd rfl (Or.inl rfl) (aE dj (aE di (pv 2) (pv 2)) aj))
   (ay (a9 (i:=3) eR.nd rfl (Or.inl rfl) (aE bP (aE di (pv 3) aj) (aE mw (aE dj (aE di (pv 2) aj) aj) aj)))))))
  (ay (aP (pv 3)))))),?_⟩
 refine ⟨_,rfl,_,_,rfl,rfl,⟨by decide,by decide,by decide⟩,_,_,rfl,rfl,_,rfl,?_⟩
 refine bX (λc1 =>?_) (λc1 =>?_)
 ·have c':(10:Int) ^ (18:Int).toNat<=c:=of_decide_eq_true c1
  exact ⟨_,rfl,_,_,rfl,rfl,⟨by decide,by decide,by decide⟩,_,_,rfl,rfl,q _ (by omega)⟩
 ·refine ⟨_,rfl,_,_,rfl,rfl,(by show (0:Int)<_;decide),_,rfl,by decide,by decide,bC (λk σ H'=>(∃(o g:Int) (lv:Option V),0<=g/\σ=[some (.int c),some (.int salt),some (.int o),some (.int g),lv])/\H'=H) ⟨⟨_,0,none,by decide,rfl⟩,rfl⟩ ?_ ?_⟩
  ·rintro k σ H' hk ⟨⟨o,g,lv,hg,rfl⟩,rfl⟩
   have hk':k<24:=hk
   refine ⟨_,rfl,_,rfl,_,_,rfl,rfl,.inl ⟨by decide,by decide⟩,_,rfl,_,_,rfl,rfl,.inl ⟨by omega,by omega⟩,_,_,rfl,rfl,_,rfl,_,_,rfl,rfl,.inl ⟨by decide,by decide⟩,_,_,rfl,rfl,_,_,rfl,rfl,_,_,rfl,rfl,.inr ⟨by decide,by decide⟩,_,_,rfl,rfl,(by show (0:Int)<_;decide),?_⟩
   generalize ((o+15*(0+(k:Int))*(0+(k:Int))+31*salt+11)*48271)=z1
   have b1:=yV z1 (b:=2147483647) (by decide)
   have b2:=yC z1 (b:=2147483647) (by decide)
   refine ⟨_,rfl,_,rfl,_,_,rfl,rfl,.inl ⟨by omega,by omega⟩,_,_,rfl,rfl,(by show (0:Int)<_;decide),?_⟩
   refine ⟨_,rfl,_,_,rfl,rfl,.inr ⟨by decide,by decide⟩,_,rfl,_,_,rfl,rfl,.inr ⟨by decide,by decide⟩,_,_,rfl,rfl,(by show (0:Int)<_;decide),_,_,rfl,rfl,⟨by decide,by decide⟩,_,_,rfl,rfl,⟨_,_,_,?_,rfl⟩,rfl⟩
   generalize (z1%2147483647*(z1%2147483647)%2147483629*69621)=z2
   have a1:0<=g*998244353:=Int.mul_nonneg hg (by decide)
   have a2:0<=z2%2147483587/7:=Ci (yV z2 (by decide)) (by decide)
   omega
  ·rintro σ H' ⟨⟨o,g,lv,hg,rfl⟩,rfl⟩
   exact ⟨_,rfl,q g hg⟩
end
open PySem L2
theorem cF {X:Cx}{body:List Stmt}{D0:Ends}{σ0:St}{H0:Hp}(sts:List Stmt)(M:St->Hp->Prop)(h:∃t2,PSs X sts t2/\∀σ H,M σ H->t2 D0 σ H)
  (g:∀t2,PSs X sts t2->(∀σ H,M σ H->t2 D0 σ H)->∃t,PSs X body t/\t D0 σ0 H0):∃t,PSs X body t/\t D0 σ0 H0:=by
 obtain ⟨t2,p2,m2⟩:=h
 exact g t2 p2 m2
def T3 (H:Hp)(ys:List V)(us:List (Addr×Int×Int)):Prop:=ys=us.map (λu =>.ref u.1)/\∀u∈us,H u.1=some (.tup [.int u.2.1,.int u.2.2])
theorem T3.add {H:Hp}{ys:List V}{us:List (Addr×Int×Int)}(h:T3 H ys us){t:Addr}(ht:H t=none)(a b:Int):T3 (upd H t (.tup [.int a,.int b])) (ys++[.ref t]) (us++[(t,a,b)]):=by
 refine ⟨by rw[h.1,wb];rfl,λu hu =>?_⟩
 rcases vY.mp hu with z | z
 ·rw[aA (aF (h.2 u z) ht)]
  exact h.2 u z
 ·have e:u=(t,a,b):=by simpa using z
  rw[e]
  exact ah
theorem T3.uS {H:Hp}{ys:List V}{us:List (Addr×Int×Int)}{m:Int}(h:T3 H ys us){l:Addr}(hl:H l=none)(b:∀t∈us,0<=t.2.1/\t.2.1<m/\0<=t.2.2/\t.2.2<m):bM (upd H l (.lst ys)) l m us:=by
 refine ⟨by rw[ah,h.1],λu hu =>?_,b⟩
 rw[aA (aF (h.2 u hu) hl)]
 exact h.2 u hu
theorem de {m a b:Int}{t:Addr}{us:List (Addr×Int×Int)}(h:∀t∈us,0<=t.2.1/\t.2.1<m/\0<=t.2.2/\t.2.2<m)(hab:0<=a/\a<m/\0<=b/\b<m):∀x∈us++[(t,a,b)],0<=x.2.1/\x.2.1<m/\0<=x.2.2/\x.2.2<m:=λx hx=>by
 rcases vY.mp hx with z | z
 ·exact h x z
 ·rw[wc] at z;subst z;exact hab
theorem bM.push {H0 H:Hp}{l:Addr}{m:Int}{ts:List (Addr×Int×Int)}(h:bM H l m ts){t:Addr}(ht:H t=none){a b:Int}(hab:0<=a/\a<m/\0<=b/\b<m) :
  bM (upd (upd H t (.tup [.int a,.int b])) l (.lst ((ts.map λt =>.ref t.1)++[.ref t]))) l m (ts++[(t,a,b)]):=by
 have nt:∀{c:Addr} {xs:List V},H c=some (.tup xs)->c≠l:=λe=>ck e h.at' (by intro z;cases z)
 have ntl:t≠l:=xF (aF h.at' ht)
 refine ⟨by rw[ah,wb];rfl,λu hu =>?_,de h.bnd hab⟩
 rcases vY.mp hu with z | z
 ·rw[aA (nt (h.tup u z)),aA (aF (h.tup u z) ht)];exact h.tup u z
 ·rw[wc] at z;subst z
  rw[aA ntl];exact ah
theorem nc {α:Type}(x:α):∀k:Nat,(w9 k [x]).flatten=w9 k x
 | 0=>rfl
 | k+1=>by rw[yq,yr,nc x k,yq];rfl
abbrev ng:Sp:=λvs H Q _=>∃n most:Int,vs=[.int n,.int most]/\0<=n/\0<=most/\most<=30/\∀(p b:Addr) (n' m:Int) (ts:List (Addr×List Int)) (H':Hp),aB H H'->H' p=some (.tup [.ref b,.int n'])->Wb H' b m ts->0<=m->m<=most->0<=n'->Q (.ref p) H'
@[irreducible] def jO:Sp:=ng
theorem dz {vs:List V}{H:Hp}{Q:VK}{E:XK}:jO vs H Q E↔ng vs H Q E:=by
 delta jO
 exact As
def MT (H:Hp)(most:Int)(k:Nat)(σ:St)(H':Hp):Prop:=∃(n m wy c t:Int) (l:Addr) (ts:List (Addr×Int×Int)) (c7 c8 c9 c10 c11:Option V),
 σ=[some (.int n),some (.int most),some (.int m),some (.int wy),some (.int c),some (.int t),some (.ref l),c7,c8,c9,c10,c11]/\0<=n/\0<=m/\m<=most/\0<=c/\c<=60/\aB H H'/\H l=none/\bM H' l m ts/\ts.length<=k
section
variable  {P:wu}{w:w4}{K:vV}{mg:Str->Option vP}{base:Heap}{f:Addr}{fd:x8}
theorem ndPM:(["place", "many"]:List Str).Nodup:=by decide +kernel
theorem tH:(["one", "other", "many"]:List Str).Nodup:=by decide +kernel
theorem ndP:(["pair"]:List Str).Nodup:=by decide +kernel
theorem bA:bh ["number", "most", "many", "way", "count", "turn", "ties", "place", "other", "k", "one", "again"] ["number", "most"] (aL kK):=⟨rfl,rfl,rfl,by decide +kernel,rfl,by decide +kernel,by decide +kernel⟩
theorem uT (F:Fun K "_law_web" "_law_web" kK f fd)(B:Blt mg):cn P w K mg base CX0 1 f fd ["number", "most"] jO:=by
 refine F.ok bA (λvs H Q E h =>?_) (λcdv A outer s H vs Q E hr h =>?_)
 ·obtain ⟨c,k,rfl,_⟩:=dz.mp h
  rfl
 obtain ⟨n,most,rfl,n0,h0,h1,q⟩:=dz.mp h
 refine cF ((bI kK).drop 9) (MT H most 200) ?hT λtT pT mT =>?gT
 case hT =>
  refine ⟨_,ay (aP (aQ (aa (aQ (aa (pv 2) (aa (aZ ba rfl B.b_tuple Ag (aa (ax cC rfl B.b_sorted d8 (aa
   (dX ["pair"] [none] rfl (dQ (pv 6)) rfl (λ_ _ _ _ _=>ak (i:=0) ndP rfl (Or.inl rfl)) (λ_ _ _ _ _=>dG)
    (λ_ _ _ _ _=>aQ (aa (ax (i9 (K:=K) rfl) rfl B.b_min dN (aa (pv 0) ag)) (aa (ax (ja (K:=K) rfl) rfl B.b_max fQ (aa (pv 0) ag)) ag)))) ag)) ag)) ag))) (aa (pv 0) ag)))),?_⟩
  rintro σ H8 ⟨n,m,wy,c,t,l,ts,c7,c8,c9,c10,c11,rfl,n0,m0,m1,_,_,s8,hl,tA,lt⟩
  refine ⟨_,rfl,_,rfl,l,rfl,⟨_,SqL.of tA.at'⟩,gJ (xs:=ts.map λt =>.ref t.1) (λi ys H'=>aB H8 H'/\∃us,kM H' ys us/\us.map (·.2)=(ts.take i).map key) ⟨aB.refl _,[],⟨rfl,λu hu=>by cases hu⟩,rfl⟩ (by rw[vM];exact small (by omega)) (λi ys H'' _ z=>SqL.of (z.1 _ _ tA.at')) ?_ ?_⟩
  ·rintro i x ys H' hx hy ⟨s',us,tu,eu⟩ R1 R0 r1 r0
   obtain ⟨tt,ht,rfl⟩:=tG hx
   have e2:=s' _ _ (tA.tup tt (we ht))
   refine cA ⟨_,rfl,_,_,_,rfl,SqT.of e2,_,rfl,_,_,_,rfl,SqT.of e2,(by show 2<=vZ;decide),λtn htn=>r1 _ _ ⟨s'.trans (ae htn _),us++[(tn,key tt)],tu.add htn _,?_⟩⟩
   rw[wb,eu,zS,ht,wb]
   rfl
  rintro ys H9 hy ⟨s9,us,tu,eu⟩ L hL
  have eu':us.map (·.2)=ts.map key:=by rw[eu,vM,xv (vS _)]
  have s10:=s9.trans (ae hL (.lst ys))
  have tu10:=tu.same (ae hL (.lst ys))
  have ey:=tu.1
  have keys:∀u∈us,∃x y:Int,u.2=[x,y]/\0<=x/\x<=y/\y<m:=λu hu=>by
   have:u.2∈ts.map key:=by rw[<- eu'];exact xM hu
   obtain ⟨t,ht,e⟩:=xc.mp this
   rw[<- e]
   exact qJ (tA.bnd t ht)
  have nn:∀u∈us,u.2≠[]:=λu hu z=>by
   obtain ⟨a,b,e,_⟩:=keys u hu
   rw[z] at e
   cases e
  refine ⟨L,us,rfl,.inl (SqL.of (by rw[ah,ey])),λu hu=>⟨SqT.of (tu10.2 u hu),nn u hu⟩,λL2 out hL2 po ps =>?_⟩
  have s11:=s10.trans (ae hL2 (.lst (out.map λt =>.ref t.1)))
  have tu11:=tu10.same (ae hL2 (.lst (out.map λt =>.ref t.1)))
  refine ⟨L2,_,rfl,.inl ⟨SqL.of ah,λl3 hl3 =>?_⟩⟩
  have s12:=s11.trans (ae hl3 (.tup (out.map λt =>.ref t.1)))
  have tu12:=tu11.same (ae hl3 (.tup (out.map λt =>.ref t.1)))
  refine ⟨(by show 2<=vZ;decide),λb hb=>⟨_,rfl,(by show 2<=vZ;decide),λp hp =>?_⟩⟩
  have sb:=ae hb (.tup [.int m,.ref l3])
  have sp:=ae hp (.tup [.ref b,.int n])
  have lu:us.length=ts.length:=by have:=congrArg List.length eu';rwa [vM,vM] at this
  refine q p b n m out _ (s8.trans (s12.trans (sb.trans sp))) ah ⟨⟨l3,sp _ _ ah,sp _ _ (sb _ _ ah)⟩,λu hu=>sp _ _ (sb _ _ (tu12.2 u (po.mem_iff.mp hu))),λu hu=>keys u (po.mem_iff.mp hu),?_⟩ m0 m1 n0
  rw[po.length_eq];omega
 refine cF ((bI kK).drop 7) (MT H most 30) ?hU λtU pU mU =>?gU
 case hU =>
  refine ⟨_,ai (bO wZ rfl (bB rfl B.b_range (aa (aE di (pv 4) (aZ iE rfl B.b_int qF (aa (gj gB (pv 2) aj (aI _)) ag))) ag)) (ak (i:=9) bA.nd rfl (Or.inl rfl))
    (ai (aR (ax az rfl B.b_divmod aG (aa (pv 0) (aa (pv 2) ag))) (aO rfl (aq (ak (i:=0) bA.nd rfl (Or.inl rfl)) (aq (ak (i:=10) bA.nd rfl (Or.inl rfl)) aK))))
    (ai (aR (ax az rfl B.b_divmod aG (aa (pv 0) (aa (pv 2) ag))) (aO rfl (aq (ak (i:=0) bA.nd rfl (Or.inl rfl)) (aq (ak (i:=8) bA.nd rfl (Or.inl rfl)) aK))))
    (ai (aR (ax az rfl B.b_divmod aG (aa (pv 0) (aa aj ag))) (aO rfl (aq (ak (i:=0) bA.nd rfl (Or.inl rfl)) (aq (ak (i:=11) bA.nd rfl (Or.inl rfl)) aK))))
    (ay (bE (cH wG zo zp dW (pv 6) (aa (aE ug (bZ (aa (aQ (aa (pv 10) (aa (pv 8) ag))) ag)) (aE bP aj (aZ iE rfl B.b_int qF (aa (gj bV (pv 11) aj (aI _)) ag)))) ag))))))))
   (ai (bp (aD bV (pv 5) aj (aI _)) (ay (dq (i:=6) ["one", "other", "many"] [none,none,some 2] rfl bA.nd rfl rfl (dQ (pv 6)) rfl (λ_ _ _ _ _=>ko (K:=K) (i:=0) (j:=1) tH rfl rfl (Or.inl rfl) (Or.inl rfl)) (λ_ _ _ _ _=>dG)
     (λ_ _ _ _ _=>aQ (aa (aE bU (aE bU (pv 2) aj) (pv 0)) (aa (aE bU (aE bU (pv 2) aj) (pv 1)) ag))))) aN) pT),?_⟩
  rintro σ H2 ⟨n,m,wy,c,t,l,ts,c7,c8,c9,c10,c11,rfl,n0,m0,m1,cc0,cc1,s2,hl,tA,lt⟩
  have hN:∃N:Int,c*(if decide (0<m)=true then 1 else 0)=N/\0<=N/\N<=c/\(0<N->0<m):=by
   by_cases h:0<m
   ·exact ⟨c,by rw[if_pos (decide_eq_true h)];omega,cc0,by omega,λ_=>h⟩
   ·exact ⟨0,by rw[if_neg (by simpa using h)];omega,by omega,by omega,λz=>by omega⟩
  obtain ⟨N,eN,N0,N1,Nm⟩:=hN
  refine ⟨_,rfl,_,rfl,_,_,rfl,rfl,.inr ⟨_,rfl,_,_,rfl,rfl,.inl ⟨by omega,by omega⟩,N,by rw[<- eN],by omega,by omega,?_⟩⟩
  refine bC (λi σ H'=>(∃(n:Int) (c8 c9 c10 c11:Option V),0<=n/\σ=[some (.int n),some (.int most),some (.int m),some (.int wy),some (.int c),some (.int t),some (.ref l),c7,c8,c9,c10,c11])/\aB H H'/\∃ts,bM H' l m ts/\ts.length<=30+2*i) ⟨⟨_,_,_,_,_,n0,rfl⟩,s2,ts,tA,by omega⟩ ?_ ?_
  ·rintro i σ H3 hi ⟨⟨n,c8,c9,c10,c11,n0,rfl⟩,s3,ts,tA,lt⟩
   have hi':(i:Int)<N:=by omega
   have mp:0<m:=Nm (by omega)
   obtain ⟨q0,x0,x1⟩:=dmN n0 mp
   refine ⟨_,rfl,_,rfl,n,m,rfl,⟨mp,by omega⟩,λp hp=>⟨p,_,rfl,SqT.of ah,rfl,_,_,rfl,_,_,rfl,rfl,?_⟩⟩
   have tA1:=tA.same (ae hp (.tup [.int (n/m),.int (n%m)]))
   have s4:=s3.trans (ae hp (.tup [.int (n/m),.int (n%m)]))
   generalize upd H3 p (.tup [.int (n/m),.int (n%m)])=H4 at tA1 s4
   generalize n/m=n1 at q0
   generalize n%m=x at x0 x1
   obtain ⟨q1,y0,y1⟩:=dmN q0 mp
   refine ⟨_,rfl,_,rfl,n1,m,rfl,⟨mp,by omega⟩,λp hp=>⟨p,_,rfl,SqT.of ah,rfl,_,_,rfl,_,_,rfl,rfl,?_⟩⟩
   have tA2:=tA1.same (ae hp (.tup [.int (n1/m),.int (n1%m)]))
   have s5:=s4.trans (ae hp (.tup [.int (n1/m),.int (n1%m)]))
   generalize upd H4 p (.tup [.int (n1/m),.int (n1%m)])=H5 at tA2 s5
   generalize n1/m=n2 at q1
   generalize n1%m=y at y0 y1
   obtain ⟨q2,z0,z1⟩:=dmN (j:=8) q1 (by decide)
   refine ⟨_,rfl,n2,8,rfl,⟨by decide,by decide⟩,λp hp=>⟨p,_,rfl,SqT.of ah,rfl,_,_,rfl,_,_,rfl,rfl,?_⟩⟩
   have tA3:=tA2.same (ae hp (.tup [.int (n2/8),.int (n2%8)]))
   have s6:=s5.trans (ae hp (.tup [.int (n2/8),.int (n2%8)]))
   generalize upd H5 p (.tup [.int (n2/8),.int (n2%8)])=H6 at tA3 s6
   generalize n2/8=n3 at q2
   generalize n2%8=z at z0 z1
   refine ⟨_,rfl,.inl ⟨rfl,_,SqL.of tA3.at'⟩,_,rfl,_,rfl,(by show 2<=vZ;decide),λt1 ht1=>⟨(by show 1<=vZ;decide),λb1 hb1 =>?_⟩⟩
   have hk:∃k:Nat,(1+(if decide (V.int z=V.int 0)=true then 1 else 0):Int)=(k:Int)/\1<=k/\k<=2:=by
    by_cases h:V.int z=V.int 0
    ·exact ⟨2,by rw[if_pos (decide_eq_true h)];rfl,by omega,by omega⟩
    ·exact ⟨1,by rw[if_neg (by simpa using h)];rfl,by omega,by omega⟩
   obtain ⟨k,ek,k1,k2⟩:=hk
   refine ⟨_,rfl,rfl,.inr ⟨_,rfl,_,_,rfl,rfl,b1,(k:Int),[.ref t1],rfl,by rw[<- ek],ah,by omega,by omega,?_,λb2 hb2 =>?_⟩⟩
   ·show 1*(k:Int).toNat<=vZ
    exact small (by omega)
   have g1:=ae ht1 (.tup [.int x,.int y])
   have g2:=ae hb1 (.lst [.ref t1])
   have g3:=ae hb2 (.lst (w9 (k:Int).toNat [V.ref t1]).flatten)
   have tA6:=((tA3.same g1).same g2).same g3
   have et:upd (upd (upd H6 t1 (.tup [.int x,.int y])) b1 (.lst [.ref t1])) b2 (.lst (w9 (k:Int).toNat [V.ref t1]).flatten) t1=some (.tup [.int x,.int y]):=g3 _ _ (g2 _ _ ah)
   have eb2:upd (upd (upd H6 t1 (.tup [.int x,.int y])) b1 (.lst [.ref t1])) b2 (.lst (w9 (k:Int).toNat [V.ref t1]).flatten) b2=some (.lst (((w9 k (t1,x,y))).map λu=>V.ref u.1)):=by
    rw[ah,yM]
    rw[nc,List.map_replicate]
   have s9:=s6.trans (g1.trans (g2.trans g3))
   generalize upd (upd (upd H6 t1 (.tup [.int x,.int y])) b1 (.lst [.ref t1])) b2 (.lst (w9 (k:Int).toNat [V.ref t1]).flatten)=H9 at tA6 et eb2 s9
   refine ⟨l,b2,_,_,rfl,rfl,tA6.at',eb2,?_,⟨_,_,_,_,_,q2,rfl⟩,aB.bN s9 hl _,ts++w9 k (t1,x,y),?_,?_⟩
   ·rw[vM,vM,AK];exact small (by omega)
   ·rw[<- wb]
    refine tA6.put (H:=H) (λu hu =>?_) λu hu =>?_
    ·rcases vY.mp hu with h | h
     ·exact tA6.tup u h
     ·rw[BG h];exact et
    ·rcases vY.mp hu with h | h
     ·exact tA6.bnd u h
     ·rw[BG h];exact ⟨x0,x1,y0,y1⟩
   ·rw[vQ,AK];omega
  ·rintro σ H3 ⟨⟨n,c8,c9,c10,c11,n0,rfl⟩,s3,ts,tA,lt⟩
   have lt':ts.length<=150:=by omega
   refine ⟨_,rfl,rfl,_,rfl,bX (λ_ =>?_) λ_=>mT _ _ ⟨n,m,wy,c,t,l,ts,_,_,_,_,_,rfl,n0,m0,m1,cc0,cc1,s3,hl,tA,by omega⟩⟩
   have em:(ts.map λt=>(t.1,V.int t.2.1,V.int t.2.2)).map (λt=>V.ref t.1)=ts.map λt=>V.ref t.1:=by rw[zM];rfl
   refine ⟨_,rfl,l,rfl,⟨_,SqL.of tA.at'⟩,gK (ts:=ts.map λt=>(t.1,V.int t.2.1,V.int t.2.2)) (λi ys H'=>aB H3 H'/\∃us,T3 H' ys us/\us.length=i/\∀t∈us,0<=t.2.1/\t.2.1<m/\0<=t.2.2/\t.2.2<m) (by decide) ⟨aB.refl _,[],⟨rfl,λu hu=>by cases hu⟩,rfl,λu hu=>by cases hu⟩ (by rw[vM];exact small (by omega)) ?_ ?_ ?_⟩
   ·rintro i ys H' _ ⟨s',_⟩
    rw[em]
    refine ⟨SqL.of (s' _ _ tA.at'),λt ht =>?_⟩
    obtain ⟨tt,htt,rfl⟩:=xc.mp ht
    exact SqT.of (s' _ _ (tA.tup tt htt))
   ·rintro i t ys H' ht hy ⟨s',us,tu,lu,bu⟩ R1 R0 r1 r0
    rw[wm] at ht
    cases hi:ts[i]? with
    | none=>rw[hi] at ht;cases ht
    | some tt =>
    rw[hi] at ht
    have ht':=wB ht
    subst ht'
    have bb:=tA.bnd tt (we hi)
    refine cA ⟨_,rfl,_,_,rfl,rfl,_,rfl,_,_,rfl,rfl,_,rfl,_,_,rfl,rfl,_,rfl,_,_,rfl,rfl,(by show 2<=vZ;decide),λtn htn=>r1 _ _ ⟨s'.trans (ae htn _),us++[(tn,m-1-tt.2.1,m-1-tt.2.2)],tu.add htn _ _,by rw[vQ,lu];rfl,de bu (by omega)⟩⟩
   ·rintro ys H9 hy ⟨s9,us,tu,lu,bu⟩ L hL
    rw[vM] at lu
    exact mT _ _ ⟨n,m,wy,c,t,L,us,_,_,_,_,_,rfl,n0,m0,m1,cc0,cc1,s3.trans (s9.trans (ae hL _)),(s3.trans s9).free hL,tu.uS hL bu,by omega⟩
 refine cF ((bI kK).drop 6) (MT H most 30) ?hV λtV pV mV =>?gV
 case hV =>
  refine ⟨_,ai (bp (aD bV (pv 3) aj (aI _)) (ai (dq (i:=6) ["place", "many"] [none,some 2] rfl bA.nd rfl rfl (bB rfl B.b_range (aa (pv 2) ag)) rfl (λ_ _ _ _ _=>ak (i:=0) ndPM rfl (Or.inl rfl)) (λ_ _ _ _ _=>dG)
    (λ_ _ _ _ _=>aQ (aa (pv 0) (aa (aE dj (aE bP (pv 0) aj) (pv 1)) ag))))
   (ay (a9 (i:=4) bA.nd rfl (Or.inl rfl) (aE dj (pv 4) aj)))) aN) pU,?_⟩
  rintro σ H2 ⟨n,m,wy,c,t,l,ts,c7,c8,c9,c10,c11,rfl,n0,m0,m1,cc0,cc1,s2,hl,tA,lt⟩
  refine ⟨_,rfl,rfl,_,rfl,bX (λ_ =>?_) λ_=>mU _ _ ⟨n,m,wy,c,t,l,ts,_,_,_,_,_,rfl,n0,m0,m1,cc0,cc1,s2,hl,tA,lt⟩⟩
  refine ⟨_,rfl,m,rfl,by omega,by omega,cO (λi ys H'=>aB H2 H'/\∃us,T3 H' ys us/\us.length=i/\∀t∈us,0<=t.2.1/\t.2.1<m/\0<=t.2.2/\t.2.2<m) ⟨aB.refl _,[],⟨rfl,λu hu=>by cases hu⟩,rfl,λu hu=>by cases hu⟩ (small (by omega)) ?_ ?_⟩
  ·rintro i ys H' hi hy ⟨s',us,tu,lu,bu⟩ R1 R0 r1 r0
   have mp:0<m:=by omega
   have b1:=yV (0+(i:Int)+1) (b:=m) (by omega)
   have b2:=yC (0+(i:Int)+1) mp
   exact cA ⟨_,rfl,_,rfl,_,_,rfl,rfl,_,rfl,_,_,rfl,rfl,mp,(by show 2<=vZ;decide),λtn htn=>r1 _ _ ⟨s'.trans (ae htn _),us++[(tn,0+(i:Int),(0+(i:Int)+1)%m)],tu.add htn _ _,by rw[vQ,lu];rfl,de bu (by omega)⟩⟩
  ·rintro ys H9 hy ⟨s9,us,tu,lu,bu⟩ L hL
   have z0:=yV c (b:=5) (by decide)
   have z1:=yC c (b:=5) (by decide)
   exact ⟨_,rfl,_,_,rfl,rfl,(by show (0:Int)<5;decide),mU _ _ ⟨n,m,wy,c%5,t,L,us,_,_,_,_,_,rfl,n0,m0,m1,z0,by omega,s2.trans (s9.trans (ae hL _)),(s2.trans s9).free hL,tu.uS hL bu,by omega⟩⟩
 refine ⟨_,ai (aR (ax az rfl B.b_divmod aG (aa (pv 0) (aa (aE bP (pv 1) aj) ag))) (aO rfl (aq (ak (i:=0) bA.nd rfl (Or.inl rfl)) (aq (ak (i:=2) bA.nd rfl (Or.inr rfl)) aK))))
  (ai (aR (ax az rfl B.b_divmod aG (aa (pv 0) (aa aj ag))) (aO rfl (aq (ak (i:=0) bA.nd rfl (Or.inl rfl)) (aq (ak (i:=3) bA.nd rfl (Or.inl rfl)) aK))))
  (ai (aR (ax az rfl B.b_divmod aG (aa (pv 0) (aa (aE bP (aE di aj (pv 1)) aj) ag))) (aO rfl (aq (ak (i:=0) bA.nd rfl (Or.inl rfl)) (aq (ak (i:=4) bA.nd rfl (Or.inl rfl)) aK))))
  (ai (aR (ax az rfl B.b_divmod aG (aa (pv 0) (aa aj ag))) (aO rfl (aq (ak (i:=0) bA.nd rfl (Or.inl rfl)) (aq (ak (i:=5) bA.nd rfl (Or.inl rfl)) aK))))
  (ai (a9 (i:=6) bA.nd rfl (Or.inl rfl) (bZ ag))
  (ai (bp (aD fT (pv 3) aj (aI _))
   (ai (bO wZ rfl (dR rfl B.b_range (aa aj (aa (pv 2) ag))) (ak (i:=7) bA.nd rfl (Or.inl rfl))
    (ai (aR (ax az rfl B.b_divmod aG (aa (pv 0) (aa (pv 7) ag))) (aO rfl (aq (ak (i:=0) bA.nd rfl (Or.inl rfl)) (aq (ak (i:=8) bA.nd rfl (Or.inl rfl)) aK))))
    (ay (bE (cH wG xw xx b7 (pv 6) (aa (aQ (aa (pv 8) (aa (pv 7) ag))) ag))))))
   (ay (a9 (i:=4) bA.nd rfl (Or.inl rfl) (aE dj (pv 4) aj)))) aN) pV))))),?_⟩
 obtain ⟨q0,x0,x1⟩:=dmN n0 (show 0<most+1 by omega)
 refine ⟨_,rfl,_,rfl,_,_,rfl,rfl,n,most+1,rfl,⟨by omega,by omega⟩,λp hp=>⟨p,_,rfl,SqT.of ah,rfl,_,_,rfl,_,_,rfl,rfl,?_⟩⟩
 have s1:=ae hp (.tup [.int (n/(most+1)),.int (n%(most+1))])
 generalize upd H p (.tup [.int (n/(most+1)),.int (n%(most+1))])=H1 at s1
 generalize n/(most+1)=n1 at q0
 generalize n%(most+1)=m at x0 x1
 obtain ⟨q1,y0,y1⟩:=dmN (j:=6) q0 (by decide)
 refine ⟨_,rfl,n1,6,rfl,⟨by decide,by decide⟩,λp hp=>⟨p,_,rfl,SqT.of ah,rfl,_,_,rfl,_,_,rfl,rfl,?_⟩⟩
 have s2:=s1.trans (ae hp (.tup [.int (n1/6),.int (n1%6)]))
 generalize upd H1 p (.tup [.int (n1/6),.int (n1%6)])=H2 at s2
 generalize n1/6=n2 at q1
 generalize n1%6=wy at y0 y1
 obtain ⟨q2,z0,z1⟩:=dmN q1 (show 0<2*most+1 by omega)
 refine ⟨_,rfl,_,rfl,_,_,rfl,rfl,.inl ⟨by decide,by decide⟩,_,_,rfl,rfl,n2,2*most+1,rfl,⟨by omega,by omega⟩,λp hp=>⟨p,_,rfl,SqT.of ah,rfl,_,_,rfl,_,_,rfl,rfl,?_⟩⟩
 have s3:=s2.trans (ae hp (.tup [.int (n2/(2*most+1)),.int (n2%(2*most+1))]))
 generalize upd H2 p (.tup [.int (n2/(2*most+1)),.int (n2%(2*most+1))])=H3 at s3
 generalize n2/(2*most+1)=n3 at q2
 generalize n2%(2*most+1)=c at z0 z1
 obtain ⟨q3,u0,u1⟩:=dmN (j:=2) q2 (by decide)
 refine ⟨_,rfl,n3,2,rfl,⟨by decide,by decide⟩,λp hp=>⟨p,_,rfl,SqT.of ah,rfl,_,_,rfl,_,_,rfl,rfl,?_⟩⟩
 have s4:=s3.trans (ae hp (.tup [.int (n3/2),.int (n3%2)]))
 generalize upd H3 p (.tup [.int (n3/2),.int (n3%2)])=H4 at s4
 generalize n3/2=n4 at q3
 generalize n3%2=t at u0 u1
 refine ⟨(by show 0<=vZ;decide),λl hl4 =>?_⟩
 have hl:=s4.free hl4
 have s5:=s4.trans (ae hl4 (.lst []))
 have tA:bM (upd H4 l (.lst [])) l m []:=⟨ah,λt z=>(by cases z),λt z=>(by cases z)⟩
 generalize upd H4 l (.lst [])=H5 at s5 tA
 refine ⟨_,rfl,_,_,rfl,rfl,_,rfl,bX (λ_ =>?_) λ_=>mV _ _ ⟨n4,m,wy,c,t,l,[],_,_,_,_,_,rfl,q3,x0,by omega,z0,by omega,s5,hl,tA,by simp⟩⟩
 refine ⟨_,rfl,1,_,rfl,⟨by decide,by decide,by omega,by omega⟩,bC (λj σ H4=>(∃(n:Int) (c7 c8:Option V),0<=n/\σ=[some (.int n),some (.int most),some (.int m),some (.int wy),some (.int c),some (.int t),some (.ref l),c7,c8,none,none,none])/\aB H H4/\∃us,bM H4 l m us/\us.length=j) ⟨⟨_,_,_,q3,rfl⟩,s5,[],tA,rfl⟩ ?_ ?_⟩
 ·rintro j σ H6 hj ⟨⟨n,c7,c8,n0,rfl⟩,s6,us,tA6,lu⟩
  have hj':1+(j:Int)<m:=by omega
  obtain ⟨q5,v0,v1⟩:=dmN n0 (show 0<1+(j:Int) by omega)
  refine ⟨_,rfl,_,rfl,n,1+(j:Int),rfl,⟨by omega,by omega⟩,λp hp=>⟨p,_,rfl,SqT.of ah,rfl,_,_,rfl,_,_,rfl,rfl,?_⟩⟩
  have s7:=s6.trans (ae hp (.tup [.int (n/(1+(j:Int))),.int (n%(1+(j:Int)))]))
  have tA7:=tA6.same (ae hp (.tup [.int (n/(1+(j:Int))),.int (n%(1+(j:Int)))]))
  generalize upd H6 p (.tup [.int (n/(1+(j:Int))),.int (n%(1+(j:Int)))])=H7 at s7 tA7
  generalize n/(1+(j:Int))=n5 at q5
  generalize n%(1+(j:Int))=o at v0 v1
  refine ⟨_,rfl,.inl ⟨rfl,_,SqL.of tA7.at'⟩,_,rfl,_,rfl,(by show 2<=vZ;decide),λtt htt =>?_⟩
  exact ⟨l,_,_,rfl,rfl,(ae htt _) _ _ tA7.at',(by rw[vM];exact cE (by omega)),⟨_,_,_,q5,rfl⟩,aB.bN (s7.trans (ae htt _)) hl _,us++[(tt,o,1+(j:Int))],tA7.push (H0:=H) htt (by omega),by rw[vQ,lu];rfl⟩
 ·rintro σ H6 ⟨⟨n,c7,c8,n0,rfl⟩,s6,us,tA6,lu⟩
  have w0:=yV c (b:=4) (by decide)
  have w1:=yC c (b:=4) (by decide)
  exact ⟨_,rfl,_,_,rfl,rfl,(by show (0:Int)<4;decide),mV _ _ ⟨n,m,wy,c%4,t,l,us,_,_,_,_,_,rfl,n0,x0,by omega,w0,by omega,s6,hl,tA6,by omega⟩⟩
end
open PySem L2
def TO (H:Hp)(l:Addr)(m:Int)(ts:List (Addr×Int×Int)):Prop:=bM H l m ts/\∀t∈ts,t.2.1<=t.2.2
theorem TO.same {H H':Hp}{l:Addr}{m:Int}{ts:List (Addr×Int×Int)}(h:TO H l m ts)(s:aB H H'):TO H' l m ts:=⟨h.1.same s,h.2⟩
theorem TO.push {H:Hp}{l:Addr}{m:Int}{ts:List (Addr×Int×Int)}(h:TO H l m ts){t:Addr}(ht:H t=none){a b:Int}(hab:0<=a/\a<=b/\b<m) :
  TO (upd (upd H t (.tup [.int a,.int b])) l (.lst ((ts.map λt =>.ref t.1)++[.ref t]))) l m (ts++[(t,a,b)]):=by
 refine ⟨h.1.push (H0:=H) ht (by omega),λx hx =>?_⟩
 rcases vY.mp hx with z | z
 ·exact h.2 x z
 ·rw[wc] at z;subst z;exact hab.2.1
theorem jh {α β:Type}(g:α -> β):∀(l:List α) (n:Nat),(l.map g).eraseIdx n=(l.eraseIdx n).map g
 | [],_=>rfl
 | _ :: _,0=>rfl
 | x :: l,n+1=>by
  show g x :: (l.map g).eraseIdx n=g x :: (l.eraseIdx n).map g
  rw[jh g l n]
theorem TO.erase {H:Hp}{l:Addr}{m:Int}{ts:List (Addr×Int×Int)}(h:TO H l m ts)(k:Nat):TO (upd H l (.lst ((ts.map λt=>V.ref t.1).eraseIdx k))) l m (ts.eraseIdx k):=by
 rw[jh]
 exact ⟨h.1.put (H:=H) (λt ht=>h.1.tup t (Al ht)) λt ht=>h.1.bnd t (Al ht),λt ht=>h.2 t (Al ht)⟩
def rw3 (t:Addr×Int×Int):Addr×List Int:=(t.1,[t.2.1,t.2.2])
theorem nh (ts:List (Addr×Int×Int)):(ts.map rw3).map (λu=>V.ref u.1)=ts.map λt=>V.ref t.1:=by rw[zM];rfl
theorem TO.row {H:Hp}{l:Addr}{m:Int}{ts:List (Addr×Int×Int)}(h:TO H l m ts):∀u∈ts.map rw3,H u.1=some (.tup (u.2.map V.int))/\∃a b:Int,u.2=[a,b]/\0<=a/\a<=b/\b<m:=λu hu=>by
 obtain ⟨t,ht,rfl⟩:=xc.mp hu
 exact ⟨h.1.tup t ht,t.2.1,t.2.2,rfl,(h.1.bnd t ht).1,h.2 t ht,(h.1.bnd t ht).2.2.2⟩
abbrev ni:Sp:=λvs H Q _=>∃n:Int,vs=[.int n]/\0<=n/\∀(p b:Addr) (n' m:Int) (ts:List (Addr×List Int)) (H':Hp),aB H H'->H' p=some (.tup [.ref b,.int n'])->Wb H' b m ts->0<=m->m<=40->0<=n'->Q (.ref p) H'
@[irreducible] def fR:Sp:=ni
theorem cq {vs:List V}{H:Hp}{Q:VK}{E:XK}:fR vs H Q E↔ni vs H Q E:=by
 delta fR
 exact As
def MW (H:Hp)(σ:St)(H':Hp):Prop:=∃(n m:Int) (l:Addr) (ts:List (Addr×Int×Int)) (c2 c4 c5 c6 c7 c8 c9 c10 c11:Option V),
 σ=[some (.int n),some (.int m),c2,some (.ref l),c4,c5,c6,c7,c8,c9,c10,c11]/\0<=n/\0<=m/\m<=40/\aB H H'/\H l=none/\TO H' l m ts/\ts.length<=200
theorem vE {d:Int}(h0:0<=d)(h1:d<3):∃e:Int,0<e/\e<=40/\atI [V.int 2,.int 5,.int 40] d=some (.int e):=by
 have hd:d=0\/d=1\/d=2:=by omega
 rcases hd with e | e | e <;> subst e
 ·exact ⟨2,by decide,by decide,rfl⟩
 ·exact ⟨5,by decide,by decide,rfl⟩
 ·exact ⟨40,by decide,by decide,rfl⟩
section
variable  {P:wu}{w:w4}{K:vV}{mg:Str->Option vP}{base:Heap}{f:Addr}{fd:x8}
theorem bj:bh ["number", "many", "near", "ties", "place", "other", "gone", "k", "at", "count", "one", "turn"] ["number"] (aL qG):=⟨rfl,rfl,rfl,by decide +kernel,rfl,by decide +kernel,by decide +kernel⟩
theorem uU (F:Fun K "_law_wide" "_law_wide" qG f fd)(B:Blt mg):cn P w K mg base CX0 1 f fd ["number"] fR:=by
 refine F.ok bj (λvs H Q E h =>?_) (λcdv A outer s H vs Q E hr h =>?_)
 ·obtain ⟨c,rfl,_⟩:=cq.mp h
  rfl
 obtain ⟨n,rfl,n0,q⟩:=cq.mp h
 refine cF ((bI qG).drop 11) (MW H) ?hT λtT pT mT =>?gT
 case hT =>
  refine ⟨_,ay (aP (aQ (aa (aQ (aa (pv 1) (aa (aZ ba rfl B.b_tuple Ag (aa (ax cC rfl B.b_sorted d8 (aa (pv 3) ag)) ag)) ag))) (aa (pv 0) ag)))),?_⟩
  rintro σ H8 ⟨n,m,l,ts,c2,c4,c5,c6,c7,c8,c9,c10,c11,rfl,n0,m0,m1,s8,hl,tA,lt⟩
  have row:=tA.row
  refine ⟨_,rfl,_,rfl,l,ts.map rw3,rfl,.inl (SqL.of (by rw[nh];exact tA.1.at')),λu hu=>⟨SqT.of (row u hu).1,λz =>?_⟩,λL2 out hL2 po ps=>⟨L2,_,rfl,.inl ⟨SqL.of ah,λl3 hl3=>⟨(by show 2<=vZ;decide),λb hb=>⟨_,rfl,(by show 2<=vZ;decide),λp hp =>?_⟩⟩⟩⟩⟩
  ·obtain ⟨_,x,y,e,_⟩:=row u hu
   rw[z] at e;cases e
  have s12:=(ae hL2 (.lst (out.map λt =>.ref t.1))).trans (ae hl3 (.tup (out.map λt =>.ref t.1)))
  have sb:=ae hb (.tup [.int m,.ref l3])
  have sp:=ae hp (.tup [.ref b,.int n])
  refine q p b n m out _ (s8.trans (s12.trans (sb.trans sp))) ah ⟨⟨l3,sp _ _ ah,sp _ _ (sb _ _ ah)⟩,λu hu=>sp _ _ (sb _ _ (s12 _ _ (row u (po.mem_iff.mp hu)).1)),λu hu=>(row u (po.mem_iff.mp hu)).2,?_⟩ m0 m1 n0
  rw[po.length_eq,vM];exact lt
 refine ⟨_,ai (aR (ax az rfl B.b_divmod aG (aa (pv 0) (aa aj ag))) (aO rfl (aq (ak (i:=0) bj.nd rfl (Or.inl rfl)) (aq (ak (i:=1) bj.nd rfl (Or.inr rfl)) aK))))
  (ai (a9 (i:=1) bj.nd rfl (Or.inr rfl) (aE bP (pv 1) aj))
  (ai (aR (ax az rfl B.b_divmod aG (aa (pv 0) (aa aj ag))) (aO rfl (aq (ak (i:=0) bj.nd rfl (Or.inl rfl)) (aq (ak (i:=2) bj.nd rfl (Or.inl rfl)) aK))))
  (ai (a9 (i:=3) bj.nd rfl (Or.inl rfl) (bZ ag))
  (ai (bO wZ rfl (dR rfl B.b_range (aa aj (aa (pv 1) ag))) (ak (i:=4) bj.nd rfl (Or.inl rfl))
   (ai (aR (ax az rfl B.b_divmod aG (aa (pv 0) (aa (bK dU (bZ (aa aj (aa aj (aa aj ag)))) (pv 2) (λ_ _=>rfl)) ag))) (aO rfl (aq (ak (i:=0) bj.nd rfl (Or.inl rfl)) (aq (ak (i:=5) bj.nd rfl (Or.inl rfl)) aK))))
   (ay (bE (cH wG xw xx b7 (pv 3) (aa (aQ (aa (ax (dS rfl) rfl B.b_max fQ (aa aj (aa (aE bU (aE bU (pv 4) aj) (pv 5)) ag))) (aa (pv 4) ag))) ag))))))
  (ai (aR (ax az rfl B.b_divmod aG (aa (pv 0) (aa aj ag))) (aO rfl (aq (ak (i:=0) bj.nd rfl (Or.inl rfl)) (aq (ak (i:=6) bj.nd rfl (Or.inl rfl)) aK))))
  (ai (bO wZ rfl (bB rfl B.b_range (aa (pv 6) ag)) (ak (i:=7) bj.nd rfl (Or.inl rfl))
   (ai (aR (ax az rfl B.b_divmod aG (aa (pv 0) (aa (ax aH rfl B.b_len Cv (aa (pv 3) ag)) ag))) (aO rfl (aq (ak (i:=0) bj.nd rfl (Or.inl rfl)) (aq (ak (i:=8) bj.nd rfl (Or.inl rfl)) aK))))
   (ay (bE (cH wG AO AQ j8 (pv 3) (aa (pv 8) ag))))))
  (ai (aR (ax az rfl B.b_divmod aG (aa (pv 0) (aa aj ag))) (aO rfl (aq (ak (i:=0) bj.nd rfl (Or.inl rfl)) (aq (ak (i:=9) bj.nd rfl (Or.inl rfl)) aK))))
  (ai (bO wZ rfl (bB rfl B.b_range (aa (pv 9) ag)) (ak (i:=7) bj.nd rfl (Or.inl rfl))
   (ai (aR (ax az rfl B.b_divmod aG (aa (pv 0) (aa (pv 1) ag))) (aO rfl (aq (ak (i:=0) bj.nd rfl (Or.inl rfl)) (aq (ak (i:=10) bj.nd rfl (Or.inl rfl)) aK))))
   (ai (aR (ax az rfl B.b_divmod aG (aa (pv 0) (aa (pv 1) ag))) (aO rfl (aq (ak (i:=0) bj.nd rfl (Or.inl rfl)) (aq (ak (i:=5) bj.nd rfl (Or.inl rfl)) aK))))
   (ay (bE (cH wG xw xx b7 (pv 3) (aa (aQ (aa (ax (fJ rfl) rfl B.b_min dN (aa (pv 10) (aa (pv 5) ag))) (aa (ax (dS rfl) rfl B.b_max fQ (aa (pv 10) (aa (pv 5) ag))) ag))) ag)))))))
  (ai (aR (ax az rfl B.b_divmod aG (aa (pv 0) (aa aj ag))) (aO rfl (aq (ak (i:=0) bj.nd rfl (Or.inl rfl)) (aq (ak (i:=11) bj.nd rfl (Or.inl rfl)) aK))))
  (ai (bp (aD bV (pv 11) aj (aI _)) (ay (dq (i:=3) ["one", "other", "many"] [none,none,some 1] rfl bj.nd rfl rfl (dQ (pv 3)) rfl (λ_ _ _ _ _=>ko (K:=K) (i:=0) (j:=1) tH rfl rfl (Or.inl rfl) (Or.inl rfl)) (λ_ _ _ _ _=>dG)
    (λ_ _ _ _ _=>aQ (aa (aE bU (aE bU (pv 2) aj) (pv 1)) (aa (aE bU (aE bU (pv 2) aj) (pv 0)) ag))))) aN)
   pT)))))))))),?_⟩
 obtain ⟨q0,x0,x1⟩:=dmN (j:=11) n0 (by decide)
 refine ⟨_,rfl,n,11,rfl,⟨by decide,by decide⟩,λp hp=>⟨p,_,rfl,SqT.of ah,rfl,_,_,rfl,_,_,rfl,rfl,?_⟩⟩
 have s1:=ae hp (.tup [.int (n/11),.int (n%11)])
 generalize upd H p (.tup [.int (n/11),.int (n%11)])=H1 at s1
 generalize n/11=n1 at q0
 generalize n%11=m' at x0 x1
 refine ⟨_,rfl,_,_,rfl,rfl,?_⟩
 dsimp only
 have m30:30<=m'+30:=by omega
 have m40:m'+30<=40:=by omega
 generalize m'+30=m at m30 m40
 obtain ⟨q1,y0,y1⟩:=dmN (j:=3) q0 (by decide)
 refine ⟨_,rfl,n1,3,rfl,⟨by decide,by decide⟩,λp hp=>⟨p,_,rfl,SqT.of ah,rfl,_,_,rfl,_,_,rfl,rfl,?_⟩⟩
 have s2:=s1.trans (ae hp (.tup [.int (n1/3),.int (n1%3)]))
 generalize upd H1 p (.tup [.int (n1/3),.int (n1%3)])=H2 at s2
 generalize n1/3=n2 at q1
 generalize n1%3=nr at y0 y1
 obtain ⟨e,e0,e1,ee⟩:=vE y0 y1
 refine ⟨(by show 0<=vZ;decide),λl hl4 =>?_⟩
 have hl:=s2.free hl4
 have s5:=s2.trans (ae hl4 (.lst []))
 have tA:TO (upd H2 l (.lst [])) l m []:=⟨⟨ah,λt z=>(by cases z),λt z=>(by cases z)⟩,λt z=>(by cases z)⟩
 generalize upd H2 l (.lst [])=H5 at s5 tA
 refine ⟨_,rfl,1,_,rfl,⟨by decide,by decide,by omega,by omega⟩,bC (λj σ H4=>(∃(n:Int) (c4 c5:Option V),0<=n/\σ=[some (.int n),some (.int m),some (.int nr),some (.ref l),c4,c5,none,none,none,none,none,none])/\aB H H4/\∃us,TO H4 l m us/\us.length=j) ⟨⟨_,_,_,q1,rfl⟩,s5,[],tA,rfl⟩ ?_ ?_⟩
 ·rintro j σ H6 hj ⟨⟨n,c4,c5,n0,rfl⟩,s6,us,tA6,lu⟩
  have hj':1+(j:Int)<m:=by omega
  obtain ⟨q5,v0,v1⟩:=dmN n0 e0
  refine ⟨_,rfl,(by show 3<=vZ;decide),λb hb=>⟨_,rfl,b,_,nr,_,rfl,rfl,SqL.of ah,ee,n,e,rfl,⟨e0,by omega⟩,λp hp=>⟨p,_,rfl,SqT.of ah,rfl,_,_,rfl,_,_,rfl,rfl,?_⟩⟩⟩
  have g:=(ae hb (.lst [.int 2,.int 5,.int 40])).trans (ae hp (.tup [.int (n/e),.int (n%e)]))
  have s7:=s6.trans g
  have tA7:=tA6.same g
  generalize upd (upd H6 b (.lst [.int 2,.int 5,.int 40])) p (.tup [.int (n/e),.int (n%e)])=H7 at s7 tA7
  generalize n/e=n5 at q5
  generalize n%e=o at v0 v1
  refine ⟨_,rfl,.inl ⟨rfl,_,SqL.of tA7.1.at'⟩,_,rfl,_,_,rfl,rfl,_,rfl,_,_,rfl,rfl,_,_,rfl,_,rfl,(by show 2<=vZ;decide),λtt htt =>?_⟩
  exact ⟨l,_,_,rfl,rfl,(ae htt _) _ _ tA7.1.at',(by rw[vM];exact cE (by omega)),⟨_,_,_,q5,rfl⟩,aB.bN (s7.trans (ae htt _)) hl _,us++[(tt,_,1+(j:Int))],tA7.push htt (by split <;> omega),by rw[vQ,lu];rfl⟩
 rintro σ H6 ⟨⟨n,c4,c5,n0,rfl⟩,s6,us,tA6,lu⟩
 obtain ⟨q6,y0,y1⟩:=dmN (j:=4) n0 (by decide)
 refine ⟨_,rfl,n,4,rfl,⟨by decide,by decide⟩,λp hp=>⟨p,_,rfl,SqT.of ah,rfl,_,_,rfl,_,_,rfl,rfl,?_⟩⟩
 have s7:=s6.trans (ae hp (.tup [.int (n/4),.int (n%4)]))
 have tA7:=tA6.same (ae hp (.tup [.int (n/4),.int (n%4)]))
 generalize upd H6 p (.tup [.int (n/4),.int (n%4)])=H7 at s7 tA7
 generalize n/4=n6 at q6
 generalize n%4=g at y0 y1
 refine ⟨_,rfl,g,rfl,by omega,by omega,bC (λj σ H4=>(∃(n:Int) (c7 c8:Option V),0<=n/\σ=[some (.int n),some (.int m),some (.int nr),some (.ref l),c4,c5,some (.int g),c7,c8,none,none,none])/\aB H H4/\∃us,TO H4 l m us/\us.length+j=(m-1).toNat) ⟨⟨_,_,_,q6,rfl⟩,s7,us,tA7,by omega⟩ ?_ ?_⟩
 ·rintro j σ H8 hj ⟨⟨n,c7,c8,n0,rfl⟩,s8,us,tA8,lu⟩
  have lp:0<us.length:=by omega
  obtain ⟨q8,v0,v1⟩:=dmN n0 (show (0:Int)<((us.map λt=>V.ref t.1).length:Int) by rw[vM];omega)
  refine ⟨_,rfl,_,rfl,l,_,rfl,.inl (SqL.of tA8.1.at'),n,_,rfl,⟨by rw[vM];omega,by rw[vM];omega⟩,λp hp=>⟨p,_,rfl,SqT.of ah,rfl,_,_,rfl,_,_,rfl,rfl,?_⟩⟩
  have g9:=ae hp (.tup [.int (n/((us.map λt=>V.ref t.1).length:Int)),.int (n%((us.map λt=>V.ref t.1).length:Int))])
  have s9:=s8.trans g9
  have tA9:=tA8.same g9
  generalize upd H8 p (.tup [.int (n/((us.map λt=>V.ref t.1).length:Int)),.int (n%((us.map λt=>V.ref t.1).length:Int))])=H9 at s9 tA9
  generalize n/((us.map λt=>V.ref t.1).length:Int)=n8 at q8
  generalize n%((us.map λt=>V.ref t.1).length:Int)=at' at v0 v1
  rw[vM] at v1
  obtain ⟨pn,rfl⟩:∃k:Nat,at'=k:=⟨at'.toNat,by omega⟩
  have ep:us[pn]? = some us[pn]:=vU (by omega)
  refine ⟨_,rfl,.inl ⟨rfl,_,SqL.of tA9.1.at'⟩,_,rfl,l,_,(pn:Int),pn,.ref us[pn].1,rfl,rfl,tA9.1.at',by omega,by omega,?_,by rw[wm,ep];rfl,⟨_,_,_,q8,rfl⟩,aB.bN s9 hl _,us.eraseIdx pn,tA9.erase pn,?_⟩
  ·have:=AW (i:=(pn:Int)) (n:=(us.map λu=>V.ref u.1).length) (by omega) (by rw[vM];omega)
   simpa using this
  ·rw[A2,if_pos (by omega)];omega
 rintro σ H8 ⟨⟨n,c7,c8,n0,rfl⟩,s8,us,tA8,lu⟩
 have lu':us.length<=39:=by omega
 obtain ⟨q9,y0,y1⟩:=dmN (j:=6) n0 (by decide)
 refine ⟨_,rfl,n,6,rfl,⟨by decide,by decide⟩,λp hp=>⟨p,_,rfl,SqT.of ah,rfl,_,_,rfl,_,_,rfl,rfl,?_⟩⟩
 have s9:=s8.trans (ae hp (.tup [.int (n/6),.int (n%6)]))
 have tA9:=tA8.same (ae hp (.tup [.int (n/6),.int (n%6)]))
 generalize upd H8 p (.tup [.int (n/6),.int (n%6)])=H9 at s9 tA9
 generalize n/6=n9 at q9
 generalize n%6=ct at y0 y1
 refine ⟨_,rfl,ct,rfl,by omega,by omega,bC (λj σ H4=>(∃(n:Int) (c5 c7 c10:Option V),0<=n/\σ=[some (.int n),some (.int m),some (.int nr),some (.ref l),c4,c5,some (.int g),c7,c8,some (.int ct),c10,none])/\aB H H4/\∃us,TO H4 l m us/\us.length<=39+j) ⟨⟨_,_,_,_,q9,rfl⟩,s9,us,tA9,by omega⟩ ?_ ?_⟩
 ·rintro j σ H10 hj ⟨⟨n,c5,c7,c10,n0,rfl⟩,s10,us,tA10,lu⟩
  have mp:0<m:=by omega
  obtain ⟨q0,x0,x1⟩:=dmN n0 mp
  refine ⟨_,rfl,_,rfl,n,m,rfl,⟨mp,by omega⟩,λp hp=>⟨p,_,rfl,SqT.of ah,rfl,_,_,rfl,_,_,rfl,rfl,?_⟩⟩
  have tA1:=tA10.same (ae hp (.tup [.int (n/m),.int (n%m)]))
  have s4:=s10.trans (ae hp (.tup [.int (n/m),.int (n%m)]))
  generalize upd H10 p (.tup [.int (n/m),.int (n%m)])=H4 at tA1 s4
  generalize n/m=n1 at q0
  generalize n%m=x at x0 x1
  obtain ⟨q1,y0,y1⟩:=dmN q0 mp
  refine ⟨_,rfl,_,rfl,n1,m,rfl,⟨mp,by omega⟩,λp hp=>⟨p,_,rfl,SqT.of ah,rfl,_,_,rfl,_,_,rfl,rfl,?_⟩⟩
  have tA2:=tA1.same (ae hp (.tup [.int (n1/m),.int (n1%m)]))
  have s5:=s4.trans (ae hp (.tup [.int (n1/m),.int (n1%m)]))
  generalize upd H4 p (.tup [.int (n1/m),.int (n1%m)])=H5 at tA2 s5
  generalize n1/m=n2 at q1
  generalize n1%m=y at y0 y1
  refine ⟨_,rfl,.inl ⟨rfl,_,SqL.of tA2.1.at'⟩,_,rfl,_,rfl,_,_,rfl,_,rfl,_,rfl,_,_,rfl,(by show 2<=vZ;decide),λtt htt =>?_⟩
  refine ⟨l,_,_,rfl,rfl,(ae htt _) _ _ tA2.1.at',(by rw[vM];exact cE (by omega)),⟨_,_,_,_,q1,rfl⟩,aB.bN (s5.trans (ae htt _)) hl _,us++[(tt,_,_)],tA2.push htt ⟨?_,?_,?_⟩,by rw[vQ];show us.length+1<=_;omega⟩
  ·split <;> omega
  ·split <;> split <;> omega
  ·split <;> omega
 rintro σ H10 ⟨⟨n,c5,c7,c10,n0,rfl⟩,s10,us,tA10,lu⟩
 obtain ⟨q9,y0,y1⟩:=dmN (j:=2) n0 (by decide)
 refine ⟨_,rfl,n,2,rfl,⟨by decide,by decide⟩,λp hp=>⟨p,_,rfl,SqT.of ah,rfl,_,_,rfl,_,_,rfl,rfl,?_⟩⟩
 have s11:=s10.trans (ae hp (.tup [.int (n/2),.int (n%2)]))
 have tA11:=tA10.same (ae hp (.tup [.int (n/2),.int (n%2)]))
 generalize upd H10 p (.tup [.int (n/2),.int (n%2)])=H11 at s11 tA11
 generalize n/2=n10 at q9
 generalize n%2=tu at y0 y1
 refine ⟨_,rfl,rfl,_,rfl,bX (λ_ =>?_) λ_=>mT _ _ ⟨n10,m,l,us,_,_,_,_,_,_,_,_,_,rfl,q9,by omega,m40,s11,hl,tA11,by omega⟩⟩
 have em:(us.map λt=>(t.1,V.int t.2.1,V.int t.2.2)).map (λt=>V.ref t.1)=us.map λt=>V.ref t.1:=by rw[zM];rfl
 refine ⟨_,rfl,l,rfl,⟨_,SqL.of tA11.1.at'⟩,gK (ts:=us.map λt=>(t.1,V.int t.2.1,V.int t.2.2)) (λi ys H'=>aB H11 H'/\∃vs,T3 H' ys vs/\vs.length=i/\(∀t∈vs,0<=t.2.1/\t.2.1<m/\0<=t.2.2/\t.2.2<m)/\∀t∈vs,t.2.1<=t.2.2) (by decide) ⟨aB.refl _,[],⟨rfl,λu hu=>by cases hu⟩,rfl,(λu hu=>by cases hu),λu hu=>by cases hu⟩ (by rw[vM];exact small (by omega)) ?_ ?_ ?_⟩
 ·rintro i ys H' _ ⟨s',_⟩
  rw[em]
  refine ⟨SqL.of (s' _ _ tA11.1.at'),λt ht =>?_⟩
  obtain ⟨tt,htt,rfl⟩:=xc.mp ht
  exact SqT.of (s' _ _ (tA11.1.tup tt htt))
 ·rintro i t ys H' ht hy ⟨s',vs,tv,lv,bv,ov⟩ R1 R0 r1 r0
  rw[wm] at ht
  cases hi:us[i]? with
  | none=>rw[hi] at ht;cases ht
  | some tt =>
  rw[hi] at ht
  have ht':=wB ht
  subst ht'
  have bb:=tA11.1.bnd tt (we hi)
  have oo:=tA11.2 tt (we hi)
  refine cA ⟨_,rfl,_,_,rfl,rfl,_,rfl,_,_,rfl,rfl,_,rfl,_,_,rfl,rfl,_,rfl,_,_,rfl,rfl,(by show 2<=vZ;decide),λtn htn=>r1 _ _ ⟨s'.trans (ae htn _),vs++[(tn,m-1-tt.2.2,m-1-tt.2.1)],tv.add htn _ _,by rw[vQ,lv];rfl,de bv (by omega),λx hx =>?_⟩⟩
  rcases vY.mp hx with z | z
  ·exact ov x z
  ·rw[wc] at z;subst z
   show m-1-tt.2.2<=m-1-tt.2.1
   omega
 ·rintro ys H12 hy ⟨s12,vs,tv,lv,bv,ov⟩ L hL
  rw[vM] at lv
  exact mT _ _ ⟨n10,m,L,vs,_,_,_,_,_,_,_,_,_,rfl,q9,by omega,m40,s11.trans (s12.trans (ae hL _)),(s11.trans s12).free hL,⟨tv.uS hL bv,ov⟩,by omega⟩
end
open PySem L2
theorem bM.ext {H:Hp}{l b:Addr}{m:Int}{ts vs:List (Addr×Int×Int)}{ys:List V}(h:bM H l m ts)(T:T3 H ys vs)(hb:H b=none)(bv:∀t∈vs,0<=t.2.1/\t.2.1<m/\0<=t.2.2/\t.2.2<m) :
  bM (upd (upd H b (.lst ys)) l (.lst ((ts.map λt =>.ref t.1)++ys))) l m (ts++vs):=by
 have s:=ae hb (.lst ys)
 rw[T.1, <- wb]
 refine (h.same (ae hb (.lst (vs.map λu=>V.ref u.1)))).put (H:=H) (λt ht =>?_) λt ht =>?_
 ·rcases vY.mp ht with z | z
  ·exact (ae hb _) _ _ (h.tup t z)
  ·exact (ae hb _) _ _ (T.2 t z)
 ·rcases vY.mp ht with z | z
  ·exact h.bnd t z
  ·exact bv t z
section
variable  {P:wu}{w:w4}{K:vV}{mg:Str->Option vP}{base:Heap}{f:Addr}{fd:x8}
theorem ndBP:(["by", "place"]:List Str).Nodup:=by decide +kernel
theorem vF:(["other", "one"]:List Str).Nodup:=by decide +kernel
theorem bW:bh ["number", "way", "many", "gone", "ties", "place", "one", "k", "at"] ["number"] (aL qH):=⟨rfl,rfl,rfl,by decide +kernel,rfl,by decide +kernel,by decide +kernel⟩
theorem sE (F:Fun K "_law_dense" "_law_dense" qH f fd)(B:Blt mg):cn P w K mg base CX0 1 f fd ["number"] fR:=by
 refine F.ok bW (λvs H Q E h =>?_) (λcdv A outer s H vs Q E hr h =>?_)
 ·obtain ⟨c,rfl,_⟩:=cq.mp h
  rfl
 obtain ⟨n,rfl,n0,q⟩:=cq.mp h
 refine ⟨_,ai (aR (ax az rfl B.b_divmod aG (aa (pv 0) (aa aj ag))) (aO rfl (aq (ak (i:=0) bW.nd rfl (Or.inl rfl)) (aq (ak (i:=1) bW.nd rfl (Or.inl rfl)) aK))))
  (ai (aR (ax az rfl B.b_divmod aG (aa (pv 0) (aa aj ag))) (aO rfl (aq (ak (i:=0) bW.nd rfl (Or.inl rfl)) (aq (ak (i:=2) bW.nd rfl (Or.inl rfl)) aK))))
  (ai (aR (ax az rfl B.b_divmod aG (aa (pv 0) (aa aj ag))) (aO rfl (aq (ak (i:=0) bW.nd rfl (Or.inl rfl)) (aq (ak (i:=3) bW.nd rfl (Or.inl rfl)) aK))))
  (ai (bp (aD bV (pv 1) aj (aI _))
   (ai (a9 (i:=4) bW.nd rfl (Or.inl rfl) (bZ ag))
   (ai (bO wZ rfl (bB rfl B.b_range (aa aj ag)) (ak (i:=5) bW.nd rfl (Or.inr rfl))
    (ay (bE (cH wG zo zp dW (pv 4) (aa (dX ["by", "place"] [none,some 5] rfl (dR rfl B.b_range (aa aj (aa aj ag))) rfl (λ_ _ _ _ _=>ak (i:=0) ndBP rfl (Or.inl rfl)) (λ_ _ _ _ _=>dG)
     (λ_ _ _ _ _=>aQ (aa (pv 1) (aa (aE dj (aE bP (pv 1) (pv 0)) aj) ag)))) ag)))))
   (ay (aP (aQ (aa (aQ (aa aj (aa (aZ ba rfl B.b_tuple Ag (aa (ax cC rfl B.b_sorted d8 (aa
    (dX ["pair"] [none] rfl (dQ (pv 4)) rfl (λ_ _ _ _ _=>ak (i:=0) ndP rfl (Or.inl rfl)) (λ_ _ _ _ _=>dG)
     (λ_ _ _ _ _=>aQ (aa (ax (i9 (K:=K) rfl) rfl B.b_min dN (aa (pv 0) ag)) (aa (ax (ja (K:=K) rfl) rfl B.b_max fQ (aa (pv 0) ag)) ag)))) ag)) ag)) ag))) (aa (pv 0) ag))))))) aN)
  (ai (a9 (i:=4) bW.nd rfl (Or.inl rfl) (bZ ag))
  (ai (bO wZ rfl (bB rfl B.b_range (aa (aE bP aj (pv 2)) ag)) (ak (i:=6) bW.nd rfl (Or.inr rfl))
   (ay (bE (cH wG zo zp dW (pv 4) (aa (dX ["other", "one"] [none,some 6] rfl (dR rfl B.b_range (aa (aE bP (pv 6) aj) (aa (aE bP aj (pv 2)) ag))) rfl (λ_ _ _ _ _=>ak (i:=0) vF rfl (Or.inl rfl)) (λ_ _ _ _ _=>dG)
    (λ_ _ _ _ _=>aQ (aa (pv 1) (aa (pv 0) ag)))) ag)))))
  (ai (bO wZ rfl (bB rfl B.b_range (aa (pv 3) ag)) (ak (i:=7) bW.nd rfl (Or.inl rfl))
   (ai (aR (ax az rfl B.b_divmod aG (aa (pv 0) (aa (ax aH rfl B.b_len Cv (aa (pv 4) ag)) ag))) (aO rfl (aq (ak (i:=0) bW.nd rfl (Or.inl rfl)) (aq (ak (i:=8) bW.nd rfl (Or.inl rfl)) aK))))
   (ay (bE (cH wG AO AQ j8 (pv 4) (aa (pv 8) ag))))))
  (ay (aP (aQ (aa (aQ (aa (aE bP aj (pv 2)) (aa (aZ ba rfl B.b_tuple Ag (aa (pv 4) ag)) ag))) (aa (pv 0) ag))))))))))),?_⟩
 obtain ⟨q0,x0,x1⟩:=dmN (j:=3) n0 (by decide)
 refine ⟨_,rfl,n,3,rfl,⟨by decide,by decide⟩,λp hp=>⟨p,_,rfl,SqT.of ah,rfl,_,_,rfl,_,_,rfl,rfl,?_⟩⟩
 have s1:=ae hp (.tup [.int (n/3),.int (n%3)])
 generalize upd H p (.tup [.int (n/3),.int (n%3)])=H1 at s1
 generalize n/3=n1 at q0
 generalize n%3=wy at x0 x1
 obtain ⟨q1,y0,y1⟩:=dmN (j:=3) q0 (by decide)
 refine ⟨_,rfl,n1,3,rfl,⟨by decide,by decide⟩,λp hp=>⟨p,_,rfl,SqT.of ah,rfl,_,_,rfl,_,_,rfl,rfl,?_⟩⟩
 have s2:=s1.trans (ae hp (.tup [.int (n1/3),.int (n1%3)]))
 generalize upd H1 p (.tup [.int (n1/3),.int (n1%3)])=H2 at s2
 generalize n1/3=n2 at q1
 generalize n1%3=mn at y0 y1
 obtain ⟨q2,z0,z1⟩:=dmN (j:=7) q1 (by decide)
 refine ⟨_,rfl,n2,7,rfl,⟨by decide,by decide⟩,λp hp=>⟨p,_,rfl,SqT.of ah,rfl,_,_,rfl,_,_,rfl,rfl,?_⟩⟩
 have s3:=s2.trans (ae hp (.tup [.int (n2/7),.int (n2%7)]))
 generalize upd H2 p (.tup [.int (n2/7),.int (n2%7)])=H3 at s3
 generalize n2/7=n3 at q2
 generalize n2%7=g at z0 z1
 refine ⟨_,rfl,rfl,_,rfl,bX (λ_ =>?_) λ_ =>?_⟩
 ·refine ⟨(by show 0<=vZ;decide),λl hl4 =>?_⟩
  have hl:=s3.free hl4
  have s5:=s3.trans (ae hl4 (.lst []))
  have tA:bM (upd H3 l (.lst [])) l 40 []:=⟨ah,λt z=>(by cases z),λt z=>(by cases z)⟩
  generalize upd H3 l (.lst [])=H5 at s5 tA
  refine ⟨40,rfl,by decide,by decide,bC (λi σ H4=>(∃(c5:Option V),σ=[some (.int n3),some (.int wy),some (.int mn),some (.int g),some (.ref l),c5,none,none,none])/\aB H H4/\∃us,bM H4 l 40 us/\us.length=5*i) ⟨⟨_,rfl⟩,s5,[],tA,rfl⟩ ?_ ?_⟩
  ·rintro i σ H6 hi ⟨⟨c5,rfl⟩,s6,us,tA6,lu⟩
   have hi':i<40:=hi
   refine ⟨_,rfl,.inl ⟨rfl,_,SqL.of tA6.at'⟩,1,6,rfl,⟨by decide,by decide,by decide,by decide⟩,cO (λk ys H'=>aB H6 H'/\∃vs,T3 H' ys vs/\vs.length=k/\∀t∈vs,0<=t.2.1/\t.2.1<40/\0<=t.2.2/\t.2.2<40) ⟨aB.refl _,[],⟨rfl,λu hu=>by cases hu⟩,rfl,λu hu=>by cases hu⟩ (small (by decide)) ?_ ?_⟩
   ·rintro k ys H' hk hy ⟨s',vs,tv,lv,bv⟩ R1 R0 r1 r0
    have b1:=yV (0+(i:Int)+(1+(k:Int))) (b:=40) (by decide)
    have b2:=yC (0+(i:Int)+(1+(k:Int))) (b:=40) (by decide)
    exact cA ⟨_,rfl,_,rfl,_,rfl,_,_,rfl,rfl,_,_,rfl,rfl,(by show (0:Int)<40;decide),(by show 2<=vZ;decide),λtn htn=>r1 _ _ ⟨s'.trans (ae htn _),vs++[(tn,0+(i:Int),(0+(i:Int)+(1+(k:Int)))%40)],tv.add htn _ _,by rw[vQ,lv];rfl,de bv (by omega)⟩⟩
   ·rintro ys H7 hy ⟨s7,vs,tv,lv,bv⟩ b hb
    have lv':vs.length=5:=lv
    have tA7:=tA6.same s7
    refine ⟨l,b,_,_,rfl,rfl,(ae hb _) _ _ tA7.at',ah,?_,⟨_,rfl⟩,aB.bN ((s6.trans s7).trans (ae hb _)) hl _,us++vs,tA7.ext tv hb bv,by rw[vQ];omega⟩
    rw[tv.1,vM,vM];exact small (by omega)
  ·rintro σ H8 ⟨⟨c5,rfl⟩,s8,ts,tA,lt⟩
   have lt':ts.length=200:=lt
   refine ⟨_,rfl,l,rfl,⟨_,SqL.of tA.at'⟩,gJ (xs:=ts.map λt =>.ref t.1) (λi ys H'=>aB H8 H'/\∃us,kM H' ys us/\us.map (·.2)=(ts.take i).map key) ⟨aB.refl _,[],⟨rfl,λu hu=>by cases hu⟩,rfl⟩ (by rw[vM];exact small (by omega)) (λi ys H'' _ z=>SqL.of (z.1 _ _ tA.at')) ?_ ?_⟩
   ·rintro i x ys H' hx hy ⟨s',us,tu,eu⟩ R1 R0 r1 r0
    obtain ⟨tt,ht,rfl⟩:=tG hx
    have e2:=s' _ _ (tA.tup tt (we ht))
    refine cA ⟨_,rfl,_,_,_,rfl,SqT.of e2,_,rfl,_,_,_,rfl,SqT.of e2,(by show 2<=vZ;decide),λtn htn=>r1 _ _ ⟨s'.trans (ae htn _),us++[(tn,key tt)],tu.add htn _,?_⟩⟩
    rw[wb,eu,zS,ht,wb]
    rfl
   rintro ys H9 hy ⟨s9,us,tu,eu⟩ L hL
   have eu':us.map (·.2)=ts.map key:=by rw[eu,vM,xv (vS _)]
   have s10:=s9.trans (ae hL (.lst ys))
   have tu10:=tu.same (ae hL (.lst ys))
   have ey:=tu.1
   have keys:∀u∈us,∃x y:Int,u.2=[x,y]/\0<=x/\x<=y/\y<40:=λu hu=>by
    have:u.2∈ts.map key:=by rw[<- eu'];exact xM hu
    obtain ⟨t,ht,e⟩:=xc.mp this
    rw[<- e]
    exact qJ (tA.bnd t ht)
   have nn:∀u∈us,u.2≠[]:=λu hu z=>by
    obtain ⟨a,b,e,_⟩:=keys u hu
    rw[z] at e
    cases e
   refine ⟨L,us,rfl,.inl (SqL.of (by rw[ah,ey])),λu hu=>⟨SqT.of (tu10.2 u hu),nn u hu⟩,λL2 out hL2 po ps =>?_⟩
   have s11:=s10.trans (ae hL2 (.lst (out.map λt =>.ref t.1)))
   have tu11:=tu10.same (ae hL2 (.lst (out.map λt =>.ref t.1)))
   refine ⟨L2,_,rfl,.inl ⟨SqL.of ah,λl3 hl3 =>?_⟩⟩
   have s12:=s11.trans (ae hl3 (.tup (out.map λt =>.ref t.1)))
   have tu12:=tu11.same (ae hl3 (.tup (out.map λt =>.ref t.1)))
   refine ⟨(by show 2<=vZ;decide),λb hb=>⟨_,rfl,(by show 2<=vZ;decide),λp hp =>?_⟩⟩
   have sb:=ae hb (.tup [.int 40,.ref l3])
   have sp:=ae hp (.tup [.ref b,.int n3])
   have lu:us.length=ts.length:=by have:=congrArg List.length eu';rwa [vM,vM] at this
   refine q p b n3 40 out _ (s8.trans (s12.trans (sb.trans sp))) ah ⟨⟨l3,sp _ _ ah,sp _ _ (sb _ _ ah)⟩,λu hu=>sp _ _ (sb _ _ (tu12.2 u (po.mem_iff.mp hu))),λu hu=>keys u (po.mem_iff.mp hu),?_⟩ (by decide) (by decide) q2
   rw[po.length_eq];omega
 refine ⟨(by show 0<=vZ;decide),λl hl4 =>?_⟩
 have hl:=s3.free hl4
 have s5:=s3.trans (ae hl4 (.lst []))
 have tA:TO (upd H3 l (.lst [])) l (8+mn) []:=⟨⟨ah,λt z=>(by cases z),λt z=>(by cases z)⟩,λt z=>(by cases z)⟩
 generalize upd H3 l (.lst [])=H5 at s5 tA
 refine ⟨_,rfl,_,_,rfl,rfl,8+mn,rfl,by omega,by omega,bC (λi σ H4=>(∃(c6:Option V),σ=[some (.int n3),some (.int wy),some (.int mn),some (.int g),some (.ref l),none,c6,none,none])/\aB H H4/\∃us,TO H4 l (8+mn) us/\us.length<=10*i/\(1<=i->7<=us.length)) ⟨⟨_,rfl⟩,s5,[],tA,by simp,by omega⟩ ?_ ?_⟩
 ·rintro i σ H6 hi ⟨⟨c6,rfl⟩,s6,us,tA6,lu,l7⟩
  have hi':(i:Int)<8+mn:=by omega
  refine ⟨_,rfl,.inl ⟨rfl,_,SqL.of tA6.1.at'⟩,_,rfl,_,_,rfl,rfl,_,rfl,_,_,rfl,rfl,0+(i:Int)+1,8+mn,rfl,⟨by omega,by omega,by omega,by omega⟩,cO (λk ys H'=>aB H6 H'/\∃vs,T3 H' ys vs/\vs.length=k/\(∀t∈vs,0<=t.2.1/\t.2.1<8+mn/\0<=t.2.2/\t.2.2<8+mn)/\∀t∈vs,t.2.1<=t.2.2) ⟨aB.refl _,[],⟨rfl,λu hu=>by cases hu⟩,rfl,(λu hu=>by cases hu),λu hu=>by cases hu⟩ (small (by omega)) ?_ ?_⟩
  ·rintro k ys H' hk hy ⟨s',vs,tv,lv,bv,ov⟩ R1 R0 r1 r0
   refine cA ⟨_,rfl,_,rfl,(by show 2<=vZ;decide),λtn htn=>r1 _ _ ⟨s'.trans (ae htn _),vs++[(tn,0+(i:Int),0+(i:Int)+1+(k:Int))],tv.add htn _ _,by rw[vQ,lv];rfl,de bv (by omega),λx hx =>?_⟩⟩
   rcases vY.mp hx with z | z
   ·exact ov x z
   ·rw[wc] at z;subst z
    show 0+(i:Int)<=0+(i:Int)+1+(k:Int)
    omega
  ·rintro ys H7 hy ⟨s7,vs,tv,lv,bv,ov⟩ b hb
   have tA7:=tA6.same s7
   refine ⟨l,b,_,_,rfl,rfl,(ae hb _) _ _ tA7.1.at',ah,?_,⟨_,rfl⟩,aB.bN ((s6.trans s7).trans (ae hb _)) hl _,us++vs,⟨tA7.1.ext tv hb bv,λx hx =>?_⟩,by rw[vQ];omega,λ_ =>?_⟩
   ·rw[tv.1,vM,vM];exact small (by omega)
   ·rcases vY.mp hx with z | z
    ·exact tA7.2 x z
    ·exact ov x z
   ·rw[vQ]
    by_cases h:1<=i
    ·have:=l7 h;omega
    ·omega
 rintro σ H6 ⟨⟨c6,rfl⟩,s6,us,tA6,lu,l7⟩
 have l7':7<=us.length:=l7 (by omega)
 have lu':us.length<=100:=by omega
 refine ⟨_,rfl,g,rfl,by omega,by omega,bC (λj σ H4=>(∃(n:Int) (c7 c8:Option V),0<=n/\σ=[some (.int n),some (.int wy),some (.int mn),some (.int g),some (.ref l),none,c6,c7,c8])/\aB H H4/\∃us,TO H4 l (8+mn) us/\us.length<=100/\7<=us.length+j) ⟨⟨_,_,_,q2,rfl⟩,s6,us,tA6,lu',by omega⟩ ?_ ?_⟩
 ·rintro j σ H8 hj ⟨⟨n,c7,c8,n0,rfl⟩,s8,us,tA8,lu,l7⟩
  have lp:0<us.length:=by omega
  obtain ⟨q8,v0,v1⟩:=dmN n0 (show (0:Int)<((us.map λt=>V.ref t.1).length:Int) by rw[vM];omega)
  refine ⟨_,rfl,_,rfl,l,_,rfl,.inl (SqL.of tA8.1.at'),n,_,rfl,⟨by rw[vM];omega,by rw[vM];omega⟩,λp hp=>⟨p,_,rfl,SqT.of ah,rfl,_,_,rfl,_,_,rfl,rfl,?_⟩⟩
  have g9:=ae hp (.tup [.int (n/((us.map λt=>V.ref t.1).length:Int)),.int (n%((us.map λt=>V.ref t.1).length:Int))])
  have s9:=s8.trans g9
  have tA9:=tA8.same g9
  generalize upd H8 p (.tup [.int (n/((us.map λt=>V.ref t.1).length:Int)),.int (n%((us.map λt=>V.ref t.1).length:Int))])=H9 at s9 tA9
  generalize n/((us.map λt=>V.ref t.1).length:Int)=n8 at q8
  generalize n%((us.map λt=>V.ref t.1).length:Int)=at' at v0 v1
  rw[vM] at v1
  obtain ⟨pn,rfl⟩:∃k:Nat,at'=k:=⟨at'.toNat,by omega⟩
  have ep:us[pn]? = some us[pn]:=vU (by omega)
  refine ⟨_,rfl,.inl ⟨rfl,_,SqL.of tA9.1.at'⟩,_,rfl,l,_,(pn:Int),pn,.ref us[pn].1,rfl,rfl,tA9.1.at',by omega,by omega,?_,by rw[wm,ep];rfl,⟨_,_,_,q8,rfl⟩,aB.bN s9 hl _,us.eraseIdx pn,tA9.erase pn,?_,?_⟩
  ·have:=AW (i:=(pn:Int)) (n:=(us.map λu=>V.ref u.1).length) (by omega) (by rw[vM];omega)
   simpa using this
  ·rw[A2,if_pos (by omega)];omega
  ·rw[A2,if_pos (by omega)];omega
 rintro σ H8 ⟨⟨n,c7,c8,n0,rfl⟩,s8,us,tA8,lu,l7⟩
 have row:=tA8.row
 refine ⟨_,rfl,_,_,rfl,rfl,_,rfl,l,_,rfl,.inl ⟨SqL.of tA8.1.at',λl3 hl3=>⟨(by show 2<=vZ;decide),λb hb=>⟨_,rfl,(by show 2<=vZ;decide),λp hp =>?_⟩⟩⟩⟩
 have s12:=ae hl3 (.tup (us.map λt =>.ref t.1))
 have sb:=ae hb (.tup [.int (8+mn),.ref l3])
 have sp:=ae hp (.tup [.ref b,.int n])
 refine q p b n (8+mn) (us.map rw3) _ (s8.trans (s12.trans (sb.trans sp))) ah ⟨⟨l3,sp _ _ ah,?_⟩,λu hu=>sp _ _ (sb _ _ (s12 _ _ (row u hu).1)),λu hu=>(row u hu).2,?_⟩ (by omega) (by omega) n0
 ·rw[nh];exact sp _ _ (sb _ _ ah)
 ·rw[vM];omega
end
open PySem L2
def Ok (m:Nat)(ns:List (List Int)):Prop:=∀p∈ns,∃a b:Int,p=[a,b]/\0<=a/\a<=b/\b<m
def rgI (m:Nat):List Int:=(xJ m).map λi:Nat=>(i:Int)
theorem sF {m:Nat}{v:Int}:v∈rgI m↔0<=v/\v<m:=by
 unfold rgI
 rw[xc]
 constructor
 ·rintro ⟨i,hi,rfl⟩
  rw[xh] at hi
  omega
 ·intro h
  exact ⟨v.toNat,xh.mpr (by omega),by omega⟩
theorem qK {R:List Int}{m:Nat}(nd:R.Nodup)(h:∀v∈R,0<=v/\v<m):R.length<=m:=by
 have:=zu nd (l₂:=rgI m) λv hv=>sF.mpr (h v hv)
 unfold rgI at this
 rw[vM,zV] at this
 exact this
theorem ma {R:List Int}{v:Int}(nd:R.Nodup)(h:v∉R):(R++[v]).Nodup:=by
 rw[C4]
 exact ⟨nd,yR.mpr ⟨by simp,DM⟩,λx hx y hy e=>h (by rw[wc] at hy;subst hy;subst e;exact hx)⟩
section
variable  {P:wu}{w:w4}{K:vV}{mg:Str->Option vP}{base:Heap}{f T:Addr}{fd:x8}
def tI:Sp:=λvs H Q _=>∃a b:Int,vs=[.int a,.int b]/\∀t,H t=none->Q (.ref t) (upd H t (.tup ((nrm a b).map V.int)))
theorem vG:bh ["one", "other"] ["one", "other"] (aL vD):=⟨rfl,rfl,rfl,by decide +kernel,rfl,by decide +kernel,by decide +kernel⟩
theorem vH (F:Fun K "tie_of" "tie_of" vD f fd)(mx:mg "max" = none)(mn:mg "min" = none):cn P w K mg base CX0 1 f fd ["one", "other"] tI:=by
 refine F.ok vG (λvs H Q E h =>?_) (λcdv A outer s H vs Q E hr h =>?_)
 ·obtain ⟨a,b,rfl,_⟩:=h
  rfl
 obtain ⟨a,b,rfl,q⟩:=h
 refine ⟨_,ay (aP (aQ (aa (ax (fJ rfl) rfl mn dN (aa (pv 0) (aa (pv 1) ag))) (aa (ax (dS rfl) rfl mx fQ (aa (pv 0) (aa (pv 1) ag))) ag)))),?_⟩
 exact ⟨_,rfl,_,rfl,_,_,rfl,_,rfl,_,rfl,_,_,rfl,(by show 2<=vZ;decide),λt ht=>q t ht⟩
abbrev kN:Sp:=λvs H Q _=>∃(r:Addr) (m a b:Int) (ts:List (Addr×List Int)),vs=[.ref r,.int a,.int b]/\Wb H r m ts/\∀H',aB H H'->Q (.int ((ts.map (·.2)).count (nrm a b):Nat)) H'
@[irreducible] def dA:Sp:=kN
theorem bG {vs:List V}{H:Hp}{Q:VK}{E:XK}:dA vs H Q E↔kN vs H Q E:=by
 delta dA
 exact As
theorem sH:bh ["web", "one", "other"] ["web", "one", "other"] (aL qI):=⟨rfl,rfl,rfl,by decide +kernel,rfl,by decide +kernel,by decide +kernel⟩
theorem sI (F:Fun K "tied_times" "tied_times" qI f fd)(cT:Cal P w K mg base 1 "tie_of" ["one", "other"] tI):cn P w K mg base CX0 2 f fd ["web", "one", "other"] dA:=by
 refine F.ok sH (λvs H Q E h =>?_) (λcdv A outer s H vs Q E hr h =>?_)
 ·obtain ⟨a,b,c,d,e,rfl,_⟩:=bG.mp h
  rfl
 obtain ⟨r,m,a,b,ts,rfl,W,q⟩:=bG.mp h
 obtain ⟨t,e1,e2⟩:=W.at'
 refine ⟨_,ay (aP (lM Ak BH (gW (hu8 hr)) (bK bH (pv 0) aj (λ_ _=>rfl)) (aa (bQ cT hr (by decide) rfl (aa (pv 1) (aa (pv 2) ag))) ag))),?_⟩
 refine ⟨_,rfl,r,_,1,_,rfl,rfl,SqT.of e1,rfl,⟨_,_,rfl,e2⟩,_,rfl,_,rfl,a,b,rfl,λx hx =>?_⟩
 have s1:=ae hx (.tup ((nrm a b).map V.int))
 exact ⟨t,x,ts,nrm a b,rfl,rfl,s1 _ _ e2,λu hu=>s1 _ _ (W.tup u hu),ah,q _ s1⟩
end
open PySem L2
def mp (C:List (Int×V)):List (Key×V):=C.map λe=>(Sum.inl e.1,e.2)
theorem cV (v:Int):∀C:List (Int×V),(v∉C.map (·.1)/\bY (mp C) (Sum.inl v)=none)\/∃x,(v,x)∈C/\bY (mp C) (Sum.inl v)=some x
 | [] =>.inl ⟨by simp,rfl⟩
 | e :: C=>by
  by_cases h:e.1=v
  ·refine .inr ⟨e.2,by rw[<- h];exact wJ,?_⟩
   show bY ((Sum.inl e.1,e.2) :: mp C) (Sum.inl v)=some e.2
   rw[fu (by rw[h])]
  ·have en:bY (mp (e :: C)) (Sum.inl v)=bY (mp C) (Sum.inl v):=by
    show bY ((Sum.inl e.1,e.2) :: mp C) (Sum.inl v)=_
    rw[fw (λz=>h (by injection z))]
   rw[en]
   rcases cV v C with ⟨h1,h2⟩ | ⟨x,h1,h2⟩
   ·exact .inl ⟨by rw[wQ,wj];exact λz=>z.elim (λy=>h y.symm) h1,h2⟩
   ·exact .inr ⟨x,wD _ h1,h2⟩
theorem tJ (v:Int)(C:List (Int×V)):(bY (mp C) (Sum.inl v)).isSome=decide (v∈C.map (·.1)):=by
 rcases cV v C with ⟨h1,h2⟩ | ⟨x,h1,h2⟩
 ·rw[h2,decide_eq_false h1];rfl
 ·rw[h2,decide_eq_true (xM (f:=(·.1)) h1)];rfl
theorem me {v:Int}{C:List (Int×V)}(h:v∈C.map (·.1)):∃x,(v,x)∈C/\bY (mp C) (Sum.inl v)=some x:=by
 rcases cV v C with ⟨h1,_⟩ | z
 ·exact absurd h h1
 ·exact z
theorem qL {v:Int}{C:List (Int×V)}(h:v∉C.map (·.1))(x:V):putK (mp C) (Sum.inl v) x=mp (C++[(v,x)]):=by
 rcases cV v C with ⟨_,h2⟩ | ⟨x,h1,_⟩
 ·rw[qg _ h2];unfold mp;rw[wb];rfl
 ·exact absurd (xM (f:=(·.1)) h1) h
theorem mf (C:List (Int×V)):(mp C).length=C.length:=vM _
theorem qM {a b:Int}(h:a<=b):nrm a b=[a,b]:=by
 unfold nrm mnI mxI
 by_cases c:a=b
 ·subst c;simp
 ·rw[if_neg (by omega),if_pos (by omega)]
theorem vI {H:Hp}{r:Addr}{m:Nat}{ts:List (Addr×List Int)}(W:Wb H r m ts):Ok m (ts.map (·.2)):=λp hp=>by
 obtain ⟨u,hu,rfl⟩:=xc.mp hp
 exact W.pr u hu
theorem ic {n:Nat}(h:n<=5000):n<vZ:=zC h (by decide)
theorem eU {n:Nat}(h:n<=5000):n<=vZ:=zE (ic h)
theorem qN {ms:List Int}{i:Nat}{x:V}(e:(ms.map V.int)[i]? = some x):∃n,ms[i]? = some n/\x = .int n:=by
 rw[wm] at e
 cases z:ms[i]? with
 | none=>rw[z] at e;cases e
 | some n=>rw[z] at e;exact ⟨n,rfl,(wB e).symm⟩
def rot (ns:List Int)(k:Nat):List Int:=ns.drop k++ns.take k
def turn (ns:List Int):List Int:=ns.take 1++(ns.drop 1).reverse
def cW (a b:List Int):List Int:=if HT.lexLt b a=true then b else a
def frm (ns:List Int)(M:Int):List Int:=cW (rot ns (ns.idxOf M)) (turn (rot ns (ns.idxOf M)))
theorem ie (xs:List V){k:Nat}(h:k<=xs.length):cJ xs none (some (k:Int))=xs.take k:=by
 unfold cJ HT.sIx
 simp only[show ¬ ((k:Int)<0) by omega,if_false,yM,C9,Bt,show min k xs.length=k by omega]
theorem eV (xs:List V){k:Nat}(h:k<=xs.length):cJ xs (some (k:Int)) none=xs.drop k:=by
 unfold cJ HT.sIx
 simp only[show ¬ ((k:Int)<0) by omega,if_false,yM,show min k xs.length=k by omega]
 exact xv (by rw[wX];exact vS _)
abbrev nj:Sp:=λvs H Q _=>∃(p:Addr) (ns:List Int),vs=[.ref p]/\H p=some (.tup (ns.map V.int))/\ns≠[]/\ns.length<=500/\∀(z:Addr) (H':Hp) (M:Int),aB H H'->M∈ns->(∀b∈ns,M<=b)->H' z=some (.tup ((frm ns M).map V.int))->Q (.ref z) H'
@[irreducible] def jP:Sp:=nj
theorem eX {vs:List V}{H:Hp}{Q:VK}{E:XK}:jP vs H Q E↔nj vs H Q E:=by
 delta jP
 exact As
section
variable  {P:wu}{w:w4}{K:vV}{mg:Str->Option vP}{base:Heap}{f T:Addr}{fd:x8}
theorem eY:bh ["ring", "at", "onward"] ["ring"] (aL fP):=⟨rfl,rfl,rfl,by decide +kernel,rfl,by decide +kernel,by decide +kernel⟩
theorem mh (F:Fun K "ring_form" "ring_form" fP f fd)(B:Blt mg):cn P w K mg base CX0 1 f fd ["ring"] jP:=by
 refine F.ok eY (λvs H Q E h =>?_) (λcdv A outer s H vs Q E hr h =>?_)
 ·obtain ⟨_,_,rfl,_⟩:=eX.mp h
  rfl
 obtain ⟨p,ns,rfl,ep,ne,l5,q⟩:=eX.mp h
 refine ⟨_,(@ai _ _ _ _ _ (@a9 _ _ 1 _ _ _ _ eY.nd rfl (Or.inl rfl) (lM BF PySem.F.type_tuple_index oO (pv 0) (@aa _ _ _ _ _ (ax (lX rfl) rfl B.b_min dN (@aa _ _ _ _ _ (pv 0) ag rfl)) ag rfl)) rfl (by first | exact .inl rfl | exact .inr rfl | assumption))
  (@ai _ _ _ _ _ (@a9 _ _ 2 _ _ _ _ eY.nd rfl (Or.inl rfl) (@aE _ _ _ _ _ _ _ _ bT (aZ ba rfl B.b_tuple da (@aa _ _ _ _ _ (a7 bJ (pv 0) (bz (pv 1)) bF) ag rfl)) (aZ ba rfl B.b_tuple da (@aa _ _ _ _ _ (a7 bJ (pv 0) bF (bz (pv 1))) ag rfl))) rfl (by first | exact .inl rfl | exact .inr rfl | assumption))
  (@ay _ _ _ (@aP _ _ _ _ (ax (lW rfl (hu8 hr)) rfl B.b_min dN (@aa _ _ _ _ _ (pv 2) (@aa _ _ _ _ _ (@aE _ _ _ _ _ _ _ _ bT (a7 bJ (pv 2) bF (bz aj)) (fO hr.hd rfl B.b_tuple rfl B.b_reversed (a7 bJ (pv 2) (bz aj) bF))) ag rfl) rfl)))))),?_⟩
 have lm:(ns.map V.int).length=ns.length:=vM _
 refine ⟨_,rfl,⟨p,_,rfl,ep⟩,_,rfl,p,ns,rfl,SqT.of ep,ne,λM hM mn=>⟨p,ns,M,rfl,rfl,ep,hM,?_⟩⟩
 have hk:ns.idxOf M<=ns.length:=zE (zj.mpr hM)
 have q:=λz H'=>q z H' M
 unfold frm rot at q
 generalize ns.idxOf M=k at hk q
 refine ⟨_,rfl,_,rfl,_,rfl,p,_,rfl,ep,λp1 H1 s1 e1=>⟨p1,_,rfl,.inr ⟨SqT.of e1,?_⟩⟩⟩
 rw[eV _ (by rw[lm];exact hk), <- zg] at e1
 refine ⟨_,rfl,_,rfl,_,rfl,p,_,rfl,s1 _ _ ep,λp2 H2 s2 e2=>⟨p2,_,rfl,.inr ⟨SqT.of e2,?_⟩⟩⟩
 rw[ie _ (by rw[lm];exact hk), <- zx] at e2
 refine ⟨p1,p2,_,_,rfl,rfl,s2 _ _ e1,e2,by rw[vM,vM,wX,wN];exact small (by omega),λp3 H3 s3 e3 =>?_⟩
 rw[<- wb] at e3
 have lo:(ns.drop k++ns.take k).length=ns.length:=by rw[vQ,wX,wN];omega
 generalize ns.drop k++ns.take k=os at e3 lo q
 have lom:(os.map V.int).length=os.length:=vM _
 have po:=xZ.mpr ne
 refine ⟨_,rfl,_,rfl,1,rfl,p3,_,rfl,e3,λp4 H4 s4 e4 =>?_⟩
 rw[show cJ (os.map V.int) none (some 1)=(os.map V.int).take 1 from ie (k:=1) _ (by rw[lom];omega), <- zx] at e4
 refine ⟨_,rfl,1,rfl,p3,_,rfl,s4 _ _ e3,λp5 H5 s5 e5 =>?_⟩
 rw[show cJ (os.map V.int) (some 1) none=(os.map V.int).drop 1 from eV (k:=1) _ (by rw[lom];omega), <- zg] at e5
 refine ⟨p5,_,rfl,SqT.of e5,by rw[vM,wX];omega,λp6 hp6 =>?_⟩
 rw[<- AX]
 have g6:=ae hp6 (.tup ((os.drop 1).reverse.map V.int))
 have ep6:upd H5 p6 (.tup ((os.drop 1).reverse.map V.int)) p6=some (.tup ((os.drop 1).reverse.map V.int)):=ah
 generalize upd H5 p6 (.tup ((os.drop 1).reverse.map V.int))=H6 at g6 ep6
 refine ⟨p4,p6,_,_,rfl,rfl,g6 _ _ (s5 _ _ e4),ep6,by rw[vM,vM,wN,xK,wX];exact small (by omega),λp7 H7 s7 e7 =>?_⟩
 rw[<- wb] at e7
 have s47:=s4.trans (s5.trans (g6.trans s7))
 have sA:=s1.trans (s2.trans (s3.trans s47))
 refine ⟨p3,p7,os,_,rfl,SqT.of (s47 _ _ e3),SqT.of e7,λz=>q p7 H7 sA hM mn ?_,λz=>q p3 H7 sA hM mn ?_⟩
 ·rw[show cW os (turn os)=turn os by unfold cW;exact if_pos z]
  exact e7
 ·rw[show cW os (turn os)=os by unfold cW;exact if_neg (by show ¬ HT.lexLt (turn os) os=true;unfold turn;rw[z];exact wa)]
  exact s47 _ _ e3
end
theorem ji (a:Int)(t:List Int):turn (a :: t)=a :: t.reverse:=rfl
theorem jQ {Z:List Int}{k:Nat}{c:Int}(e:Z[k]? = some c):rot Z k=c :: (Z.drop (k+1)++Z.take k):=by
 obtain ⟨h,e⟩:=v7.mp e
 unfold rot
 rw[Br h,e];rfl
theorem uV {Z:List Int}{M:Int}(h:M∈Z):Z[Z.idxOf M]? = some M:=by
 rw[vU (zj.mpr h),Bo]
theorem qO (Z:List Int)(k:Nat):(rot Z k).Perm Z:=by
 unfold rot
 exact zf.trans (by rw[xX])
theorem qP {a b:List Int}(h:HT.lexLt a b=true):HT.lexLt b a=false:=by
 cases c:HT.lexLt b a with
 | false=>rfl
 | true=>have:=Srt.lex_trans _ _ _ h c;rw[Srt.lex_irrefl] at this;cases this
def alt (Z:List Int)(k:Nat):List (List Int):=(xJ k).flatMap λj=>[rot Z j,turn (rot Z j)]
theorem kO (Z:List Int)(k:Nat):alt Z (k+1)=alt Z k++[rot Z k,turn (rot Z k)]:=by
 unfold alt
 rw[List.range_succ,List.flatMap_append]
 simp
theorem jR (Z:List Int):∀k,(alt Z k).length=2*k
 | 0=>rfl
 | k+1=>by rw[kO,vQ,jR Z k];show _+2=_;omega
def prv (Z:List Int)(k:Nat):Int:=Z.getD (if k=0 then Z.length-1 else k-1) 0
theorem ig {Z:List Int}{k:Nat}(hk:k<Z.length):atI (Z.map V.int) ((k:Int)-1)=some (.int (prv Z k)):=by
 unfold prv
 cases k with
 | zero =>
  have el:Z[Z.length-1]? = some (Z[Z.length-1]'(by omega)):=vU (by omega)
  rw[if_pos rfl,v5,el]
  unfold atI ixN
  rw[vM]
  simp
  rw[if_pos (by omega)]
  simp only[Option.bind_some]
  rw[show (-1+(Z.length:Int)).toNat=Z.length-1 by omega,el];rfl
 | succ k =>
  have el:Z[k]? = some (Z[k]'(by omega)):=vU (by omega)
  rw[if_neg (by omega),v5,show k+1-1=k by omega,el,show ((k+1:Nat):Int)-1=(k:Int) by omega]
  exact cz (by rw[wm,el];rfl)
def IsR (ns:List (List Int))(Z:List Int):Prop:=Z≠[]/\Z.Nodup/\(Z.length=2->2<=ns.count (nrm (Z.getD 0 0) (Z.getD 1 0)))/\(Z.length≠2->∀k,k<Z.length->0<ns.count (nrm (prv Z k) (Z.getD k 0)))
def IsL (m:Nat)(ns:List (List Int))(Z:List Int):Prop:=Z≠[]/\Z.Nodup/\(∀v∈Z,0<=v/\v<m)/\(Z.length<3->Z.length<=ns.count (nrm (Z.getD 0 0) (prv Z 0)))/\(¬ Z.length<3->∀k,k<Z.length->0<ns.count (nrm (prv Z k) (Z.getD k 0)))
theorem jS {m:Nat}{ns:List (List Int)}(O:Ok m ns){a b:Int}(h:0<ns.count (nrm a b)):(0<=a/\a<m)/\0<=b/\b<m:=by
 obtain ⟨x,y,e,x0,xy,ym⟩:=O _ (List.count_pos_iff.mp h)
 rcases Int.le_total a b with c | c
 ·rw[qM c] at e;cases e;omega
 ·rw[p8,qM c] at e;cases e;omega
theorem sJ {m:Nat}{ns:List (List Int)}(O:Ok m ns)(Z:List Int):IsL m ns Z↔IsR ns Z:=by
 unfold IsL IsR
 match Z with
 | []=>simp
 | [a] =>
  have e:prv [a] 0=a:=rfl
  constructor
  ·rintro ⟨h1,h2,h3,h4,h5⟩
   refine ⟨h1,h2,λz=>absurd z (by simp),λ_ k hk =>?_⟩
   have:k=0:=by simp at hk;omega
   subst this
   exact h4 (by simp)
  ·rintro ⟨h1,h2,h3,h4⟩
   have h:=h4 (by simp) 0 (by simp)
   rw[e] at h
   refine ⟨h1,h2,λv hv =>?_,λ_ =>?_,λz=>absurd (by simp) z⟩
   ·have:v=a:=by simpa using hv
    subst this
    exact (jS O h).1
   ·rw[e];exact h
 | [a,b] =>
  have e:prv [a,b] 0=b:=rfl
  constructor
  ·rintro ⟨h1,h2,h3,h4,h5⟩
   exact ⟨h1,h2,λ_=>h4 (by simp),λz=>absurd rfl z⟩
  ·rintro ⟨h1,h2,h3,h4⟩
   have h:=h3 rfl
   have h':0<ns.count (nrm a b):=wq (by decide) h
   refine ⟨h1,h2,λv hv =>?_,λ_=>h,λz=>absurd (by simp) z⟩
   have:v=a\/v=b:=by simpa using hv
   rcases this with z | z <;> subst z
   ·exact (jS O h').1
   ·exact (jS O h').2
 | a :: b :: c :: t =>
  have l3:¬ (a :: b :: c :: t).length<3:=by simp
  have l2:(a :: b :: c :: t).length≠2:=by simp
  generalize hZ:a :: b :: c :: t=Z at l3 l2
  constructor
  ·rintro ⟨h1,h2,h3,h4,h5⟩
   exact ⟨h1,h2,λz=>absurd z l2,λ_=>h5 l3⟩
  ·rintro ⟨h1,h2,h3,h4⟩
   refine ⟨h1,h2,λv hv =>?_,λz=>absurd z l3,λ_=>h4 l2⟩
   obtain ⟨k,hk,e⟩:=List.mem_iff_getElem.mp hv
   have h:=(jS O (h4 l2 k hk)).2
   rwa [v5,vU hk,e] at h
theorem kP:∀{Z:List Int},¬ Z.Nodup->∃Y:List Int,Y.length<Z.length/\∀k,k∈Z->k∈Y
 | [],h=>absurd DM h
 | x :: t,h=>by
  by_cases c:x∈t
  ·exact ⟨t,xO _,λk hk=>(wj.mp hk).elim (λz=>z ▸ c) id⟩
  ·obtain ⟨Y,l,s⟩:=kP (Z:=t) λz=>h (yR.mpr ⟨c,z⟩)
   exact ⟨x :: Y,Nat.succ_lt_succ l,λk hk=>(wj.mp hk).elim (λz=>z ▸ wJ) λz=>wD _ (s k z)⟩
theorem jT {us Z:List Int}(nu:us.Nodup)(h:∀k,k∈us↔k∈Z):us.length=Z.length↔Z.Nodup:=by
 constructor
 ·intro e
  by_cases c:Z.Nodup
  ·exact c
  ·obtain ⟨Y,l,s⟩:=kP c
   have:=zu nu λx hx=>s x ((h x).mp hx)
   omega
 ·intro nd
  exact ((Bi nu nd).mpr h).length_eq
theorem d9 {a b:Nat}:(V.int (a:Int)=V.int (b:Int))↔a=b:=⟨λz=>by injection z with z;omega,λz=>by rw[z]⟩
theorem getD_at {Z:List Int}{k:Nat}{v:Int}(e:Z[k]? = some v):Z.getD k 0=v:=by rw[v5,e];rfl
theorem eA {a b:List Int}{M:Int}(h:M∉a):frm (a++M :: b) M=cW (M :: (b++a)) (M :: (b++a).reverse):=by
 have e:(a++M :: b).idxOf M=a.length:=by
  rw[List.idxOf_append,if_neg h,List.idxOf_cons_self];omega
 have r:rot (a++M :: b) a.length=M :: (b++a):=by
  unfold rot
  rw[AI,DL];rfl
 unfold frm
 rw[e,r,ji]
theorem kQ {Z:List Int}{M:Int}(h:M∈Z):∃a b,Z=a++M :: b/\M∉a:=List.eq_append_cons_of_mem h
theorem kR (a b:List Int):cW a b=cW b a:=by
 unfold cW
 cases c:HT.lexLt b a with
 | true =>
  rw[if_pos rfl,qP c,if_neg wa]
 | false =>
  rw[if_neg wa]
  cases d:HT.lexLt a b with
  | true=>rw[if_pos rfl]
  | false=>rw[if_neg wa];exact Srt.cZ _ _ d c
theorem sL {Z:List Int}{M:Int}(nd:Z.Nodup)(h:M∈Z):frm (Z.drop 1++Z.take 1) M=frm Z M:=by
 obtain ⟨a,b,rfl,ha⟩:=kQ h
 cases a with
 | nil =>
  show frm (b++[M]) M=frm ([]++M :: b) M
  have hb:M∉b:=(yR.mp nd).1
  rw[eA hb,eA ha,zF,xN]
 | cons x a =>
  show frm (a++M :: b++[x]) M=_
  rw[eA ha,wF,Dl,eA λz=>ha (wD _ z),wF]
  rfl
theorem sM {Z:List Int}{M:Int}(nd:Z.Nodup)(h:M∈Z):frm Z.reverse M=frm Z M:=by
 obtain ⟨a,b,rfl,ha⟩:=kQ h
 have hb:M∉b:=λz=>by
  have:=C4.mp nd
  exact (yR.mp this.2.1).1 z
 rw[yU,BE,wF,B9,eA (by simpa using hb),eA ha, <- yU,A0,kR]
theorem sN {Z p:List Int}{M:Int}(hM:M∈Z)(mn:∀b∈Z,M<=b)(nd:Z.Nodup)(hp:p∈alt Z Z.length)(h:∀q∈alt Z Z.length,HT.lexLt q p=false):p=frm Z M:=by
 have hk:=zj.mpr hM
 have er:=jQ (uV hM)
 have i1:rot Z (Z.idxOf M)∈alt Z Z.length:=BW.mpr ⟨_,xh.mpr hk,by simp⟩
 have i2:turn (rot Z (Z.idxOf M))∈alt Z Z.length:=BW.mpr ⟨_,xh.mpr hk,by simp⟩
 have h1:=h _ i1
 have h2:=h _ i2
 obtain ⟨j,hj,hp⟩:=BW.mp hp
 rw[xh] at hj
 have ec:Z[j]? = some Z[j]:=vU hj
 have ej:∀t,p=Z[j] :: t->j=Z.idxOf M:=λt e=>by
  have le:=mn Z[j] (yH hj)
  have:M=Z[j]:=by
   rw[e,er,HT.cp] at h1
   by_cases d:M=Z[j]
   ·exact d
   ·rw[if_neg d] at h1
    have:=of_decide_eq_false h1
    omega
  have e2:Z[j]=Z[Z.idxOf M]:=by rw[<- this,Bo]
  exact (Dg nd).mp e2
 have hp2:p=rot Z (Z.idxOf M)\/p=turn (rot Z (Z.idxOf M)):=by
  rcases wj.mp hp with z | z
  ·rw[<- ej _ (z.trans (jQ ec))];exact .inl z
  ·rw[wc] at z
   rw[<- ej _ (z.trans (by rw[jQ ec,ji]))];exact .inr z
 unfold frm cW
 rcases hp2 with z | z
 ·rw[z] at h2
  rw[if_neg (by rw[h2];exact wa)]
  exact z
 ·by_cases c:HT.lexLt (turn (rot Z (Z.idxOf M))) (rot Z (Z.idxOf M))=true
  ·rw[if_pos c];exact z
  ·rw[if_neg c,z]
   rw[z] at h1
   exact Srt.cZ _ _ (by simpa using c) h1
abbrev jj:Sp:=λvs H Q _=>∃(r p:Addr) (m:Nat) (ts:List (Addr×List Int)) (Z:List Int),vs=[.ref r,.ref p]/\Wb H r m ts/\H p=some (.tup (Z.map V.int))/\Z.length<=200/\∀(b:Bool) H',aB H H'->(b=true↔IsR (ts.map (·.2)) Z)->Q (.bl b) H'
@[irreducible] def fF:Sp:=jj
theorem dB {vs:List V}{H:Hp}{Q:VK}{E:XK}:fF vs H Q E↔jj vs H Q E:=by
 delta fF
 exact As
section
variable  {P:wu}{w:w4}{K:vV}{mg:Str->Option vP}{base:Heap}{f T:Addr}{fd:x8}
theorem ij:bh ["web", "ring", "at", "place"] ["web", "ring"] (aL jK):=⟨rfl,rfl,rfl,by decide +kernel,rfl,by decide +kernel,by decide +kernel⟩
theorem qQ (F:Fun K "is_ring" "is_ring" jK f fd)(B:Blt mg)(cTiedTimes:Cal P w K mg base 2 "tied_times" ["web", "one", "other"] dA):cn P w K mg base CX0 3 f fd ["web", "ring"] fF:=by
 refine F.ok ij (λvs H Q E h =>?_) (λcdv A outer s H vs Q E hr h =>?_)
 ·obtain ⟨_,_,_,_,_,rfl,_⟩:=dB.mp h
  rfl
 obtain ⟨r,p,m,ts,Z,rfl,W,ep,l5,q⟩:=dB.mp h
 refine ⟨_,(@ai _ _ _ _ _ (@bp _ _ _ _ _ _ _ _ (PW.pt (iB (aD bV (ax aH rfl B.b_len bL (@aa _ _ _ _ _ (pv 1) ag rfl)) aj (aI _)) (gy (aD o8 (ax dM rfl B.b_len bL (@aa _ _ _ _ _ (aZ (eJ (w:=w) rfl hr.hd) rfl B.b_set l9 (@aa _ _ _ _ _ (pv 1) ag rfl)) ag rfl)) (ax aH rfl B.b_len bL (@aa _ _ _ _ _ (pv 1) ag rfl)) (aI _))))) (@ay _ _ _ (@aP _ _ _ _ gx)) aN)
  (@ai _ _ _ _ _ (@bp _ _ _ _ _ _ _ _ (aD bV (ax aH rfl B.b_len bL (@aa _ _ _ _ _ (pv 1) ag rfl)) aj (aI _)) (@ay _ _ _ (@aP _ _ _ _ (gj o9 (bQ cTiedTimes hr (by decide) rfl (@aa _ _ _ _ _ (pv 0) (@aa _ _ _ _ _ (@bK _ _ _ _ _ _ _ bH (pv 1) aj (λ_ _=>rfl)) (@aa _ _ _ _ _ (@bK _ _ _ _ _ _ _ bH (pv 1) aj (λ_ _=>rfl)) ag rfl) rfl) rfl)) aj (aI _)))) aN)
  (@ai _ _ _ _ _ (@bO _ _ _ _ _ _ _ _ wZ rfl (rN rfl B.b_enumerate (@aa _ _ _ _ _ (pv 1) ag rfl)) (aO rfl (aq (ak (i:=2) ij.nd rfl (Or.inl rfl)) (aq (ak (i:=3) ij.nd rfl (Or.inl rfl)) aK)))
   (@ay _ _ _ (@bp _ _ _ _ _ _ _ _ (aD bV (bQ cTiedTimes hr (by decide) rfl (@aa _ _ _ _ _ (pv 0) (@aa _ _ _ _ _ (@bK _ _ _ _ _ _ _ bH (pv 1) (@aE _ _ _ _ _ _ _ _ bU (pv 2) aj) (λ_ _=>rfl)) (@aa _ _ _ _ _ (pv 3) ag rfl) rfl) rfl)) aj (aI _)) (@ay _ _ _ (@aP _ _ _ _ gx)) aN)) (λ_=>rfl))
  (@ay _ _ _ (@aP _ _ _ _ gx))))),?_⟩
 have lz:(Z.map V.int).length=Z.length:=vM _
 refine ⟨_,rfl,p,_,rfl,.inr (SqT.of ep),rfl,_,rfl,?_⟩
 rw[lz]
 by_cases z0:Z.length=0
 ·rw[decide_eq_true (by rw[z0];rfl)]
  exact cA (cA (q false H (aB.refl _) ⟨λz=>(by cases z),λz=>absurd (Aq.mp z0) z.1⟩))
 rw[decide_eq_false (by intro z;injection z with z;omega)]
 have zn:Z≠[]:=λz=>z0 (by rw[z];rfl)
 refine cS ⟨_,rfl,p,Z,rfl,.inr (SqT.of ep),by omega,λa us ha mu nu lu =>?_⟩
 have ga:=ae ha (gh w a (us.map V.int))
 have sl:=jT nu mu
 refine ⟨a,us.map V.int,rfl,ah,by rw[vM];omega,?_⟩
 generalize upd H a (gh w a (us.map V.int))=H1 at ga
 refine ⟨_,rfl,p,_,rfl,.inr (SqT.of (ga _ _ ep)),rfl,_,rfl,?_⟩
 rw[lz,vM]
 by_cases nd:Z.Nodup
 case neg =>
  rw[decide_eq_false (by rw[d9,sl];exact nd)]
  exact cA (q false _ ga ⟨λz=>(by cases z),λz=>absurd z.2.1 nd⟩)
 refine mF (d9.mpr (sl.mpr nd)) ?_
 have ep1:=ga _ _ ep
 have W1:=W.same ga
 refine ⟨_,rfl,p,_,rfl,.inr (SqT.of ep1),rfl,_,rfl,bX (λz =>?_) λz =>?_⟩
 ·rw[lz,decide_eq_true_iff] at z
  injection z with z
  obtain ⟨x,y,rfl⟩:∃x y,Z=[x,y]:=by
   match Z,z with
   | [x,y],_=>exact ⟨x,y,rfl⟩
  refine ⟨_,rfl,_,rfl,p,_,0,_,rfl,rfl,SqT.of ep1,rfl,_,rfl,p,_,1,_,rfl,rfl,SqT.of ep1,rfl,bG.mpr ⟨r,m,x,y,ts,rfl,W1,λH2 s2=>⟨_,_,rfl,rfl,?_⟩⟩⟩
  refine q _ _ (ga.trans s2) ?_
  rw[decide_eq_true_iff]
  constructor
  ·intro h
   exact ⟨zn,nd,λ_=>by show 2<=List.count (nrm x y) _;omega,λh=>absurd rfl h⟩
  ·intro h
   have:=h.2.2.1 rfl
   have:2<=(ts.map (·.2)).count (nrm x y):=this
   show (2:Int)<=_
   omega
 ·have n2:Z.length≠2:=λh=>z (by rw[lz,h];rfl)
  refine ⟨_,rfl,p,rfl,.inr ⟨⟨_,SqT.of ep1⟩,nO (xs:=Z.map V.int) (λi σ H'=>(∃c2 c3,σ=[some (.ref r),some (.ref p),c2,c3])/\aB H1 H'/\∀k,k<i->0<(ts.map (·.2)).count (nrm (prv Z k) (Z.getD k 0))) ⟨⟨_,_,rfl⟩,aB.refl _,λk h=>absurd h (Cg k)⟩ (λi σ H' _ h=>SqT.of (h.2.1 _ _ ep1)) ?_ ?_⟩⟩
  ·rintro i x σ H2 tp hx ht ⟨⟨c2,c3,rfl⟩,s2,al⟩
   obtain ⟨v,ev,rfl⟩:=qN hx
   have hi:=(v7.mp ev).1
   have g3:=ae ht (.tup [.int i,.int v])
   have s3:=s2.trans g3
   refine ⟨tp,_,rfl,SqT.of ah,rfl,_,_,rfl,_,_,rfl,rfl,?_⟩
   generalize upd H2 tp (.tup [.int i,.int v])=H3 at g3 s3
   refine ⟨_,rfl,_,rfl,_,rfl,_,_,rfl,rfl,p,_,_,_,rfl,rfl,SqT.of (s3 _ _ ep1),ig hi,_,rfl,bG.mpr ⟨r,m,prv Z i,v,ts,rfl,W1.same s3,λH4 s4=>⟨rfl,_,rfl,bX (λz =>?_) λz =>?_⟩⟩⟩
   ·have z:(ts.map (·.2)).count (nrm (prv Z i) v)=0:=by rw[decide_eq_true_iff] at z;injection z with z;omega
    refine q false _ (ga.trans (s3.trans s4)) ⟨λz=>(by cases z),λh =>?_⟩
    have:=h.2.2.2 n2 i hi
    rw[getD_at ev] at this
    omega
   ·refine ⟨⟨_,_,rfl⟩,s3.trans s4,λk hk =>?_⟩
    by_cases c:k=i
    ·subst c
     rw[getD_at ev]
     have:(ts.map (·.2)).count (nrm (prv Z k) v)≠0:=λh=>z (by rw[h];rfl)
     omega
    ·exact al k (by omega)
  ·rintro σ H2 ⟨⟨c2,c3,rfl⟩,s2,al⟩
   rw[lz] at al
   exact q true _ (ga.trans s2) ⟨λ_=>⟨zn,nd,λh=>absurd h n2,λ_=>al⟩,λ_=>rfl⟩
end
open PySem L2
section
variable  {P:wu}{w:w4}{K:vV}{mg:Str->Option vP}{base:Heap}{f T:Addr}{fd:x8}
theorem qR:bh ["web", "one", "other"] ["web", "one", "other"] (aL jL):=⟨rfl,rfl,rfl,by decide +kernel,rfl,by decide +kernel,by decide +kernel⟩
theorem qS (F:Fun K "_law_times" "_law_times" jL f fd)(B:Blt mg):cn P w K mg base CX0 1 f fd ["web", "one", "other"] dA:=by
 refine F.ok qR (λvs H Q E h =>?_) (λcdv A outer s H vs Q E hr h =>?_)
 ·obtain ⟨_,_,_,_,_,rfl,_⟩:=bG.mp h
  rfl
 obtain ⟨r,m,a,b,ts,rfl,W,q⟩:=bG.mp h
 refine ⟨_,(@ay _ _ _ (@aP _ _ _ _ (lM Ak BH (gW (hu8 hr)) (@bK _ _ _ _ _ _ _ bH (pv 0) aj (λ_ _=>rfl)) (@aa _ _ _ _ _ (@aQ _ _ _ _ _ (@aa _ _ _ _ _ (ax (fJ rfl) rfl B.b_min dN (@aa _ _ _ _ _ (pv 1) (@aa _ _ _ _ _ (pv 2) ag rfl) rfl)) (@aa _ _ _ _ _ (ax (dS rfl) rfl B.b_max fQ (@aa _ _ _ _ _ (pv 1) (@aa _ _ _ _ _ (pv 2) ag rfl) rfl)) ag rfl) rfl)) ag rfl)))),?_⟩
 obtain ⟨t,e1,e2⟩:=W.at'
 refine ⟨_,rfl,r,_,1,_,rfl,rfl,SqT.of e1,rfl,⟨_,_,rfl,e2⟩,_,rfl,_,rfl,_,_,rfl,_,rfl,_,rfl,_,_,rfl,(by show 2<=vZ;decide),λx hx =>?_⟩
 have s1:=ae hx (.tup ((nrm a b).map V.int))
 exact ⟨t,x,ts,nrm a b,rfl,rfl,s1 _ _ e2,λu hu=>s1 _ _ (W.tup u hu),ah,q _ s1⟩
end
abbrev qT:Sp:=λvs H Q _=>∃(r p:Addr) (m:Nat) (ts:List (Addr×List Int)) (Z:List Int),vs=[.ref r,.ref p]/\Wb H r m ts/\m<=200/\H p=some (.tup (Z.map V.int))/\Z.length<=200/\∀(b:Bool) H',aB H H'->(b=true↔IsL m (ts.map (·.2)) Z)->Q (.bl b) H'
@[irreducible] def nk:Sp:=qT
theorem fS {vs:List V}{H:Hp}{Q:VK}{E:XK}:nk vs H Q E↔qT vs H Q E:=by
 delta nk
 exact As
theorem sO {α:Type}{p:α -> Prop}[DecidablePred p](l:List α):(l.map λx=>decide (p x)).all id=decide (∀x∈l,p x):=by
 induction l with
 | nil=>simp
 | cons a t ih=>rw[wQ,CG,ih];simp[Bool.decide_and]
section
variable  {P:wu}{w:w4}{K:vV}{mg:Str->Option vP}{base:Heap}{f T:Addr}{fd:x8}
theorem jk:bh ["web", "ring", "k"] ["web", "ring"] (aL ia):=⟨rfl,rfl,rfl,by decide +kernel,rfl,by decide +kernel,by decide +kernel⟩
theorem eD:(["place", "web"]:List Str).Nodup:=by decide +kernel
theorem oQ (F:Fun K "_law_is_ring" "_law_is_ring" ia f fd)(B:Blt mg)(cLTimes:Cal P w K mg base 1 "_law_times" ["web", "one", "other"] dA):cn P w K mg base CX0 2 f fd ["web", "ring"] nk:=by
 refine F.ok jk (λvs H Q E h =>?_) (λcdv A outer s H vs Q E hr h =>?_)
 ·obtain ⟨_,_,_,_,_,rfl,_⟩:=fS.mp h
  rfl
 obtain ⟨r,p,m,ts,Z,rfl,W,m2,ep,l5,q⟩:=fS.mp h
 refine ⟨_,(@ai _ _ _ _ _ (@bp _ _ _ _ _ _ _ _ (PW.pt (iB (aD bV (ax aH rfl B.b_len bL (@aa _ _ _ _ _ (pv 1) ag rfl)) aj (aI _)) (iB (aD o8 (ax dM rfl B.b_len bL (@aa _ _ _ _ _ (aZ (eJ (w:=w) rfl hr.hd) rfl B.b_set l9 (@aa _ _ _ _ _ (pv 1) ag rfl)) ag rfl)) (ax aH rfl B.b_len bL (@aa _ _ _ _ _ (pv 1) ag rfl)) (aI _)) (gy (kZ (kY (ax (pG rfl) rfl B.b_all uN (@aa _ _ _ _ _ (dX ["place", "web"] [none,some 0] rfl (@o5 _ _ _ _ (pv 1)) rfl (λ_ _ _ _ _=>(ak (i:=0) eD rfl (Or.inl rfl))) (λ_ _ _ _ _=>dG) (λ_ _ _ _ _=>(ph sU fT aj (pv 0) (@bK _ _ _ _ _ _ _ (rM (K:=K)) (pv 1) aj (λ_ _=>rfl))))) ag rfl)))))))) (@ay _ _ _ (@aP _ _ _ _ gx)) aN)
  (@ai _ _ _ _ _ (@bp _ _ _ _ _ _ _ _ (aD fT (ax aH rfl B.b_len bL (@aa _ _ _ _ _ (pv 1) ag rfl)) aj (aI _)) (@ay _ _ _ (@aP _ _ _ _ (gj o9 (bQ cLTimes hr (by decide) rfl (@aa _ _ _ _ _ (pv 0) (@aa _ _ _ _ _ (@bK _ _ _ _ _ _ _ bH (pv 1) aj (λ_ _=>rfl)) (@aa _ _ _ _ _ (@bK _ _ _ _ _ _ _ bH (pv 1) (mv ju aj) (λ_ _=>rfl)) ag rfl) rfl) rfl)) (ax aH rfl B.b_len bL (@aa _ _ _ _ _ (pv 1) ag rfl)) (aI _)))) aN)
  (@ai _ _ _ _ _ (@bO _ _ _ _ _ _ _ _ wZ rfl (bB rfl B.b_range (@aa _ _ _ _ _ (ax aH rfl B.b_len bL (@aa _ _ _ _ _ (pv 1) ag rfl)) ag rfl)) (ak (i:=2) jk.nd rfl (Or.inl rfl))
   (@ay _ _ _ (@bp _ _ _ _ _ _ _ _ (aD bV (bQ cLTimes hr (by decide) rfl (@aa _ _ _ _ _ (pv 0) (@aa _ _ _ _ _ (@bK _ _ _ _ _ _ _ bH (pv 1) (@aE _ _ _ _ _ _ _ _ bU (pv 2) aj) (λ_ _=>rfl)) (@aa _ _ _ _ _ (@bK _ _ _ _ _ _ _ bH (pv 1) (pv 2) (λ_ _=>rfl)) ag rfl) rfl) rfl)) aj (aI _)) (@ay _ _ _ (@aP _ _ _ _ gx)) aN)) (λ_=>rfl))
  (@ay _ _ _ (@aP _ _ _ _ gx))))),?_⟩
 obtain ⟨t,e1,e2⟩:=W.at'
 have lz:(Z.map V.int).length=Z.length:=vM _
 refine ⟨_,rfl,p,_,rfl,.inr (SqT.of ep),rfl,_,rfl,?_⟩
 rw[lz]
 by_cases z0:Z.length=0
 ·rw[decide_eq_true (by rw[z0];rfl)]
  exact cA (cA (q false H (aB.refl _) ⟨λz=>(by cases z),λz=>absurd (Aq.mp z0) z.1⟩))
 rw[decide_eq_false (by intro z;injection z with z;omega)]
 have zn:Z≠[]:=λz=>z0 (by rw[z];rfl)
 refine cS ⟨_,rfl,p,Z,rfl,.inr (SqT.of ep),by omega,λa us ha mu nu lu =>?_⟩
 have ga:=ae ha (gh w a (us.map V.int))
 have sl:=jT nu mu
 refine ⟨a,us.map V.int,rfl,ah,by rw[vM];omega,?_⟩
 generalize upd H a (gh w a (us.map V.int))=H1 at ga
 refine ⟨_,rfl,p,_,rfl,.inr (SqT.of (ga _ _ ep)),rfl,_,rfl,?_⟩
 rw[lz,vM]
 by_cases nd:Z.Nodup
 case neg =>
  rw[decide_eq_false (by rw[d9,sl];exact nd)]
  exact cA (cA (q false _ ga ⟨λz=>(by cases z),λz=>absurd z.2.1 nd⟩))
 refine mF (d9.mpr (sl.mpr nd)) ?_
 have ep1:=ga _ _ ep
 have W1:=W.same ga
 refine ⟨_,rfl,p,rfl,⟨_,SqT.of ep1⟩,nL (xs:=Z.map V.int) (λi ys H'=>H'=H1/\ys=((Z.take i).map λv=>decide (0<=v/\v<(m:Int))).map V.bl) ⟨rfl,rfl⟩ (by rw[vM];exact small (by omega)) (λi ys H' _ z=>by rw[z.1];exact SqT.of ep1) ?_ ?_⟩
 ·rintro i x ys H3 hx hy ⟨eH,rfl⟩ R1 R0 r1 r0
  obtain ⟨v,ev,rfl⟩:=qN hx
  refine cA ⟨_,rfl,_,_,rfl,rfl,_,rfl,bX (λz =>?_) λz =>?_⟩
  ·refine ⟨_,rfl,r,_,0,_,rfl,rfl,SqT.of (by rw[eH];exact ga _ _ e1),rfl,_,_,rfl,rfl,?_⟩
   refine r1 _ _ ⟨eH,?_⟩
   rw[take_snoc (f:=λv:Int=>decide (0<=v/\v<(m:Int))) ev,wb]
   have z':(0:Int)<=v:=of_decide_eq_true z
   show _=_++[V.bl (decide (0<=v/\v<(m:Int)))]
   rw[show decide (0<=v/\v<(m:Int))=decide (v<(m:Int)) by simp[z']]
  ·refine r1 _ _ ⟨eH,?_⟩
   rw[take_snoc (f:=λv:Int=>decide (0<=v/\v<(m:Int))) ev,wb]
   have z':¬ (0:Int)<=v:=λh=>z (decide_eq_true h)
   show _=_++[V.bl (decide (0<=v/\v<(m:Int)))]
   rw[show decide (0<=v/\v<(m:Int))=false by simp[z']]
 rintro ys H3 hy ⟨eH,rfl⟩ l hl
 rw[eH] at hl ⊢
 rw[vM,xv (vS _)]
 have g4:=ae hl (.lst ((Z.map λv=>decide (0<=v/\v<(m:Int))).map V.bl))
 refine ⟨l,_,rfl,SqL.of ah,_,rfl,?_⟩
 rw[sO]
 generalize upd H1 l (.lst ((Z.map λv=>decide (0<=v/\v<(m:Int))).map V.bl))=H4 at g4
 have s4:=ga.trans g4
 by_cases rg:∀v∈Z,0<=v/\v<(m:Int)
 case neg =>
  rw[decide_eq_false rg]
  exact cA (q false _ s4 ⟨λz=>(by cases z),λz=>absurd z.2.2.1 rg⟩)
 rw[decide_eq_true rg]
 refine cS ?_
 have ep4:=g4 _ _ ep1
 have W4:=W1.same g4
 refine ⟨_,rfl,p,_,rfl,.inr (SqT.of ep4),_,_,rfl,rfl,_,rfl,?_⟩
 rw[lz]
 by_cases h3:Z.length<3
 ·rw[decide_eq_true (show (Z.length:Int)<3 by omega)]
  have h0:0<Z.length:=by omega
  have a0:atI (Z.map V.int) 0=some (.int (Z.getD 0 0)):=cz (j:=0) (by rw[wm,v5,vU h0];rfl)
  have a1:atI (Z.map V.int) (-1)=some (.int (prv Z 0)):=ig (k:=0) h0
  refine cA ⟨_,rfl,_,rfl,p,_,0,_,rfl,rfl,SqT.of ep4,a0,_,rfl,1,rfl,p,_,(-1:Int),_,rfl,rfl,SqT.of ep4,a1,bG.mpr ⟨r,m,_,_,ts,rfl,W4,λH5 s5 =>?_⟩⟩
  refine ⟨_,rfl,p,_,rfl,.inr (SqT.of (s5 _ _ ep4)),_,_,rfl,rfl,q _ _ (s4.trans s5) ?_⟩
  rw[decide_eq_true_iff,lz]
  constructor
  ·intro h
   exact ⟨zn,nd,rg,λ_=>by show Z.length<=List.count _ _;omega,λh=>absurd h3 h⟩
  ·intro h
   have:=h.2.2.2.1 h3
   show (Z.length:Int)<=_
   omega
 ·rw[decide_eq_false (show ¬ (Z.length:Int)<3 by omega)]
  refine cS ⟨_,rfl,p,_,rfl,.inr (SqT.of ep4),_,rfl,by omega,by omega,?_⟩
  rw[lz]
  refine bC (n:=Z.length) (λi σ H'=>(∃c2,σ=[some (.ref r),some (.ref p),c2])/\aB H4 H'/\∀k,k<i->0<(ts.map (·.2)).count (nrm (prv Z k) (Z.getD k 0))) ⟨⟨_,rfl⟩,aB.refl _,λk h=>absurd h (Cg k)⟩ ?_ ?_
  ·rintro i σ H5 hi ⟨⟨c2,rfl⟩,s5,al⟩
   have ey:Z[i]? = some (Z[i]'hi):=vU hi
   have ep5:=s5 _ _ ep4
   have e0:(0:Int)+(i:Int)-1=(i:Int)-1:=by omega
   refine ⟨_,rfl,_,rfl,_,rfl,_,_,rfl,rfl,p,_,_,_,rfl,rfl,SqT.of ep5,by rw[e0];exact ig hi,_,rfl,_,rfl,p,_,_,_,rfl,rfl,SqT.of ep5,by rw[Dc];exact cz (by rw[wm,ey];rfl),bG.mpr ⟨r,m,_,_,ts,rfl,W4.same s5,λH6 s6=>⟨rfl,_,rfl,bX (λz =>?_) λz =>?_⟩⟩⟩
   ·have z:(ts.map (·.2)).count (nrm (prv Z i) (Z[i]'hi))=0:=by rw[decide_eq_true_iff] at z;injection z with z;omega
    refine q false _ (s4.trans (s5.trans s6)) ⟨λz=>(by cases z),λh =>?_⟩
    have:=h.2.2.2.2 h3 i hi
    rw[getD_at ey] at this
    omega
   ·refine ⟨⟨_,rfl⟩,s5.trans s6,λk hk =>?_⟩
    by_cases c:k=i
    ·subst c
     rw[getD_at ey]
     have:(ts.map (·.2)).count (nrm (prv Z k) (Z[k]'hi))≠0:=λh=>z (by rw[h];rfl)
     omega
    ·exact al k (by omega)
  ·rintro σ H5 ⟨⟨c2,rfl⟩,s5,al⟩
   exact q true _ (s4.trans s5) ⟨λ_=>⟨zn,nd,rg,λh=>absurd h h3,λ_=>al⟩,λ_=>rfl⟩
end
abbrev kS:Sp:=λvs H Q _=>∃(p:Addr) (Z:List Int) (M:Int),vs=[.ref p]/\H p=some (.tup (Z.map V.int))/\Z.Nodup/\M∈Z/\(∀b∈Z,M<=b)/\Z.length<=200/\∀(z:Addr) (H':Hp),aB H H'->H' z=some (.tup ((frm Z M).map V.int))->Q (.ref z) H'
@[irreducible] def gq:Sp:=kS
theorem dO {vs:List V}{H:Hp}{Q:VK}{E:XK}:gq vs H Q E↔kS vs H Q E:=by
 delta gq
 exact As
def TT (H:Hp)(us:List (Addr×List Int)):Prop:=∀u∈us,H u.1=some (.tup (u.2.map V.int))
theorem TT.same {H H':Hp}{us:List (Addr×List Int)}(h:TT H us)(s:aB H H'):TT H' us:=λu hu=>s _ _ (h u hu)
theorem TT.snoc {H:Hp}{us:List (Addr×List Int)}(h:TT H us){a:Addr}{Z:List Int}(e:H a=some (.tup (Z.map V.int))):TT H (us++[(a,Z)]):=λu hu=>by
 rcases vY.mp hu with z | z
 ·exact h u z
 ·rw[wc] at z;subst z;exact e
theorem TT.put {H:Hp}{us:List (Addr×List Int)}(h:TT H us){l:Addr}{xs ys:List V}(e:H l=some (.lst xs)):TT (upd H l (.lst ys)) us:=λu hu=>by
 rw[aA (ck (h u hu) e (by intro z;cases z))];exact h u hu
theorem sP (Z:List Int)(k:Nat):(rot Z k).length=Z.length:=(qO Z k).length_eq
section
variable  {P:wu}{w:w4}{K:vV}{mg:Str->Option vP}{base:Heap}{f T:Addr}{fd:x8}
theorem gr:bh ["ring", "some", "k", "turned"] ["ring"] (aL l6):=⟨rfl,rfl,rfl,by decide +kernel,rfl,by decide +kernel,by decide +kernel⟩
theorem sQ (F:Fun K "_law_form" "_law_form" l6 f fd)(B:Blt mg):cn P w K mg base CX0 1 f fd ["ring"] gq:=by
 refine F.ok gr (λvs H Q E h =>?_) (λcdv A outer s H vs Q E hr h =>?_)
 ·obtain ⟨_,_,_,rfl,_⟩:=dO.mp h
  rfl
 obtain ⟨p,Z,M,rfl,ep,nd,hM,mn,l2,q⟩:=dO.mp h
 refine ⟨_,(@ai _ _ _ _ _ (@a9 _ _ 1 _ _ _ _ gr.nd rfl (Or.inl rfl) (@bZ _ _ _ _ ag) rfl (by first | exact .inl rfl | exact .inr rfl | assumption))
  (@ai _ _ _ _ _ (@bO _ _ _ _ _ _ _ _ wZ rfl (bB rfl B.b_range (@aa _ _ _ _ _ (ax aH rfl B.b_len bL (@aa _ _ _ _ _ (pv 0) ag rfl)) ag rfl)) (ak (i:=2) gr.nd rfl (Or.inl rfl))
   (@ai _ _ _ _ _ (@a9 _ _ 3 _ _ _ _ gr.nd rfl (Or.inl rfl) (@aE _ _ _ _ _ _ _ _ jz (aZ fh rfl B.b_list m8 (@aa _ _ _ _ _ (a7 bJ (pv 0) (bz (pv 2)) bF) ag rfl)) (aZ fh rfl B.b_list m8 (@aa _ _ _ _ _ (a7 bJ (pv 0) bF (bz (pv 2))) ag rfl))) rfl (by first | exact .inl rfl | exact .inr rfl | assumption))
   (@ai _ _ _ _ _ (bE (cH wG xw xx b7 (pv 1) (@aa _ _ _ _ _ (aZ ba rfl B.b_tuple da (@aa _ _ _ _ _ (pv 3) ag rfl)) ag rfl)))
   (@ay _ _ _ (bE (cH wG xw xx b7 (pv 1) (@aa _ _ _ _ _ (aZ ba rfl B.b_tuple da (@aa _ _ _ _ _ (@aE _ _ _ _ _ _ _ _ jz (@bZ _ _ _ _ (@aa _ _ _ _ _ (@bK _ _ _ _ _ _ _ dU (pv 3) aj (λ_ _=>rfl)) ag rfl)) (lP hr.hd rfl B.b_list rfl B.b_reversed (a7 mE (pv 3) (bz aj) bF))) ag rfl)) ag rfl)))))) (λ_=>rfl))
  (@ay _ _ _ (@aP _ _ _ _ (ax (lV rfl (hu8 hr)) rfl B.b_min dN (@aa _ _ _ _ _ (pv 1) ag rfl)))))),?_⟩
 have lz:(Z.map V.int).length=Z.length:=vM _
 refine ⟨(by show 0<=vZ;decide),λl hl =>?_⟩
 have g1:=ae hl (.lst [])
 have el:upd H l (.lst []) l=some (.lst (([]:List (Addr×List Int)).map λu =>.ref u.1)):=ah
 have ep1:=g1 _ _ ep
 generalize upd H l (.lst [])=H1 at g1 el ep1
 refine ⟨_,rfl,p,_,rfl,.inr (SqT.of ep1),_,rfl,by omega,by omega,?_⟩
 rw[lz]
 refine bC (n:=Z.length) (λk σ H'=>(∃c2 c3,σ=[some (.ref p),some (.ref l),c2,c3])/\aB H H'/\∃us,H' l=some (.lst (us.map λu =>.ref u.1))/\TT H' us/\us.map (·.2)=alt Z k) ⟨⟨_,_,rfl⟩,g1,[],el,λu h=>(by cases h),rfl⟩ ?_ ?_
 ·rintro k σ H2 hk ⟨⟨c2,c3,rfl⟩,s2,us,el2,tu,eu⟩
  have ep2:=s2 _ _ ep
  refine ⟨_,rfl,_,rfl,_,rfl,p,_,rfl,ep2,λp1 H3 s3 e3=>⟨p1,_,rfl,.inr (SqT.of e3),λa1 ha1 =>?_⟩⟩
  rw[Dc,eV _ (by rw[lz];omega), <- zg] at e3
  have g3:=ae ha1 (.lst ((Z.drop k).map V.int))
  have ea1:upd H3 a1 (.lst ((Z.drop k).map V.int)) a1=some (.lst ((Z.drop k).map V.int)):=ah
  rw[Dc,eV _ (by rw[lz];omega), <- zg]
  have s23:=s3.trans g3
  generalize upd H3 a1 (.lst ((Z.drop k).map V.int))=H4 at g3 ea1 s23
  refine ⟨_,rfl,_,rfl,_,rfl,p,_,rfl,s23 _ _ ep2,λp2 H5 s5 e5=>⟨p2,_,rfl,.inr (SqT.of e5),λa2 ha2 =>?_⟩⟩
  rw[ie _ (by rw[lz];omega), <- zx]
  have g5:=ae ha2 (.lst ((Z.take k).map V.int))
  have ea2:upd H5 a2 (.lst ((Z.take k).map V.int)) a2=some (.lst ((Z.take k).map V.int)):=ah
  have s25:=s23.trans (s5.trans g5)
  have ea1':=g5 _ _ (s5 _ _ ea1)
  generalize upd H5 a2 (.lst ((Z.take k).map V.int))=H6 at g5 ea2 s25 ea1'
  have lr:(rot Z k).length=Z.length:=sP Z k
  refine ⟨a1,a2,_,_,rfl,rfl,SqL.of ea1',SqL.of ea2,by rw[vM,vM,wX,wN];exact small (by omega),λtu1 htu =>?_⟩
  rw[<- wb,show Z.drop k++Z.take k=rot Z k from rfl]
  have g7:=ae htu (.lst ((rot Z k).map V.int))
  have etu:upd H6 tu1 (.lst ((rot Z k).map V.int)) tu1=some (.lst ((rot Z k).map V.int)):=ah
  have s27:=s25.trans g7
  generalize upd H6 tu1 (.lst ((rot Z k).map V.int))=H7 at g7 etu s27
  have el7:=s27 _ _ el2
  have hl7:H l=none:=hl
  refine ⟨_,rfl,.inl ⟨rfl,_,SqL.of el7⟩,_,rfl,tu1,_,rfl,.inl ⟨SqL.of etu,λt1 ht1 =>?_⟩⟩
  have g8:=ae ht1 (.tup ((rot Z k).map V.int))
  have et1:upd H7 t1 (.tup ((rot Z k).map V.int)) t1=some (.tup ((rot Z k).map V.int)):=ah
  have s28:=s27.trans g8
  have el8:=g8 _ _ el7
  have etu8:=g8 _ _ etu
  generalize upd H7 t1 (.tup ((rot Z k).map V.int))=H8 at g8 et1 s28 el8 etu8
  have lus:us.length=2*k:=by rw[<- jR Z k, <- eu,vM]
  refine ⟨l,_,_,rfl,rfl,el8,by rw[vM];exact cE (by omega),?_⟩
  have tu8:TT (upd H8 l (.lst (us.map (λu=>V.ref u.1)++[.ref t1]))) (us++[(t1,rot Z k)]):=((tu.same s28).snoc et1).put el8
  have el9:upd H8 l (.lst (us.map (λu=>V.ref u.1)++[.ref t1])) l=some (.lst ((us++[(t1,rot Z k)]).map λu =>.ref u.1)):=by rw[ah,wb];rfl
  have s9:=aB.bN (s2.trans s28) hl7 (.lst (us.map (λu=>V.ref u.1)++[.ref t1]))
  have etu9:upd H8 l (.lst (us.map (λu=>V.ref u.1)++[.ref t1])) tu1=some (.lst ((rot Z k).map V.int)):=by rw[aA (xF (aF (s25 _ _ el2) htu))];exact etu8
  generalize upd H8 l (.lst (us.map (λu=>V.ref u.1)++[.ref t1]))=H9 at tu8 el9 s9 etu9
  have er:=jQ (vU hk)
  generalize Z.drop (k+1)++Z.take k=rest at er
  rw[er] at etu9 lr
  have lrest:rest.length+1=Z.length:=lr
  refine ⟨_,rfl,.inl ⟨rfl,_,SqL.of el9⟩,_,rfl,tu1,_,0,.int Z[k],rfl,rfl,SqL.of etu9,cz (j:=0) rfl,(by show 1<=vZ;decide),λb1 hb1 =>?_⟩
  have g10:=ae hb1 (.lst [.int Z[k]])
  have eb1:upd H9 b1 (.lst [.int Z[k]]) b1=some (.lst [.int Z[k]]):=ah
  have etu10:=g10 _ _ etu9
  generalize upd H9 b1 (.lst [.int Z[k]])=H10 at g10 eb1 etu10
  refine ⟨_,rfl,1,rfl,tu1,_,rfl,SqL.of etu10,λb2 hb2 =>?_⟩
  rw[show cJ ((Z[k] :: rest).map V.int) (some 1) none=((Z[k] :: rest).map V.int).drop 1 from eV (k:=1) _ (by simp), <- zg,show (Z[k] :: rest).drop 1=rest from rfl]
  have g11:=ae hb2 (.lst (rest.map V.int))
  have eb2:upd H10 b2 (.lst (rest.map V.int)) b2=some (.lst (rest.map V.int)):=ah
  have eb1':=g11 _ _ eb1
  generalize upd H10 b2 (.lst (rest.map V.int))=H11 at g11 eb2 eb1'
  refine ⟨b2,_,rfl,SqL.of eb2,by rw[vM];omega,λb3 hb3 =>?_⟩
  rw[<- AX]
  have g12:=ae hb3 (.lst (rest.reverse.map V.int))
  have eb3:upd H11 b3 (.lst (rest.reverse.map V.int)) b3=some (.lst (rest.reverse.map V.int)):=ah
  have eb1'':=g12 _ _ eb1'
  generalize upd H11 b3 (.lst (rest.reverse.map V.int))=H12 at g12 eb3 eb1''
  refine ⟨b1,b3,_,_,rfl,rfl,SqL.of eb1'',SqL.of eb3,by rw[vM,xK];exact small (by show 1+_<=_;omega),λb4 hb4 =>?_⟩
  rw[show ([V.int Z[k]]++rest.reverse.map V.int:List V)=(turn (rot Z k)).map V.int by rw[er];rfl]
  have g13:=ae hb4 (.lst ((turn (rot Z k)).map V.int))
  have eb4:upd H12 b4 (.lst ((turn (rot Z k)).map V.int)) b4=some (.lst ((turn (rot Z k)).map V.int)):=ah
  generalize upd H12 b4 (.lst ((turn (rot Z k)).map V.int))=H13 at g13 eb4
  refine ⟨b4,_,rfl,.inl ⟨SqL.of eb4,λt2 ht2 =>?_⟩⟩
  have g14:=ae ht2 (.tup ((turn (rot Z k)).map V.int))
  have et2:upd H13 t2 (.tup ((turn (rot Z k)).map V.int)) t2=some (.tup ((turn (rot Z k)).map V.int)):=ah
  have s14:=g10.trans (g11.trans (g12.trans (g13.trans g14)))
  generalize upd H13 t2 (.tup ((turn (rot Z k)).map V.int))=H14 at g14 et2 s14
  have el14:=s14 _ _ el9
  refine ⟨l,_,_,rfl,rfl,el14,by rw[vM,vQ];exact cE (by show _+1<=_;omega),⟨_,_,rfl⟩,aB.bN (s9.trans s14) hl7 _,us++[(t1,rot Z k)]++[(t2,turn (rot Z k))],by rw[ah,wb,wb,wb];rfl,((tu8.same s14).snoc et2).put el14,?_⟩
  rw[wb,wb,eu,kO,wF];rfl
 ·rintro σ H2 ⟨⟨c2,c3,rfl⟩,s2,us,el2,tu,eu⟩
  have lus:us.length=2*Z.length:=by rw[<- jR Z Z.length, <- eu,vM]
  refine ⟨_,rfl,l,us,rfl,SqL.of el2,λu hu=>SqT.of (tu u hu),λz =>?_,λu hu mn' =>?_⟩
  ·have:=List.length_pos_of_mem hM
   rw[z] at lus;simp at lus;omega
  ·have:u.2=frm Z M:=sN hM mn nd (by rw[<- eu];exact xM (f:=(·.2)) hu) λq hq=>by
    rw[<- eu] at hq
    obtain ⟨v,hv,rfl⟩:=xc.mp hq
    exact mn' v hv
   exact q u.1 H2 s2 (by rw[<- this];exact tu u hu)
end
open PySem L2
theorem mi {C D:List (Int×V)}(h:mp C=mp D):C=D:=by
 induction C generalizing D with
 | nil=>cases D with
  | nil=>rfl
  | cons a t=>cases h
 | cons a t ih=>cases D with
  | nil=>cases h
  | cons b r =>
   have h1:=(D4 h).1
   have h2:=ih (D4 h).2
   injection h1 with h3 h4
   injection h3 with h3
   rw[h2,Du h3 h4]
def kys (C:List (Int×V)):List Int:=C.map (·.1)
theorem gs (C:List (Int×V)):(mp C).map (·.1)=(kys C).map Sum.inl:=by unfold mp kys;rw[zM,zM];rfl
theorem sR {C:List (Int×V)}{e:Int×V}(h:e∈C):e.1∈kys C:=xM (f:=(·.1)) h
theorem qU (D:List (Int×V))(y:Int)(v:V):∃D',putK (mp D) (Sum.inl y) v=mp D'/\D'.length<=D.length+1/\(∀x∈D',x∈D\/x=(y,v))/\(∀k∈kys D,k∈kys D')/\y∈kys D':=by
 by_cases h:y∈D.map (·.1)
 ·refine ⟨D.map λe=>if e.1=y then (e.1,v) else e,?_,by rw[vM];omega,λx hx =>?_,λk hk =>?_,?_⟩
  ·unfold putK
   have e:((mp D).any λkv=>decide (kv.1=Sum.inl y))=true:=by rw[fA,tJ,decide_eq_true h]
   rw[if_pos e]
   unfold mp
   rw[zM,zM]
   refine Cz λe he =>?_
   show (if (Sum.inl e.1:Key)=Sum.inl y then ((Sum.inl e.1:Key),v) else (Sum.inl e.1,e.2))=_
   by_cases c:e.1=y
   ·rw[if_pos (by rw[c])]
    simp[c]
   ·rw[if_neg (by intro z;injection z with z;exact c z)]
    simp[c]
  ·obtain ⟨e,he,rfl⟩:=xc.mp hx
   by_cases c:e.1=y
   ·rw[if_pos c,c];exact .inr rfl
   ·rw[if_neg c];exact .inl he
  ·obtain ⟨e,he,rfl⟩:=xc.mp hk
   refine xc.mpr ⟨_,xM he,?_⟩
   by_cases c:e.1=y <;> simp[c]
  ·obtain ⟨e,he,rfl⟩:=xc.mp h
   refine xc.mpr ⟨_,xM he,?_⟩
   simp
 ·refine ⟨D++[(y,v)],qL h v,by rw[vQ];exact vS _,λx hx =>?_,λk hk =>?_,?_⟩
  ·rcases vY.mp hx with z | z
   ·exact .inl z
   ·exact .inr (by simpa using z)
  ·unfold kys at *;rw[wb];exact yb _ hk
  ·unfold kys;rw[wb];exact wC _ (by simp)
structure NU (H0 H:Hp)(n:Addr)(m:Nat)(C:List (Int×V))(L:List Int)(z:Nat):Prop where
 top:H n=some (.dK (mp C))
 n0:H0 n=none
 all:∀e∈C,(0<=e.1/\e.1<(m:Int))/\∃(d:Addr) (D:List (Int×V)),e.2 = .ref d/\H0 d=none/\H d=some (.dK (mp D))/\D.length<=z/\∀x∈D,x.1∈L/\∃c:Int,x.2 = .int c
section
variable  {H0 H H':Hp}{n p d:Addr}{m z z':Nat}{C D:List (Int×V)}{L L':List Int}{x y:Int}
theorem NU.ne (N:NU H0 H n m C L z){e:Int×V}(he:e∈C)(hd:e.2 = .ref d):d≠n:=by
 intro h
 obtain ⟨_,d',D,e2,_,hD,_,al⟩:=N.all e he
 rw[hd] at e2;cases e2
 subst h
 rw[N.top] at hD
 have:=mi (HO.dK.inj (wB hD))
 subst this
 obtain ⟨_,c,ec⟩:=al e he
 rw[hd] at ec;cases ec
theorem NU.mono (N:NU H0 H n m C L z)(hL:∀k∈L,k∈L')(hz:z<=z'):NU H0 H n m C L' z' :=
 ⟨N.top,N.n0,λe he=>by
  obtain ⟨r,d,D,e2,h0,hD,l,al⟩:=N.all e he
  exact ⟨r,d,D,e2,h0,hD,wL l hz,λx hx=>⟨hL _ (al x hx).1,(al x hx).2⟩⟩⟩
theorem NU.same (N:NU H0 H n m C L z)(s:aB H H'):NU H0 H' n m C L z :=
 ⟨s _ _ N.top,N.n0,λe he=>by
  obtain ⟨r,d,D,e2,h0,hD,l,al⟩:=N.all e he
  exact ⟨r,d,D,e2,h0,s _ _ hD,l,al⟩⟩
theorem NU.new (N:NU H0 H n m C L z)(hp:H p=some (.dK []))(hp0:H0 p=none)(pn:p≠n)(hx:0<=x/\x<(m:Int)):NU H0 (upd H n (.dK (mp (C++[(x,.ref p)])))) n m (C++[(x,.ref p)]) L z :=
 ⟨ah,N.n0,λe he=>by
  rcases vY.mp he with h | h
  ·obtain ⟨r,d,D,e2,h0,hD,l,al⟩:=N.all e h
   exact ⟨r,d,D,e2,h0,by rw[aA (N.ne h e2)];exact hD,l,al⟩
  ·have:e=(x,.ref p):=by simpa using h
   subst this
   exact ⟨hx,p,[],rfl,hp0,by rw[aA pn];exact hp,wM _,λx hx=>by cases hx⟩⟩
theorem NU.put (N:NU H0 H n m C L z)(hd:H d=some (.dK (mp D)))(dn:d≠n){D':List (Int×V)}(l':D'.length<=z')(hz:z<=z')(al':∀x∈D',x.1∈y :: L/\∃c:Int,x.2 = .int c):NU H0 (upd H d (.dK (mp D'))) n m C (y :: L) z' :=
 ⟨by rw[aA (xF dn)];exact N.top,N.n0,λe he=>by
  obtain ⟨r,d2,D2,e2,h0,hD,l,al⟩:=N.all e he
  by_cases c:d2=d
  ·subst c
   exact ⟨r,d2,D',e2,h0,ah,l',al'⟩
  ·exact ⟨r,d2,D2,e2,h0,by rw[aA c];exact hD,wL l hz,λx hx=>⟨wD _ (al x hx).1,(al x hx).2⟩⟩⟩
def Hv (H:Hp)(C:List (Int×V))(x y:Int):Prop:=∃(d:Addr) (D:List (Int×V)),bY (mp C) (Sum.inl x)=some (.ref d)/\H d=some (.dK (mp D))/\y∈kys D
theorem qV {C:List (Int×V)}{v:V}{e:Int×V}(h:bY (mp C) (Sum.inl x)=some v):bY (mp (C++[e])) (Sum.inl x)=some v:=by
 unfold bY mp at *
 rw[wb,List.find?_append]
 cases f:(List.map (λe=>((Sum.inl e.1:Key),e.2)) C).find? λkv=>decide (kv.1=Sum.inl x) with
 | none=>rw[f] at h;cases h
 | some w=>rw[f] at h;exact h
theorem NU.vJ {σ:St}{k:Nat}(N:NU H0 H n m C L z)(s:aB H0 H)(lz:z<=1000)(hv:bY (mp C) (Sum.inl x)=some (.ref d))(hin:(x,V.ref d)∈C)(σk:σ[k]? = some (some (.int y))){Q:Hp->Prop}
  (h:∀H',NU H0 H' n m C (y :: L) (z+1)->Hv H' C x y->(∀x' y',Hv H C x' y'->Hv H' C x' y')->aB H0 H'->(∀b xs,H b=some (.lst xs)->H' b=some (.lst xs))->Q H') :
  ∃a,V.ref d = .ref a/\IsD H a/\∃v,σ[k]? = some (some v)/\∃kvs q,H a=some (.dK kvs)/\v=kV q/\(∀v,bY kvs q=some v->Q H)/\(bY kvs q=none->kvs.length<vZ/\Q (upd H a (.dK (putK kvs q (.int 0))))):=by
 obtain ⟨r,d',D,e2,h0,hD,l,al⟩:=N.all _ hin
 cases e2
 have dn:=N.ne hin rfl
 refine ⟨d,rfl,.inl ⟨_,.inl hD⟩,_,σk,_,Sum.inl y,hD,rfl,λv hv2 =>?_,λ_=>⟨by rw[mf];exact ic (by omega),?_⟩⟩
 ·refine h H (N.mono (λk hk=>wD _ hk) (zv z)) ⟨d,D,hv,hD,?_⟩ (λ_ _ h=>h) s λ_ _ h=>h
  have:=tJ y D
  rw[hv2] at this
  exact of_decide_eq_true this.symm
 ·obtain ⟨D',e,l',sub,kk,yk⟩:=qU D y (.int 0)
  rw[e]
  refine h _ (N.put hD dn (wL l' (by omega)) (zv z) λe he =>?_) ⟨d,D',hv,ah,yk⟩ (λx' y' ⟨d2,D2,h1,h2,h3⟩ =>?_) (aB.bN s h0 _) λb xs hb=>by rw[aA (ck hb hD (by intro z;cases z))];exact hb
  ·rcases sub e he with c | c
   ·exact ⟨wD _ (al e c).1,(al e c).2⟩
   ·subst c;exact ⟨wJ,0,rfl⟩
  ·by_cases c:d2=d
   ·subst c
    rw[hD] at h2
    have:=mi (HO.dK.inj (wB h2))
    subst this
    exact ⟨d2,D',h1,ah,kk _ h3⟩
   ·exact ⟨d2,D2,h1,by rw[aA c];exact h2,h3⟩
theorem NU.vK {σ:St}{i j k:Nat}(N:NU H0 H n m C L z)(s:aB H0 H)(lc:C.length<=1000)(lz:z<=1000)(hx:0<=x/\x<(m:Int))(σi:σ[i]? = some (some (.ref n)))(σj:σ[j]? = some (some (.int x)))(σk:σ[k]? = some (some (.int y))){Q:Hp->Prop}
  (h:∀C' H',NU H0 H' n m C' (y :: L) (z+1)->C'.length<=C.length+1->x∈kys C'->(∀v∈kys C,v∈kys C')->Hv H' C' x y->(∀x' y',Hv H C x' y'->Hv H' C' x' y')->aB H0 H'->(∀b xs,H b=some (.lst xs)->H' b=some (.lst xs))->Q H') :
  l4 (l4 (oU i) (oU j) qj) (oU k) (tC (.int 0)) σ H (λ_ H'=>Q H'):=by
 refine ⟨_,σi,n,rfl,.inl ⟨_,.inl N.top⟩,_,σj,λp hp =>?_⟩
 have g1:=ae hp (.dK [])
 have e1:upd H p (.dK []) p=some (.dK []):=ah
 have pn:p≠n:=xF (aF N.top hp)
 have N1:=N.same g1
 have s1:=s.trans g1
 have hp0:=s.free hp
 have hv1:∀x' y',Hv H C x' y'->Hv (upd H p (.dK [])) C x' y':=λx' y' ⟨d,D,a,b,c⟩=>⟨d,D,a,g1 _ _ b,c⟩
 have ls1:∀b xs,H b=some (.lst xs)->upd H p (.dK []) b=some (.lst xs):=λb xs h=>g1 _ _ h
 show ∃kvs q,upd H p (.dK []) n=some (.dK kvs)/\V.int x=kV q/\_/\_
 generalize upd H p (.dK [])=H1 at *
 refine ⟨_,Sum.inl x,N1.top,rfl,λv hv =>?_,λhn=>⟨by rw[mf];exact ic (by omega),?_⟩⟩
 ·rcases cV x C with ⟨_,z⟩ | ⟨w,hw,ew⟩
  ·rw[hv] at z;cases z
  rw[hv] at ew
  cases ew
  obtain ⟨_,d,D,e2,_⟩:=N1.all _ hw
  dsimp only at e2
  subst e2
  exact N1.vJ s1 lz hv hw σk λH' a b c dd f=>h C H' a (zv _) (sR hw) (λ_ h=>h) b (λx' y' h=>c _ _ (hv1 _ _ h)) dd λb xs hb=>f _ _ (ls1 _ _ hb)
 ·have hnot:x∉C.map (·.1):=by
   rcases cV x C with ⟨a,_⟩ | ⟨w,_,ew⟩
   ·exact a
   ·rw[hn] at ew;cases ew
  rw[qL hnot]
  have N2:=N1.new e1 hp0 pn hx
  have s2:=aB.bN s1 N.n0 (.dK (mp (C++[(x,.ref p)])))
  have ls2:∀b xs,H1 b=some (.lst xs)->upd H1 n (.dK (mp (C++[(x,.ref p)]))) b=some (.lst xs):=λb xs hb=>by rw[aA (ck hb N1.top (by intro z;cases z))];exact hb
  have hv2:∀x' y',Hv H1 C x' y'->Hv (upd H1 n (.dK (mp (C++[(x,.ref p)])))) (C++[(x,.ref p)]) x' y':=λx' y' ⟨d,D,a,b,c⟩=>by
   refine ⟨d,D,qV a,?_,c⟩
   have hin:(x',V.ref d)∈C:=by
    rcases cV x' C with ⟨_,z⟩ | ⟨w,hw,ew⟩
    ·rw[a] at z;cases z
    ·rw[a] at ew;cases ew;exact hw
   rw[aA (N1.ne hin rfl)];exact b
  have hv:bY (mp (C++[(x,V.ref p)])) (Sum.inl x)=some (.ref p):=by
   rcases cV x (C++[(x,V.ref p)]) with ⟨a,_⟩ | ⟨w,hw,ew⟩
   ·exact absurd (by rw[wb];exact wC _ (by simp)) a
   ·rcases vY.mp hw with c | c
    ·exact absurd (xM (f:=(·.1)) c) hnot
    ·have:w = .ref p:=by simpa using c
     rw[this] at ew;exact ew
  exact N2.vJ s2 lz hv (wC _ (by simp)) σk λH' a b c dd f=>h _ H' a (by rw[vQ];exact vS _) (by unfold kys;rw[wb];exact wC _ (by simp)) (λv hv=>by unfold kys at *;rw[wb];exact yb _ hv) b (λx' y' h=>c _ _ (hv2 _ _ (hv1 _ _ h))) dd λb xs hb=>f _ _ (ls2 _ _ (ls1 _ _ hb))
end
structure Nr (H0 H:Hp)(n:Addr)(m:Nat)(C:List (Int×V)):Prop where
 top:Rd H n (.dK (mp C))
 n0:H0 n=none
 all:∀e∈C,(0<=e.1/\e.1<(m:Int))/\∃(d:Addr) (D:List (Int×V)),e.2 = .ref d/\H0 d=none/\Rd H d (.dK (mp D))/\D.length<=800/\∀x∈D,x.1∈kys C/\∃c:Int,x.2 = .int c
structure Fr (H H':Hp):Prop where
 st:∀b o,H b=some o->(∀k,o ≠ .dK k)->H' b=some o
 rd:∀b k,Rd H b (.dK k)->Rd H' b (.dK k)
theorem Fr.refl (H:Hp):Fr H H:=⟨λ_ _ h _=>h,λ_ _ h=>h⟩
theorem _root_.L2.aB.fr {H H':Hp}(s:aB H H'):Fr H H':=⟨λb o h _=>s b o h,λb k h=>h.elim (λh =>.inl (s _ _ h)) λ⟨o,h⟩ =>.inr ⟨o,s _ _ h⟩⟩
theorem Fr.lst {H H':Hp}(f:Fr H H'){b:Addr}{xs:List V}(h:H b=some (.lst xs)):H' b=some (.lst xs):=f.st _ _ h (by intro k z;cases z)
theorem Fr.tup {H H':Hp}(f:Fr H H'){b:Addr}{xs:List V}(h:H b=some (.tup xs)):H' b=some (.tup xs):=f.st _ _ h (by intro k z;cases z)
theorem Fr.tt {H H':Hp}(f:Fr H H'){us:List (Addr×List Int)}(h:TT H us):TT H' us:=λu hu=>f.tup (h u hu)
theorem Fr.fz {H H':Hp}(f:Fr H H'){b:Addr}{ob:Obj}{u:HO}(h:H b=some (.frz ob u)):H' b=some (.frz ob u):=f.st _ _ h (by intro k z;cases z)
theorem Nr.fr {H0 H H':Hp}{n:Addr}{m:Nat}{C:List (Int×V)}(N:Nr H0 H n m C)(f:Fr H H'):Nr H0 H' n m C :=
 ⟨f.rd _ _ N.top,N.n0,λe he=>by
  obtain ⟨r,d,D,e2,h0,hD,l,al⟩:=N.all e he
  exact ⟨r,d,D,e2,h0,f.rd _ _ hD,l,al⟩⟩
theorem Nr.lst {H0 H:Hp}{n:Addr}{m:Nat}{C:List (Int×V)}(N:Nr H0 H n m C){l:Addr}{xs ys:List V}(h:H l=some (.lst xs)):Nr H0 (upd H l (.lst ys)) n m C:=by
 have rd:∀b k,Rd H b (.dK k)->Rd (upd H l (.lst ys)) b (.dK k):=λb k r=>r.elim (λq =>.inl (by rw[aA (ck q h (by intro z;cases z))];exact q)) λ⟨o,q⟩ =>.inr ⟨o,by rw[aA (ck q h (by intro z;cases z))];exact q⟩
 refine ⟨rd _ _ N.top,N.n0,λe he =>?_⟩
 obtain ⟨r,d,D,e2,h0,hD,l,al⟩:=N.all e he
 exact ⟨r,d,D,e2,h0,rd _ _ hD,l,al⟩
theorem NU.nr {H0 H:Hp}{n:Addr}{m z:Nat}{C:List (Int×V)}(N:NU H0 H n m C (kys C) z)(hz:z<=800):Nr H0 H n m C :=
 ⟨.inl N.top,N.n0,λe he=>by
  obtain ⟨r,d,D,e2,h0,hD,l,al⟩:=N.all e he
  exact ⟨r,d,D,e2,h0,.inl hD,wL l hz,al⟩⟩
theorem sS {H0 H:Hp}{d:Addr}{kvs:List (Key×V)}{ks:List Int}{R:It->Hp->Prop}(r:Rd H d (.dK kvs))(s:aB H0 H)(h0:H0 d=none)(h:∀ob H',H' d=some (.frz ob (.dK kvs))->Fr H H'->aB H0 H'->R (Itd d ob kvs ks) H') :
  DSt H d kvs ks R:=by
 rcases r with r | ⟨ob,r⟩
 ·refine .inl ⟨r,λob=>h ob _ ah ⟨λb o e n =>?_,λb k e =>?_⟩ (aB.bN s h0 _)⟩
  ·rw[aA (ck e r (n _))];exact e
  ·by_cases c:b=d
   ·subst c
    rcases e with e | ⟨o,e⟩
    ·rw[r] at e;cases e;exact .inr ⟨ob,ah⟩
    ·rw[r] at e;cases e
   ·rcases e with e | ⟨o,e⟩
    ·exact .inl (by rw[aA c];exact e)
    ·exact .inr ⟨o,by rw[aA c];exact e⟩
 ·exact .inr ⟨ob,r,h ob H r (Fr.refl _) s⟩
theorem Nr.get {H0 H:Hp}{n:Addr}{m:Nat}{C:List (Int×V)}(N:Nr H0 H n m C){x:Int}(hx:x∈kys C):(0<=x/\x<(m:Int))/\∃(d:Addr) (D:List (Int×V)),bY (mp C) (Sum.inl x)=some (.ref d)/\H0 d=none/\Rd H d (.dK (mp D))/\D.length<=800/\∀x∈D,x.1∈kys C/\∃c:Int,x.2 = .int c:=by
 obtain ⟨v,hv,e⟩:=me hx
 obtain ⟨r,d,D,e2,h⟩:=N.all _ hv
 dsimp only at e2
 subst e2
 exact ⟨r,d,D,e,h⟩
theorem gu {H:Hp}{d:Addr}{D:List (Int×V)}(r:Rd H d (.dK (mp D)))(y:Int):eM H d (.int y) (bY (mp D) (Sum.inl y)) :=.inl ⟨_,Sum.inl y,r,rfl,rfl⟩
theorem Nr.dg {H0 H:Hp}{n:Addr}{m:Nat}{C:List (Int×V)}(N:Nr H0 H n m C){x:Int}{v:V}(h:bY (mp C) (Sum.inl x)=some v):eM H n (.int x) (some v):=by rw[<- h];exact gu N.top x
def tl (H:Hp):V->Nat
 | .ref a=>match H a with
  | some (.tup ys)=>ys.length
  | _=>0
 | _=>0
def mu (m:Nat)(H:Hp)(p:Addr):Nat:=match H p with
 | some (.lst xs)=>(xs.map λx=>801 ^ (m+1-tl H x)).sum
 | _=>0
def wts (m:Nat)(us:List (Addr×List Int)):Nat:=(us.map λu=>801 ^ (m+1-u.2.length)).sum
theorem tK {m:Nat}{H:Hp}{p:Addr}{us:List (Addr×List Int)}(e:H p=some (.lst (us.map λu =>.ref u.1)))(t:TT H us):mu m H p=wts m us:=by
 unfold mu wts
 rw[e]
 dsimp only
 rw[zM]
 congr 1
 refine Cz λu hu =>?_
 show 801 ^ (m+1-tl H (.ref u.1))=_
 unfold tl
 dsimp only
 rw[t u hu]
 dsimp only
 rw[vM]
theorem nq (m:Nat)(us vs:List (Addr×List Int)):wts m (us++vs)=wts m us+wts m vs:=by unfold wts;rw[wb,List.sum_append]
theorem qW {m L:Nat}:∀vs:List (Addr×List Int),(∀v∈vs,v.2.length=L+1)->wts m vs<=vs.length*801 ^ (m-L)
 | [],_=>wM _
 | v :: vs,h=>by
  have:=qW (m:=m) (L:=L) vs λw hw=>h w (wD _ hw)
  have e:=h v wJ
  have:wts m (v :: vs)=801 ^ (m-L)+wts m vs:=by
   show 801 ^ (m+1-v.2.length)+_=_
   rw[e,show m+1-(L+1)=m-L by omega];rfl
  rw[this,wO,Nat.add_mul,Nat.one_mul]
  omega
theorem qX {m:Nat}{us vs:List (Addr×List Int)}{u:Addr×List Int}(hl:u.2.length<=m)(hv:∀v∈vs,v.2.length=u.2.length+1)(l:vs.length<=800):wts m (us++vs)<wts m (us++[u]):=by
 rw[nq,nq]
 have h1:=qW (m:=m) vs hv
 have h2:wts m [u]=801*801 ^ (m-u.2.length):=by
  show 801 ^ (m+1-u.2.length)+0=_
  rw[show m+1-u.2.length=(m-u.2.length)+1 by omega,Nat.pow_succ,C8];rfl
 rw[h2]
 have hp:0<801 ^ (m-u.2.length):=Nat.pow_pos (by decide)
 generalize 801 ^ (m-u.2.length)=q at *
 have:vs.length*q<=800*q:=Nat.mul_le_mul_right q l
 omega
open PySem L2
theorem oR (ps:List Int):(ps.map V.int).all fg=true:=by
 rw[List.all_map,yG]
 intro x _
 rfl
theorem kT (k:Int):∀ps:List Int,inV (.int k) (ps.map V.int)=decide (k∈ps)
 | []=>by simp[inV]
 | p :: ps=>by
  have ih:=kT k ps
  unfold inV at ih ⊢
  rw[wQ,Ap,ih]
  have e:eqV (.int p) (.int k)=(p == k):=rfl
  rw[e]
  by_cases h:p=k
  ·subst h;simp
  ·rw[beq_eq_false_iff_ne.mpr h,DY]
   apply decide_eq_decide.mpr
   rw[wj]
   exact ⟨.inr,λx=>x.elim (λy=>absurd y.symm h) id⟩
theorem qY {c A:Prop}[Decidable c]{P:Hp->Prop}{H:Hp}(G:Hp->Prop)(hP:∀H',G H'->P H')(h1:(∀H',G H'->P H')->c->A)(h2:¬ c->G H):if c then A else P H:=by
 by_cases h:c
 ·rw[if_pos h];exact h1 hP h
 ·rw[if_neg h];exact hP H (h2 h)
def Fnd (H:Hp)(fl:Addr)(z k:Nat):Prop:=∃us:List (Addr×List Int),H fl=some (.lst (us.map λu =>.ref u.1))/\TT H us/\(∀u∈us,u.2≠[]/\u.2.length<=k)/\us.length<=z
theorem Fnd.fr {H H':Hp}{fl:Addr}{z k:Nat}(h:Fnd H fl z k)(f:Fr H H'):Fnd H' fl z k:=by
 obtain ⟨us,e,t,al,l⟩:=h
 exact ⟨us,f.lst e,f.tt t,al,l⟩
theorem Fnd.put {H:Hp}{fl p:Addr}{z k:Nat}{xs ys:List V}(h:Fnd H fl z k)(e:H p=some (.lst xs))(n:p≠fl):Fnd (upd H p (.lst ys)) fl z k:=by
 obtain ⟨us,e1,t,al,l⟩:=h
 exact ⟨us,by rw[aA (xF n)];exact e1,t.put e,al,l⟩
theorem Fnd.mono {H:Hp}{fl:Addr}{z z' k k':Nat}(h:Fnd H fl z k)(a:z<=z')(b:k<=k'):Fnd H fl z' k':=by
 obtain ⟨us,e,t,al,l⟩:=h
 exact ⟨us,e,t,λu hu=>⟨(al u hu).1,wL (al u hu).2 b⟩,wL l a⟩
theorem jU {n:Nat}(h:n<=1000000):n<vZ:=zC h (by decide)
def Pth (C:List (Int×V))(Z:List Int):Prop:=Z≠[]/\Z.Nodup/\∀v∈Z,v∈kys C
abbrev kU:Sp:=λvs H Q _=>∃(r:Addr) (m:Nat) (mo:Int) (ts:List (Addr×List Int)),vs=[.ref r,.int mo]/\Wb H r m ts/\m<=40/\mo=300/\∀(l:Addr) (H':Hp) (us:List (Addr×List Int)),aB H H'->H' l=some (.lst (us.map λu =>.ref u.1))->TT H' us->(∀u∈us,u.2≠[]/\u.2.length<=41)->us.length<=400000->Q (.ref l) H'
@[irreducible] def gv:Sp:=kU
theorem cP {vs:List V}{H:Hp}{Q:VK}{E:XK}:gv vs H Q E↔kU vs H Q E:=by
 delta gv
 exact As
section
variable  {P:wu}{w:w4}{K:vV}{mg:Str->Option vP}{base:Heap}{f T:Addr}{fd:x8}
theorem cb:bh ["web", "most", "near", "found", "one", "other", "start", "paths", "path", "place"] ["web", "most"] (aL gp):=⟨rfl,rfl,rfl,by decide +kernel,rfl,by decide +kernel,by decide +kernel⟩
theorem df:(["other", "one", "near"]:List Str).Nodup:=by decide +kernel
theorem qZ (F:Fun K "_law_rings" "_law_rings" gp f fd)(B:Blt mg):cn P w K mg base CX0 1 f fd ["web", "most"] gv:=by
 refine F.ok cb (λvs H Q E h =>?_) (λcdv A outer s H vs Q E hr h =>?_)
 ·obtain ⟨_,_,_,_,rfl,_⟩:=cP.mp h
  rfl
 obtain ⟨r,m,mo,ts,rfl,W,m4,hmo,q⟩:=cP.mp h
 have hu:(j5 CX0 P w K mg base ["web", "most", "near", "found", "one", "other", "start", "paths", "path", "place"] "_law_rings" (aL gp) f cdv A outer s H E).nox.A.units+1<cLine:=vo hr
 refine ⟨_,(@ai _ _ _ _ _ (@a9 _ _ 2 _ _ _ _ cb.nd rfl (Or.inr rfl) gZ rfl (by first | exact .inl rfl | exact .inr rfl | assumption))
  (@ai _ _ _ _ _ (@a9 _ _ 3 _ _ _ _ cb.nd rfl (Or.inl rfl) (@bZ _ _ _ _ ag) rfl (by first | exact .inl rfl | exact .inr rfl | assumption))
  (@ai _ _ _ _ _ (@bO _ _ _ _ _ _ _ _ wZ rfl (@o5 _ _ _ _ (@bK _ _ _ _ _ _ _ bH (pv 0) aj (λ_ _=>rfl))) (aO rfl (aq (ak (i:=4) cb.nd rfl (Or.inr rfl)) (aq (ak (i:=5) cb.nd rfl (Or.inl rfl)) aK)))
   (@ai _ _ _ _ _ (bE (fC (fC (pv 2) (pv 4) gZ ⟨rfl,rfl,rfl,rfl⟩) (pv 5) aj ⟨rfl,rfl,rfl,rfl⟩))
   (@ai _ _ _ _ _ (bE (fC (fC (pv 2) (pv 5) gZ ⟨rfl,rfl,rfl,rfl⟩) (pv 4) aj ⟨rfl,rfl,rfl,rfl⟩))
   (@ay _ _ _ (sk hu (cD hu (pv 2) (pv 4) (λ_ _=>rfl)) (pv 5) (@aE _ _ _ _ _ _ _ _ bP (cD hu (cD hu (pv 2) (pv 4) (λ_ _=>rfl)) (pv 5) (λ_ _=>rfl)) aj) rfl)))) (λ_=>rfl))
  (@ai _ _ _ _ _ (@bO _ _ _ _ _ _ _ _ wZ rfl (fD (pv 2)) (ak (i:=4) cb.nd rfl (Or.inr rfl))
   (@ai _ _ _ _ _ (@bp _ _ _ _ _ _ _ _ (aD gB (ql hu (cD hu (pv 2) (pv 4) (λ_ _=>rfl)) (pv 4) aj ⟨rfl,rfl,rfl,rfl⟩) aj (aI _)) (@ay _ _ _ (bE (cH wG xw xx b7 (pv 3) (@aa _ _ _ _ _ (@aQ _ _ _ _ _ (@aa _ _ _ _ _ (pv 4) ag rfl)) ag rfl)))) aN)
   (@ay _ _ _ (bE (cH wG zo zp dW (pv 3) (@aa _ _ _ _ _ (dX ["other", "one", "near"] [none,some 4,some 2] rfl (fD (cD hu (pv 2) (pv 4) (λ_ _=>rfl))) rfl (λ_ _ _ _ _=>(ak (i:=0) df rfl (Or.inl rfl))) (λ_ _ _ _ _=>(pE (PW.pt (dh (aD fT (pv 1) (pv 0) (aI _)) (cM (aD gB (cD hu (cD hu (pv 2) (pv 1) (λ_ _=>rfl)) (pv 0) (λ_ _=>rfl)) aj (aI _))))))) (λ_ _ _ _ _=>(@aQ _ _ _ _ _ (@aa _ _ _ _ _ (pv 1) (@aa _ _ _ _ _ (pv 0) ag rfl) rfl)))) ag rfl))))) (λ_=>rfl))
  (@ai _ _ _ _ _ (@bO _ _ _ _ _ _ _ _ wZ rfl (fD (pv 2)) (ak (i:=6) cb.nd rfl (Or.inl rfl))
   (@ai _ _ _ _ _ (@a9 _ _ 7 _ _ _ _ cb.nd rfl (Or.inl rfl) (@bZ _ _ _ _ (@aa _ _ _ _ _ (@aQ _ _ _ _ _ (@aa _ _ _ _ _ (pv 6) ag rfl)) ag rfl)) rfl (by first | exact .inl rfl | exact .inr rfl | assumption))
   (@ay _ _ _ (oY wZ (PW.pt (dh (aD (m6 hr) (pv 7) (@bZ _ _ _ _ ag) (aI _)) (cM (aD sU (ax aH rfl B.b_len bL (@aa _ _ _ _ _ (pv 3) ag rfl)) (pv 1) (aI _)))))
    (@ai _ _ _ _ _ (@a9 _ _ 8 _ _ _ _ cb.nd rfl (Or.inl rfl) (ud wG AO AQ ue (pv 7)) rfl (by first | exact .inl rfl | exact .inr rfl | assumption))
    (@ay _ _ _ (@bO _ _ _ _ _ _ _ _ wZ rfl (fD (cD hu (pv 2) (@bK _ _ _ _ _ _ _ bH (pv 8) (mv ju aj) (λ_ _=>rfl)) (λ_ _=>rfl))) (ak (i:=9) cb.nd rfl (Or.inl rfl))
     (@ay _ _ _ (@bp _ _ _ _ _ _ _ _ (PW.pt (dh (aD gB (pv 9) (pv 6) (aI _)) (cM (aD jx (pv 9) (pv 8) rfl)))) (@ai _ _ _ _ _ (bE (cH wG xw xx b7 (pv 7) (@aa _ _ _ _ _ (@aE _ _ _ _ _ _ _ _ bT (pv 8) (@aQ _ _ _ _ _ (@aa _ _ _ _ _ (pv 9) ag rfl))) ag rfl)))
      (@ay _ _ _ (@bp _ _ _ _ _ _ _ _ (PW.pt (dh (aD gB (ax aH rfl B.b_len bL (@aa _ _ _ _ _ (pv 8) ag rfl)) aj (aI _)) (dh (aD fT (@bK _ _ _ _ _ _ _ bH (pv 8) aj (λ_ _=>rfl)) (pv 9) (aI _)) (cM (tW (uG hu (pv 6) (cD hu (pv 2) (pv 9) (λ_ _=>rfl)))))))) (@ay _ _ _ (bE (cH wG xw xx b7 (pv 3) (@aa _ _ _ _ _ (@aE _ _ _ _ _ _ _ _ bT (pv 8) (@aQ _ _ _ _ _ (@aa _ _ _ _ _ (pv 9) ag rfl))) ag rfl)))) aN))) aN)) (λ_=>rfl))))))) (λ_=>rfl))
  (@ay _ _ _ (@aP _ _ _ _ (ax cC rfl B.b_sorted d8 (@aa _ _ _ _ _ (pv 3) ag rfl))))))))),?_⟩
 obtain ⟨t,e1,e2⟩:=W.at'
 have l2:=W.len
 refine λn hn =>?_
 have gn:=ae hn (.dK [])
 have en:upd H n (.dK []) n=some (.dK []):=ah
 generalize upd H n (.dK [])=H1 at gn en
 refine ⟨(by show 0<=vZ;decide),λfl hfl =>?_⟩
 have hfl0:=gn.free hfl
 have nfl:n≠fl:=aF en hfl
 have s2:=gn.trans (ae hfl (.lst []))
 have en2:=(ae hfl (.lst [])) _ _ en
 have efl:upd H1 fl (.lst []) fl=some (.lst (([]:List (Addr×List Int)).map λu =>.ref u.1)):=ah
 generalize upd H1 fl (.lst [])=H2 at s2 en2 efl
 refine ⟨_,rfl,r,_,1,_,rfl,rfl,SqT.of (s2 _ _ e1),rfl,t,rfl,⟨_,SqT.of (s2 _ _ e2)⟩,ri (xs:=ts.map λu =>.ref u.1) (λi σ H'=>(∃c4 c5,σ=[some (.ref r),some (.int mo),some (.ref n),some (.ref fl),c4,c5,none,none,none,none])/\aB H H'/\H' fl=some (.lst (([]:List (Addr×List Int)).map λu =>.ref u.1))/\∃C,NU H H' n m C (kys C) (3*i)/\C.length<=2*i)
  ⟨⟨_,_,rfl⟩,s2,efl,[],⟨en2,hn,λe he=>by cases he⟩,vS _⟩ (λi σ H' _ z=>SqT.of (z.2.1 _ _ e2)) ?_ ?_⟩
 ·rintro i x σ H3 hx ⟨⟨c4,c5,rfl⟩,s3,ef3,C,N,lc⟩
  obtain ⟨u,eu,rfl⟩:=item hx
  have hi:=(v7.mp eu).1
  obtain ⟨a,b,ab,a0,aleb,bm⟩:=W.pr u (we eu)
  have hu3:=s3 _ _ (W.tup u (we eu))
  rw[ab] at hu3
  refine ⟨u.1,_,rfl,SqT.of hu3,rfl,_,_,rfl,_,_,rfl,rfl,?_⟩
  refine NU.vK (i:=2) (j:=4) (k:=5) (x:=a) (y:=b) N s3 (by omega) (by omega) ⟨a0,by omega⟩ rfl rfl rfl λC1 H4 N1 l1 hx1 up1 hv1 _ s4 ls4 =>?_
  refine NU.vK (i:=2) (j:=5) (k:=4) (x:=b) (y:=a) N1 s4 (by omega) (by omega) ⟨by omega,bm⟩ rfl rfl rfl λC2 H5 N2 l2' hx2 up2 hv2 hvk s5 ls5 =>?_
  obtain ⟨d,D,hg,hD,hb⟩:=hvk _ _ hv1
  have hin:(a,V.ref d)∈C2:=by
   rcases cV a C2 with ⟨_,z⟩ | ⟨w,hw,ew⟩
   ·rw[hg] at z;cases z
   ·rw[hg] at ew;cases ew;exact hw
  obtain ⟨_,d',D2,e2',h0,hD2,lD,al⟩:=N2.all _ hin
  cases e2'
  have:=mi (HO.dK.inj (wB (hD.symm.trans hD2)))
  subst this
  obtain ⟨v,hv,ev⟩:=me hb
  obtain ⟨_,c,ec⟩:=al _ hv
  dsimp only at ec
  subst ec
  have gn:eM H5 n (.int a) (some (.ref d)):=by rw[<- hg];exact eM.k (k:=Sum.inl a) N2.top
  have gd:eM H5 d (.int b) (some (.int c)):=by rw[<- ev];exact eM.k (k:=Sum.inl b) hD
  obtain ⟨D',eD',lD',sub,_,_⟩:=qU D b (.int (c+1))
  have hput:oy H5 d (.int b) (.int (c+1)) (upd H5 d (.dK (mp D'))):=by rw[<- eD'];exact oy.k (k:=Sum.inl b) hD (by rw[mf];exact ic (by omega))
  refine ⟨_,rfl,_,rfl,n,_,rfl,gn,_,rfl,d,_,rfl,gd,_,_,rfl,rfl,_,rfl,_,rfl,n,_,rfl,gn,_,rfl,d,_,rfl,hput,?_⟩
  have N3:=N2.put hD (N2.ne hin rfl) (y:=b) (D':=D') (z':=3*(i+1)) (wL lD' (by omega)) (by omega) λe he=>by
   rcases sub e he with z | z
   ·exact ⟨wD _ (al e z).1,(al e z).2⟩
   ·subst z;exact ⟨wJ,_,rfl⟩
  refine ⟨⟨_,_,rfl⟩,aB.bN s5 h0 _,by rw[aA (ck (ls5 _ _ (ls4 _ _ ef3)) hD (by intro z;cases z))];exact ls5 _ _ (ls4 _ _ ef3),C2,N3.mono (λk hk =>?_) (vS _),by omega⟩
  rcases wj.mp hk with z | hk
  ·rw[z];exact hx2
  rcases wj.mp hk with z | hk
  ·rw[z];exact up2 _ hx1
  rcases wj.mp hk with z | hk
  ·rw[z];exact hx2
  ·exact up2 _ (up1 _ hk)
 rintro σ H3 ⟨⟨c4,c5,rfl⟩,s3,ef3,C,NU3,lc⟩
 rw[vM] at NU3 lc
 have N3:=NU3.nr (by omega)
 have lk:(kys C).length=C.length:=vM _
 refine ⟨_,rfl,n,_,kys C,rfl,gs C,sS N3.top s3 hn λob H4 e4 f4 s4 =>?_⟩
 refine hW (λi σ H'=>(∃c4 c5,σ=[some (.ref r),some (.int mo),some (.ref n),some (.ref fl),c4,c5,none,none,none,none])/\aB H H'/\Nr H H' n m C/\H' n=some (.frz ob (.dK (mp C)))/\Fnd H' fl (801*i) 2)
  ⟨⟨_,_,rfl⟩,s4,N3.fr f4,e4,[],f4.lst ef3,λu hu=>(by cases hu),λu hu=>(by cases hu),vS _⟩ (λi σ H' _ z=>z.2.2.2.1) ?_ ?_
 ·rintro i x σ H5 hx ⟨⟨c4,c5,rfl⟩,s5,N5,en5,F5⟩
  have xk:=we hx
  obtain ⟨xr,d,D,hg,h0,rd,lD,al⟩:=N5.get xk
  obtain ⟨c,ec⟩:∃c:Int,(bY (mp D) (Sum.inl x)).getD (.int 0) = .int c:=by
   rcases cV x D with ⟨_,z⟩ | ⟨w,hw,ew⟩
   ·rw[z];exact ⟨0,rfl⟩
   ·rw[ew]
    obtain ⟨_,c,ec⟩:=al _ hw
    exact ⟨c,ec⟩
  have hi:=(v7.mp hx).1
  refine ⟨_,rfl,_,rfl,n,_,rfl,N5.dg hg,d,rfl,.inl ⟨_,rd⟩,_,rfl,_,gu rd x,?_⟩
  rw[ec]
  refine ⟨_,_,rfl,rfl,_,rfl,?_⟩
  refine qY (λH'=>aB H H'/\Nr H H' n m C/\H' n=some (.frz ob (.dK (mp C)))/\Fnd H' fl (801*i+1) 2) ?_ (λhP z =>?_) λz=>⟨s5,N5,en5,F5.mono (zv _) (vS _)⟩
  ·rintro H6 ⟨s6,N6,en6,F6⟩
   obtain ⟨_,d6,D6,hg6,h06,rd6,lD6,al6⟩:=N6.get xk
   have lk6:(kys D6).length=D6.length:=vM _
   refine ⟨_,rfl,.inl ⟨rfl,_,SqL.of F6.choose_spec.1⟩,_,rfl,_,rfl,n,_,rfl,N6.dg hg6,d6,_,kys D6,rfl,gs D6,sS rd6 s6 h06 λob6 H7 e7 f7 s7 =>?_⟩
   have N7:=N6.fr f7
   have F7:=F6.fr f7
   have en7:=f7.fz en6
   refine lQ (λi ys H'=>aB H7 H'/\∃us:List (Addr×List Int),ys=us.map (λu =>.ref u.1)/\TT H' us/\∀u∈us,u.2≠[]/\u.2.length<=2) ⟨aB.refl _,[],rfl,λu hu=>(by cases hu),λu hu=>(by cases hu)⟩ (by rw[lk6];exact eU (by omega)) (λi ys H' _ z=>z.1 _ _ e7) ?_ ?_
   ·rintro k y ys H8 hy ly ⟨s8,us,rfl,tu,au⟩ R1 R0 r1 r0
    refine ⟨_,rfl,_,rfl,_,_,rfl,rfl,_,rfl,bX (λz =>?_) λz =>?_⟩
    ·obtain ⟨w,hw,ew⟩:=me (we hy)
     obtain ⟨_,c,ec⟩:=al6 _ hw
     dsimp only at ec
     subst ec
     have gd:=gu (s8.fr.rd _ _ (f7.rd _ _ rd6)) y
     rw[ew] at gd
     refine ⟨_,rfl,_,rfl,n,_,rfl,(N7.fr s8.fr).dg hg6,_,rfl,d6,_,rfl,gd,_,_,rfl,rfl,_,rfl,bX (λz =>?_) λz =>?_⟩
     ·refine ⟨_,rfl,_,rfl,(by show 2<=vZ;decide),λtq htq=>r1 _ _ ⟨s8.trans (ae htq _),us++[(tq,[x,y])],by rw[wb];rfl,(tu.same (ae htq _)).snoc ah,λu hu =>?_⟩⟩
      rcases vY.mp hu with z | z
      ·exact au u z
      ·have:u=(tq,[x,y]):=by simpa using z
       subst this
       exact ⟨by simp,vS _⟩
     ·exact r0 _ ⟨s8,us,rfl,tu,au⟩
    ·exact r0 _ ⟨s8,us,rfl,tu,au⟩
   ·rintro ys H8 ly ⟨s8,us,rfl,tu,au⟩ cl hcl
    have g9:=ae hcl (.lst (us.map λu=>V.ref u.1))
    have ecl:upd H8 cl (.lst (us.map λu=>V.ref u.1)) cl=some (.lst (us.map λu=>V.ref u.1)):=ah
    have f9:=(s8.trans g9).fr
    have tu9:=tu.same g9
    have s9:=s7.trans (s8.trans g9)
    have cf:cl≠fl:=xF (aF ((F7.fr s8.fr).choose_spec.1) hcl)
    generalize upd H8 cl (.lst (us.map λu=>V.ref u.1))=H9 at g9 ecl f9 tu9 s9
    obtain ⟨fus,ef,tf,af,lf⟩:=F7.fr f9
    rw[lk6,vM] at ly
    refine ⟨fl,cl,_,_,rfl,rfl,ef,ecl,by rw[vM,vM];exact zE (jU (by omega)),⟨_,_,rfl⟩,aB.bN s9 hfl0 _,(N7.fr f9).lst ef,by rw[aA nfl];exact f9.fz en7,fus++us,by rw[ah,wb],λu hu =>?_,λu hu =>?_,by rw[vQ];omega⟩
    ·rcases vY.mp hu with z | z
     ·exact tf.put ef u z
     ·exact tu9.put ef u z
    ·rcases vY.mp hu with z | z
     ·exact af u z
     ·exact au u z
  ·refine ⟨_,rfl,.inl ⟨rfl,_,SqL.of F5.choose_spec.1⟩,_,rfl,(by show 1<=vZ;decide),λtq htq =>?_⟩
   have g6:=ae htq (.tup [.int x])
   have etq:upd H5 tq (.tup [.int x]) tq=some (.tup (([x]:List Int).map V.int)):=ah
   generalize upd H5 tq (.tup [.int x])=H6 at g6 etq
   obtain ⟨fus,ef,tf,af,lf⟩:=F5.fr g6.fr
   refine ⟨fl,_,_,rfl,rfl,ef,by rw[vM];exact jU (by omega),hP _ ⟨aB.bN (s5.trans g6) hfl0 _,(N5.fr g6.fr).lst ef,by rw[aA nfl];exact g6 _ _ en5,fus++[(tq,[x])],by rw[ah,wb];rfl,(tf.snoc etq).put ef,λu hu =>?_,by rw[vQ];show _+1<=_;omega⟩⟩
   rcases vY.mp hu with z | z
   ·exact af u z
   ·have:u=(tq,[x]):=by simpa using z
    subst this
    exact ⟨by simp,by show 1<=2;decide⟩
 rintro σ H5 ⟨⟨c4,c5,rfl⟩,s5,N5,en5,F5⟩
 rw[lk] at F5
 have F5:Fnd H5 fl 400000 41:=F5.mono (by omega) (by omega)
 refine ⟨_,rfl,n,_,kys C,rfl,gs C,sS (.inr ⟨_,en5⟩) s5 hn λob2 H6 e6 f6 s6 =>?_⟩
 refine hW (λi σ H'=>(∃c4 c5 c6 c7 c8 c9,σ=[some (.ref r),some (.int mo),some (.ref n),some (.ref fl),c4,c5,c6,c7,c8,c9])/\aB H H'/\Nr H H' n m C/\H' n=some (.frz ob2 (.dK (mp C)))/\Fnd H' fl 400000 41)
  ⟨⟨_,_,_,_,_,_,rfl⟩,s6,N5.fr f6,e6,F5.fr f6⟩ (λi σ H' _ z=>z.2.2.2.1) ?_ ?_
 ·rintro i x σ H7 hx ⟨⟨c4,c5,c6,c7,c8,c9,rfl⟩,s7,N7,en7,F7⟩
  have xk:=we hx
  refine ⟨_,rfl,(by show 1<=vZ;decide),λtq htq=>⟨(by show 1<=vZ;decide),λp hp =>?_⟩⟩
  have g8:=ae htq (.tup [.int x])
  have etq:upd H7 tq (.tup [.int x]) tq=some (.tup (([x]:List Int).map V.int)):=ah
  generalize upd H7 tq (.tup [.int x])=H8 at g8 etq hp
  have g9:=ae hp (.lst [.ref tq])
  have ep9:upd H8 p (.lst [.ref tq]) p=some (.lst (([(tq,[x])]:List (Addr×List Int)).map λu =>.ref u.1)):=ah
  have hp0:=(s7.trans g8).free hp
  have pf:p≠fl:=xF (aF (g8 _ _ F7.choose_spec.1) hp)
  have pn:p≠n:=xF (aF (g8 _ _ en7) hp)
  have etq9:=g9 _ _ etq
  generalize upd H8 p (.lst [.ref tq])=H9 at g9 ep9 etq9
  have g79:=g8.trans g9
  refine o6 (λσ H'=>(∃c8 c9,σ=[some (.ref r),some (.int mo),some (.ref n),some (.ref fl),c4,c5,some (.int x),some (.ref p),c8,c9])/\aB H H'/\Nr H H' n m C/\H' n=some (.frz ob2 (.dK (mp C)))/\Fnd H' fl 400000 41/\∃us:List (Addr×List Int),H' p=some (.lst (us.map λu =>.ref u.1))/\TT H' us/\(∀u∈us,Pth C u.2)/\∀k u,us[k]? = some u->k+1<=800*u.2.length)
   (λσ H'=>mu m H' p) ⟨⟨_,_,rfl⟩,s7.trans g79,N7.fr g79.fr,g79 _ _ en7,F7.fr g79.fr,[(tq,[x])],ep9,λu hu =>?_,λu hu =>?_,λk u e =>?_⟩ ?_ ?_
  ·have:u=(tq,[x]):=by simpa using hu
   subst this
   exact etq9
  ·have:u=(tq,[x]):=by simpa using hu
   subst this
   exact ⟨by simp,by simp,λv hv=>(show v=x by simpa using hv) ▸ xk⟩
  ·cases k with
   | zero=>cases e;show 0+1<=800*1;decide
   | succ k=>cases e
  ·rintro σ H10 ⟨⟨c8,c9,rfl⟩,s10,N10,en10,F10,us,ep,tu,pu,ku⟩
   have mu0:=tK (m:=m) ep tu
   refine ⟨_,rfl,(by show 0<=vZ;decide),λll hll =>?_⟩
   have g11:=ae hll (.lst [])
   have ell:upd H10 ll (.lst []) ll=some (.lst (([]:List (Addr×List Int)).map λu =>.ref u.1)):=ah
   generalize upd H10 ll (.lst [])=H11 at g11 ell
   have s11:=s10.trans g11
   have N11:=N10.fr g11.fr
   have en11:=g11 _ _ en10
   obtain ⟨fus,ef,tf,af,lf⟩:=F10.fr g11.fr
   have ep11:=g11 _ _ ep
   have tu11:=tu.same g11
   refine ⟨p,ll,us,[],rfl,rfl,ep11,ell,tu11,λu hu=>(by cases hu),_,rfl,?_⟩
   by_cases hus:us=[]
   ·subst hus
    exact cS (cS ⟨⟨_,_,_,_,_,_,rfl⟩,s11,N11,en11,fus,ef,tf,af,lf⟩)
   rw[decide_eq_false (by intro z;exact hus (Ba.mp z))]
   refine cA ⟨_,rfl,fl,_,rfl,.inl (SqL.of ef),_,rfl,_,_,rfl,rfl,_,rfl,bX (λz =>?_) λz =>?_⟩
   ·have lf3:fus.length<=300:=by
     have z:=of_decide_eq_true z
     rw[vM,hmo] at z
     omega
    obtain ⟨ui,u,eus⟩:∃ui u,us=ui++[u]:=⟨us.dropLast,us.getLast hus,(List.dropLast_concat_getLast hus).symm⟩
    have um:u∈us:=by rw[eus];exact wC _ (by simp)
    obtain ⟨zn,znd,zk⟩:=pu u um
    have lu:u.2.length<=m:=qK znd λv hv=>(N11.get (zk v hv)).1
    have lus:us.length<=800*u.2.length:=by
     have:=ku ui.length u (by rw[eus,xI (vS _),Nat.sub_self];rfl)
     rw[eus,vQ]
     exact this
    have hui:ui.length+1=us.length:=by rw[eus,vQ];rfl
    have eu:TT H11 [u]:=λv hv=>by
     have:v=u:=by simpa using hv
     rw[this];exact tu11 u um
    have eu:=eu u (by simp)
    refine ⟨_,rfl,.inl ⟨rfl,_,SqL.of ep11⟩,p,_,_,rfl,rfl,ep11,by rw[vM,eus,wb,vQ,xI (by rw[vM];show ui.length<=ui.length+1-1;omega)];rw[vM];show [V.ref u.1][ui.length+1-1-ui.length]? = _;rw[show ui.length+1-1-ui.length=0 by omega];rfl,?_⟩
    rw[show (us.map λu=>V.ref u.1).dropLast=ui.map λu=>V.ref u.1 by rw[eus,wb];exact List.dropLast_concat]
    have tui:TT H11 ui:=λv hv=>tu11 v (by rw[eus];exact yb _ hv)
    have ep12:upd H11 p (.lst (ui.map λu=>V.ref u.1)) p=some (.lst (ui.map λu=>V.ref u.1)):=ah
    have s12:=aB.bN s11 hp0 (.lst (ui.map λu=>V.ref u.1))
    have N12:=N11.lst (ys:=ui.map λu=>V.ref u.1) ep11
    have en12:upd H11 p (.lst (ui.map λu=>V.ref u.1)) n=some (.frz ob2 (.dK (mp C))):=by rw[aA (xF pn)];exact en11
    have F12:Fnd (upd H11 p (.lst (ui.map λu=>V.ref u.1))) fl 300 41:=Fnd.put ⟨fus,ef,tf,af,lf3⟩ ep11 pf
    have tu12:TT (upd H11 p (.lst (ui.map λu=>V.ref u.1))) ui:=tui.put ep11
    have eu12:upd H11 p (.lst (ui.map λu=>V.ref u.1)) u.1=some (.tup (u.2.map V.int)):=by rw[aA (ck eu ep11 (by intro z;cases z))];exact eu
    generalize upd H11 p (.lst (ui.map λu=>V.ref u.1))=H12 at ep12 s12 N12 en12 F12 tu12 eu12
    have lpos:=xZ.mpr zn
    obtain ⟨w,ew,wk⟩:∃w,atI (u.2.map V.int) (-1)=some (.int w)/\w∈u.2:=by
     refine ⟨prv u.2 0,ig (k:=0) lpos,?_⟩
     unfold prv
     rw[if_pos rfl,v5,vU (by omega)]
     exact yH _
    obtain ⟨_,d,D,hg,h0,rd,lD,al⟩:=N12.get (zk w wk)
    have lkD:(kys D).length=D.length:=vM _
    refine ⟨_,rfl,_,rfl,1,rfl,u.1,_,(-1:Int),_,rfl,rfl,SqT.of eu12,ew,n,_,rfl,N12.dg hg,d,_,kys D,rfl,gs D,sS rd s12 h0 λob3 H13 e13 f13 s13 =>?_⟩
    refine hW (λi σ H'=>(∃c9,σ=[some (.ref r),some (.int mo),some (.ref n),some (.ref fl),c4,c5,some (.int x),some (.ref p),some (.ref u.1),c9])/\aB H H'/\Nr H H' n m C/\H' n=some (.frz ob2 (.dK (mp C)))/\Fnd H' fl (300+i) 41/\H' d=some (.frz ob3 (.dK (mp D)))/\H' u.1=some (.tup (u.2.map V.int))/\∃vs:List (Addr×List Int),H' p=some (.lst ((ui++vs).map λu =>.ref u.1))/\TT H' (ui++vs)/\(∀v∈vs,Pth C v.2/\v.2.length=u.2.length+1)/\vs.length<=i)
     ⟨⟨_,rfl⟩,s13,N12.fr f13,f13.fz en12,F12.fr f13,e13,f13.tup eu12,[],by rw[xN];exact f13.lst ep12,by rw[xN];exact f13.tt tu12,λv hv=>(by cases hv),vS _⟩ (λi σ H' _ z=>z.2.2.2.2.2.1) ?_ ?_
    ·rintro i y σ H14 hy ⟨⟨c9,rfl⟩,s14,N14,en14,F14,ed14,eu14,vs,ep14,tv14,av,lv⟩
     have yk:y∈kys C:=by
      obtain ⟨e,he,rfl⟩:=xc.mp (we hy)
      exact (al e he).1
     have hi:=(v7.mp hy).1
     refine ⟨_,rfl,_,rfl,_,_,rfl,rfl,_,rfl,bX (λz =>?_) λz =>?_⟩
     case refine_2=>exact cS ⟨⟨_,rfl⟩,s14,N14,en14,F14.mono (by omega) (vS _),ed14,eu14,vs,ep14,tv14,av,by omega⟩
     refine ⟨_,rfl,_,rfl,u.1,_,rfl,.inr (SqT.of eu14),rfl,oR u.2,_,rfl,?_⟩
     show if (if true=true then !inV (.int y) (u.2.map V.int) else _)=true then _ else _
     rw[if_pos rfl,kT]
     by_cases yu:y∈u.2
     ·rw[decide_eq_true yu]
      exact cS ⟨⟨_,rfl⟩,s14,N14,en14,F14.mono (by omega) (vS _),ed14,eu14,vs,ep14,tv14,av,by omega⟩
     rw[decide_eq_false yu]
     have pth:Pth C (u.2++[y]):=⟨by simp,ma znd yu,λv hv=>by
      rcases vY.mp hv with z | z
      ·exact zk v z
      ·have:v=y:=by simpa using z
       rw[this];exact yk⟩
     have lu1:(u.2++[y]).length=u.2.length+1:=by rw[vQ];rfl
     refine cA ⟨_,rfl,.inl ⟨rfl,_,SqL.of ep14⟩,_,rfl,_,rfl,(by show 1<=vZ;decide),λtq htq =>?_⟩
     have g15:=ae htq (.tup [.int y])
     have etq:upd H14 tq (.tup [.int y]) tq=some (.tup [.int y]):=ah
     generalize upd H14 tq (.tup [.int y])=H15 at g15 etq
     refine ⟨u.1,tq,_,_,rfl,rfl,g15 _ _ eu14,etq,by rw[vM];exact eU (by show _+1<=_;omega),λt2 H16 s16 e16 =>?_⟩
     rw[show u.2.map V.int++[V.int y]=(u.2++[y]).map V.int by rw[wb];rfl] at e16
     have g16:=g15.trans s16
     have ep16:=g16 _ _ ep14
     refine ⟨p,_,_,rfl,rfl,ep16,by rw[vM,vQ];exact jU (by omega),?_⟩
     have s17:=aB.bN (s14.trans g16) hp0 (.lst ((ui++vs).map (λu=>V.ref u.1)++[.ref t2]))
     have N17:=(N14.fr g16.fr).lst (ys:=(ui++vs).map (λu=>V.ref u.1)++[.ref t2]) ep16
     have en17:upd H16 p (.lst ((ui++vs).map (λu=>V.ref u.1)++[.ref t2])) n=some (.frz ob2 (.dK (mp C))):=by rw[aA (xF pn)];exact g16 _ _ en14
     have F17:=(F14.fr g16.fr).put (ys:=(ui++vs).map (λu=>V.ref u.1)++[.ref t2]) ep16 pf
     have ed17:upd H16 p (.lst ((ui++vs).map (λu=>V.ref u.1)++[.ref t2])) d=some (.frz ob3 (.dK (mp D))):=by rw[aA (ck (g16 _ _ ed14) ep16 (by intro z;cases z))];exact g16 _ _ ed14
     have eu17:upd H16 p (.lst ((ui++vs).map (λu=>V.ref u.1)++[.ref t2])) u.1=some (.tup (u.2.map V.int)):=by rw[aA (ck (g16 _ _ eu14) ep16 (by intro z;cases z))];exact g16 _ _ eu14
     have ep17:upd H16 p (.lst ((ui++vs).map (λu=>V.ref u.1)++[.ref t2])) p=some (.lst ((ui++(vs++[(t2,u.2++[y])])).map λu=>V.ref u.1)):=by rw[ah, <- wF,wb (l₂:=[(t2,u.2++[y])])];rfl
     have tv17:TT (upd H16 p (.lst ((ui++vs).map (λu=>V.ref u.1)++[.ref t2]))) (ui++(vs++[(t2,u.2++[y])])):=by
      rw[<- wF]
      exact ((tv14.same g16).snoc e16).put ep16
     have av17:∀v∈vs++[(t2,u.2++[y])],Pth C v.2/\v.2.length=u.2.length+1:=λv hv=>by
      rcases vY.mp hv with z | z
      ·exact av v z
      ·have:v=(t2,u.2++[y]):=by simpa using z
       subst this
       exact ⟨pth,lu1⟩
     have lv17:(vs++[(t2,u.2++[y])]).length<=i+1:=by rw[vQ];show _+1<=_;omega
     generalize upd H16 p (.lst ((ui++vs).map (λu=>V.ref u.1)++[.ref t2]))=H17 at s17 N17 en17 F17 ed17 eu17 ep17 tv17
     generalize vs++[(t2,u.2++[y])]=ws at ep17 tv17 av17 lv17
     have out:(∃c9,([some (.ref r),some (.int mo),some (.ref n),some (.ref fl),c4,c5,some (.int x),some (.ref p),some (.ref u.1),some (.int y)]:St)=[some (.ref r),some (.int mo),some (.ref n),some (.ref fl),c4,c5,some (.int x),some (.ref p),some (.ref u.1),c9]):=⟨_,rfl⟩
     have F17':=F17.mono (z':=300+(i+1)) (by omega) (vS _)
     refine ⟨_,rfl,u.1,_,rfl,.inr (SqT.of eu17),_,_,rfl,rfl,_,rfl,bX (λz1 =>?_) λz1=>cS ⟨⟨_,rfl⟩,s17,N17,en17,F17',ed17,eu17,ws,ep17,tv17,av17,lv17⟩⟩
     rw[vM] at z1
     have l1:1<u.2.length:=by have:=of_decide_eq_true z1;omega
     have a1:atI (u.2.map V.int) 1=some (.int (u.2[1]'l1)):=cz (j:=1) (by rw[wm,vU l1];rfl)
     refine ⟨_,rfl,u.1,_,1,_,rfl,rfl,SqT.of eu17,a1,_,rfl,_,_,rfl,rfl,_,rfl,bX (λz2 =>?_) λz2=>cS ⟨⟨_,rfl⟩,s17,N17,en17,F17',ed17,eu17,ws,ep17,tv17,av17,lv17⟩⟩
     obtain ⟨_,dy,Dy,hgy,_,rdy,_,_⟩:=N17.get yk
     refine ⟨_,rfl,_,rfl,_,rfl,n,_,rfl,N17.dg hgy,dy,_,rfl,gu rdy x,_,rfl,bX (λz3 =>?_) λz3=>⟨⟨_,rfl⟩,s17,N17,en17,F17',ed17,eu17,ws,ep17,tv17,av17,lv17⟩⟩
     obtain ⟨fus2,ef2,tf2,af2,lf2⟩:=F17
     refine ⟨_,rfl,.inl ⟨rfl,_,SqL.of ef2⟩,_,rfl,_,rfl,(by show 1<=vZ;decide),λtq htq =>?_⟩
     have g18:=ae htq (.tup [.int y])
     have etq8:upd H17 tq (.tup [.int y]) tq=some (.tup [.int y]):=ah
     generalize upd H17 tq (.tup [.int y])=H18 at g18 etq8
     refine ⟨u.1,tq,_,_,rfl,rfl,g18 _ _ eu17,etq8,by rw[vM];exact eU (by show _+1<=_;omega),λt3 H19 s19 e19 =>?_⟩
     rw[show u.2.map V.int++[V.int y]=(u.2++[y]).map V.int by rw[wb];rfl] at e19
     have g19:=g18.trans s19
     have ef19:=g19 _ _ ef2
     refine ⟨fl,_,_,rfl,rfl,ef19,by rw[vM];exact jU (by omega),⟨_,rfl⟩,aB.bN (s17.trans g19) hfl0 _,(N17.fr g19.fr).lst ef19,by rw[aA nfl];exact g19 _ _ en17,⟨fus2++[(t3,u.2++[y])],by rw[ah,wb];rfl,((tf2.same g19).snoc e19).put ef19,λv hv =>?_,by rw[vQ];show _+1<=_;omega⟩,by rw[aA (ck (g19 _ _ ed17) ef19 (by intro z;cases z))];exact g19 _ _ ed17,by rw[aA (ck (g19 _ _ eu17) ef19 (by intro z;cases z))];exact g19 _ _ eu17,ws,by rw[aA pf];exact g19 _ _ ep17,(tv17.same g19).put ef19,av17,lv17⟩
     rcases vY.mp hv with z | z
     ·exact af2 v z
     ·have:v=(t3,u.2++[y]):=by simpa using z
      subst this
      exact ⟨by simp,by show (u.2++[y]).length<=41;omega⟩
    ·rintro σ H14 ⟨⟨c9,rfl⟩,s14,N14,en14,F14,ed14,eu14,vs,ep14,tv14,av,lv⟩
     rw[lkD] at lv F14
     refine ⟨⟨⟨_,_,rfl⟩,s14,N14,en14,F14.mono (by omega) (vS _),ui++vs,ep14,tv14,λv hv =>?_,λk v e =>?_⟩,?_⟩
     ·rcases vY.mp hv with z | z
      ·exact pu v (by rw[eus];exact yb _ z)
      ·exact (av v z).1
     ·rcases Nat.lt_or_ge k ui.length with c | c
      ·rw[ye c] at e
       exact ku k v (by rw[eus,ye c];exact e)
      ·rw[xI c] at e
       have:=(av v (we e)).2
       have:=(v7.mp e).1
       omega
     ·show mu m H14 p<mu m H10 p
      rw[mu0,tK ep14 tv14,eus]
      exact qX lu (λv hv=>(av v hv).2) (by omega)
   ·exact ⟨⟨_,_,_,_,_,_,rfl⟩,s11,N11,en11,fus,ef,tf,af,lf⟩
  ·rintro σ H Q Q' h ⟨v,e,hz,hc⟩
   refine ⟨v,e,hz,λl hl =>?_⟩
   obtain ⟨a,b,us,ws,e1,e2,e3,e4,e5,e6,c,e7,q⟩:=hc l hl
   refine ⟨a,b,us,ws,e1,e2,e3,e4,e5,e6,c,e7,?_⟩
   cases c with
   | false=>exact h _ _ q
   | true =>
    obtain ⟨v,e,p,ys,e3,hs,v2,e2,i,j',e4,e5,c,e6,qq⟩:=q
    exact ⟨v,e,p,ys,e3,hs,v2,e2,i,j',e4,e5,c,e6,h _ _ qq⟩
 rintro σ H7 ⟨⟨c4,c5,c6,c7,c8,c9,rfl⟩,s7,N7,en7,fus,ef,tf,af,lf⟩
 refine ⟨_,rfl,fl,fus,rfl,.inl (SqL.of ef),λu hu=>⟨SqT.of (tf u hu),(af u hu).1⟩,λl out hl pm _ =>?_⟩
 have g8:=ae hl (.lst (out.map λt=>V.ref t.1))
 exact q l _ out (s7.trans g8) ah (λu hu=>g8 _ _ (tf u (pm.mem_iff.mp hu))) (λu hu=>af u (pm.mem_iff.mp hu)) (by rw[pm.length_eq];exact lf)
end
open PySem L2
theorem jV (Z:List Int)(a b:Option Int):∃Y:List Int,cJ (Z.map V.int) a b=Y.map V.int/\Y.length<=Z.length:=by
 unfold cJ
 refine ⟨(Z.drop _).take _,(by rw[zx,zg]),?_⟩
 rw[wN,wX];omega
abbrev nv:Sp:=λvs H Q _=>∃(r:Addr) (m:Nat) (n:Int) (ts:List (Addr×List Int)),vs=[.ref r,.int n]/\Wb H r m ts/\0<m/\m<=40/\0<=n/\∀(p z:Addr) (n':Int) (H':Hp) (Z:List Int),aB H H'->H' p=some (.tup [.ref z,.int n'])->H' z=some (.tup (Z.map V.int))->Z.length<=41->0<=n'->Q (.ref p) H'
@[irreducible] def jW:Sp:=nv
theorem eZ {vs:List V}{H:Hp}{Q:VK}{E:XK}:jW vs H Q E↔nv vs H Q E:=by
 delta jW
 exact As
section
variable  {P:wu}{w:w4}{K:vV}{mg:Str->Option vP}{base:Heap}{f T:Addr}{fd:x8}
theorem cv:bh ["web", "number", "start", "path", "long", "k", "near", "at"] ["web", "number"] (aL l8):=⟨rfl,rfl,rfl,by decide +kernel,rfl,by decide +kernel,by decide +kernel⟩
theorem dC:(["place", "web", "path"]:List Str).Nodup:=by decide +kernel
theorem sT (F:Fun K "_law_walk" "_law_walk" l8 f fd)(B:Blt mg)(cLTimes:Cal P w K mg base 1 "_law_times" ["web", "one", "other"] dA):cn P w K mg base CX0 2 f fd ["web", "number"] jW:=by
 refine F.ok cv (λvs H Q E h =>?_) (λcdv A outer s H vs Q E hr h =>?_)
 ·obtain ⟨_,_,_,_,rfl,_⟩:=eZ.mp h
  rfl
 obtain ⟨r,m,n,ts,rfl,W,m0,m4,n0,q⟩:=eZ.mp h
 refine ⟨_,(@ai _ _ _ _ _ (@aR _ _ _ _ _ _ (ax az rfl B.b_divmod aG (@aa _ _ _ _ _ (pv 1) (@aa _ _ _ _ _ (@bK _ _ _ _ _ _ _ bH (pv 0) aj (λ_ _=>rfl)) ag rfl) rfl)) (aO rfl (aq (ak (i:=1) cv.nd rfl (Or.inl rfl)) (aq (ak (i:=2) cv.nd rfl (Or.inl rfl)) aK))) rfl rfl rfl)
  (@ai _ _ _ _ _ (@a9 _ _ 3 _ _ _ _ cv.nd rfl (Or.inr rfl) (@bZ _ _ _ _ (@aa _ _ _ _ _ (pv 2) ag rfl)) rfl (by first | exact .inl rfl | exact .inr rfl | assumption))
  (@ai _ _ _ _ _ (@aR _ _ _ _ _ _ (ax az rfl B.b_divmod aG (@aa _ _ _ _ _ (pv 1) (@aa _ _ _ _ _ aj ag rfl) rfl)) (aO rfl (aq (ak (i:=1) cv.nd rfl (Or.inl rfl)) (aq (ak (i:=4) cv.nd rfl (Or.inl rfl)) aK))) rfl rfl rfl)
  (@ai _ _ _ _ _ (@bO _ _ _ _ _ _ _ _ wZ rfl (bB rfl B.b_range (@aa _ _ _ _ _ (pv 4) ag rfl)) (ak (i:=5) cv.nd rfl (Or.inl rfl))
   (@ai _ _ _ _ _ (dq (i:=6) ["place", "web", "path"] [none,some 0,some 3] rfl cv.nd rfl rfl (bB rfl B.b_range (@aa _ _ _ _ _ (@bK _ _ _ _ _ _ _ bH (pv 0) aj (λ_ _=>rfl)) ag rfl)) rfl (λ_ _ _ _ _=>(ak (i:=0) dC rfl (Or.inl rfl))) (λ_ _ _ _ _=>(pE (aD gB (bQ cLTimes hr (by decide) rfl (@aa _ _ _ _ _ (pv 1) (@aa _ _ _ _ _ (@bK _ _ _ _ _ _ _ (pH (K:=K)) (pv 2) (mv ju aj) (λ_ _=>rfl)) (@aa _ _ _ _ _ (pv 0) ag rfl) rfl) rfl)) aj (aI _)))) (λ_ _ _ _ _=>(pv 0)))
   (@ay _ _ _ (@bp _ _ _ _ _ _ _ _ (aD (sr hr) (pv 6) (@bZ _ _ _ _ ag) (aI _)) (@ai _ _ _ _ _ (@aR _ _ _ _ _ _ (ax az rfl B.b_divmod aG (@aa _ _ _ _ _ (pv 1) (@aa _ _ _ _ _ (ax aH rfl B.b_len bL (@aa _ _ _ _ _ (pv 6) ag rfl)) ag rfl) rfl)) (aO rfl (aq (ak (i:=1) cv.nd rfl (Or.inl rfl)) (aq (ak (i:=7) cv.nd rfl (Or.inl rfl)) aK))) rfl rfl rfl)
    (@ay _ _ _ (bE (cH wG xw xx b7 (pv 3) (@aa _ _ _ _ _ (@bK _ _ _ _ _ _ _ dU (pv 6) (pv 7) (λ_ _=>rfl)) ag rfl))))) aN))) (λ_=>rfl))
  (@ay _ _ _ (@aP _ _ _ _ (@aQ _ _ _ _ _ (@aa _ _ _ _ _ (aZ ba rfl B.b_tuple da (@aa _ _ _ _ _ (pv 3) ag rfl)) (@aa _ _ _ _ _ (pv 1) ag rfl) rfl)))))))),?_⟩
 obtain ⟨t,e1,e2⟩:=W.at'
 have mI:(0:Int)<(m:Int):=by omega
 obtain ⟨q1,x0,x1⟩:=dmN (j:=(m:Int)) n0 mI
 refine ⟨_,rfl,_,rfl,r,_,0,_,rfl,rfl,SqT.of e1,rfl,n,m,rfl,⟨mI,by omega⟩,λp hp=>⟨p,_,rfl,SqT.of ah,rfl,_,_,rfl,_,_,rfl,rfl,?_⟩⟩
 have s1:=ae hp (.tup [.int (n/(m:Int)),.int (n%(m:Int))])
 generalize upd H p (.tup [.int (n/(m:Int)),.int (n%(m:Int))])=H1 at s1
 generalize n/(m:Int)=n1 at q1
 generalize n%(m:Int)=st at x0 x1
 refine ⟨_,rfl,(by show 1<=vZ;decide),λlp hlp =>?_⟩
 have hlp0:=s1.free hlp
 have s2:=s1.trans (ae hlp (.lst [.int st]))
 have elp:upd H1 lp (.lst [.int st]) lp=some (.lst (([st]:List Int).map V.int)):=ah
 generalize upd H1 lp (.lst [.int st])=H2 at s2 elp
 obtain ⟨q2,y0,y1⟩:=dmN (j:=6) q1 (by decide)
 refine ⟨_,rfl,n1,6,rfl,⟨by decide,by decide⟩,λp hp=>⟨p,_,rfl,SqT.of ah,rfl,_,_,rfl,_,_,rfl,rfl,?_⟩⟩
 have g3:=ae hp (.tup [.int (n1/6),.int (n1%6)])
 have s3:=s2.trans g3
 have elp3:=g3 _ _ elp
 generalize upd H2 p (.tup [.int (n1/6),.int (n1%6)])=H3 at s3 elp3
 generalize n1/6=n2 at q2
 generalize n1%6=lg at y0 y1
 obtain ⟨lg,rfl⟩:∃k:Nat,lg=k:=⟨lg.toNat,by omega⟩
 refine ⟨_,rfl,lg,rfl,by omega,by omega,?_⟩
 rw[yM]
 refine bC (n:=lg) (λk σ H'=>∃(nn:Int) (c5 c6 c7:Option V) (Z:List Int),σ=[some (.ref r),some (.int nn),some (.int st),some (.ref lp),some (.int lg),c5,c6,c7]/\0<=nn/\aB H H'/\H' lp=some (.lst (Z.map V.int))/\Z≠[]/\Z.length<=k+1) ⟨n2,_,_,_,[st],rfl,q2,s3,elp3,by simp,vS _⟩ ?_ ?_
 ·rintro k σ H4 hk ⟨nn,c5,c6,c7,Z,rfl,nn0,s4,el4,zn,lZ⟩
  have lpos:=xZ.mpr zn
  have a1:atI (Z.map V.int) (-1)=some (.int (prv Z 0)):=ig (k:=0) lpos
  refine ⟨_,rfl,r,_,0,_,rfl,rfl,SqT.of (s4 _ _ e1),rfl,m,rfl,by omega,by omega,?_⟩
  rw[yM]
  refine cO (lo:=0) (n:=m) (λi ys H'=>aB H4 H'/\∃os:List Int,ys=os.map V.int) ⟨aB.refl _,[],rfl⟩ (small (by omega)) ?_ ?_
  ·rintro i ys H5 hi hy ⟨s5,os,rfl⟩ R1 R0 r1 r0
   refine ⟨_,rfl,_,rfl,1,rfl,lp,_,(-1:Int),_,rfl,rfl,SqL.of (s5 _ _ el4),a1,_,rfl,bG.mpr ⟨r,m,_,_,ts,rfl,W.same (s4.trans s5),λH6 s6=>⟨_,_,rfl,rfl,_,rfl,bX (λz =>?_) λz =>?_⟩⟩⟩
   ·exact ⟨_,rfl,r1 _ _ ⟨s5.trans s6,os++[_],by rw[wb];rfl⟩⟩
   ·exact r0 _ ⟨s5.trans s6,os,rfl⟩
  ·rintro ys H5 hy ⟨s5,os,rfl⟩ nl hnl
   rw[vM] at hy
   have g6:=s5.trans (ae hnl (.lst (os.map V.int)))
   have enl:upd H5 nl (.lst (os.map V.int)) nl=some (.lst (os.map V.int)):=ah
   generalize upd H5 nl (.lst (os.map V.int))=H6 at g6 enl
   refine ⟨_,rfl,(by show 0<=vZ;decide),λll hll =>?_⟩
   have g7:=g6.trans (ae hll (.lst []))
   have enl7:=(ae hll (.lst [])) _ _ enl
   have ell:upd H6 ll (.lst []) ll=some (.lst (([]:List Int).map V.int)):=ah
   generalize upd H6 ll (.lst [])=H7 at g7 enl7 ell
   refine ⟨nl,ll,os,[],rfl,rfl,SqL.of enl7,SqL.of ell,_,rfl,?_⟩
   have el7:=g7 _ _ el4
   by_cases oz:os=[]
   ·rw[decide_eq_true oz]
    exact cS ⟨nn,_,_,_,Z,rfl,nn0,s4.trans g7,el7,zn,by omega⟩
   rw[decide_eq_false oz]
   have opos:=xZ.mpr oz
   have lom:(os.map V.int).length=os.length:=vM _
   have oI:(0:Int)<((os.map V.int).length:Int):=by rw[lom];omega
   obtain ⟨q3,w0,w1⟩:=dmN (j:=((os.map V.int).length:Int)) nn0 oI
   refine cA ⟨_,rfl,_,rfl,nl,_,rfl,.inl (SqL.of enl7),nn,_,rfl,⟨oI,by omega⟩,λp hp=>⟨p,_,rfl,SqT.of ah,rfl,_,_,rfl,_,_,rfl,rfl,?_⟩⟩
   have g8:=ae hp (.tup [.int (nn/((os.map V.int).length:Int)),.int (nn%((os.map V.int).length:Int))])
   generalize upd H7 p (.tup [.int (nn/((os.map V.int).length:Int)),.int (nn%((os.map V.int).length:Int))])=H8 at g8
   generalize nn/((os.map V.int).length:Int)=n3 at q3
   generalize nn%((os.map V.int).length:Int)=at' at w0 w1
   obtain ⟨at',rfl⟩:∃k:Nat,at'=k:=⟨at'.toNat,by omega⟩
   rw[lom] at w1
   have ao:atI (os.map V.int) (at':Int)=some (.int (os[at']'(by omega))):=cz (by rw[wm,vU (by omega)];rfl)
   have el8:=g8 _ _ el7
   refine ⟨_,rfl,.inl ⟨rfl,_,SqL.of el8⟩,_,rfl,_,rfl,nl,_,_,_,rfl,rfl,SqL.of (g8 _ _ enl7),ao,lp,_,_,rfl,rfl,el8,by rw[vM];exact ic (by omega),n3,_,_,_,Z++[_],rfl,q3,aB.bN (s4.trans (g7.trans g8)) hlp0 _,by rw[ah,wb];rfl,by simp,by rw[vQ];show _+1<=_;omega⟩
 ·rintro σ H4 ⟨nn,c5,c6,c7,Z,rfl,nn0,s4,el4,zn,lZ⟩
  refine ⟨_,rfl,lp,_,rfl,.inl ⟨SqL.of el4,λz hz=>⟨_,rfl,(by show 2<=vZ;decide),λp1 hp1 =>?_⟩⟩⟩
  have g5:=ae hz (.tup (Z.map V.int))
  have g6:=ae hp1 (.tup [.ref z,.int nn])
  exact q p1 z nn _ Z (s4.trans (g5.trans g6)) ah (g6 _ _ ah) (by omega) nn0
end
abbrev kW:Sp:=λvs H Q _=>∃(r:Addr) (m:Nat) (n:Int) (ts:List (Addr×List Int)),vs=[.ref r,.int n]/\Wb H r m ts/\m<=40/\0<=n/\∀(p z:Addr) (n':Int) (H':Hp) (Z:List Int),aB H H'->H' p=some (.tup [.ref z,.int n'])->H' z=some (.tup (Z.map V.int))->Z.length<=41->0<=n'->Q (.ref p) H'
@[irreducible] def gw:Sp:=kW
theorem dP {vs:List V}{H:Hp}{Q:VK}{E:XK}:gw vs H Q E↔kW vs H Q E:=by
 delta gw
 exact As
section
variable  {P:wu}{w:w4}{K:vV}{mg:Str->Option vP}{base:Heap}{f T:Addr}{fd:x8}
theorem cI:bh ["web", "number", "way", "rings", "at"] ["web", "number"] (aL fE):=⟨rfl,rfl,rfl,by decide +kernel,rfl,by decide +kernel,by decide +kernel⟩
theorem ra (F:Fun K "_law_tuple" "_law_tuple" fE f fd)(B:Blt mg)(cLWalk:Cal P w K mg base 2 "_law_walk" ["web", "number"] jW)(cLRings:Cal P w K mg base 1 "_law_rings" ["web", "most"] gv):cn P w K mg base CX0 3 f fd ["web", "number"] gw:=by
 refine F.ok cI (λvs H Q E h =>?_) (λcdv A outer s H vs Q E hr h =>?_)
 ·obtain ⟨_,_,_,_,rfl,_⟩:=dP.mp h
  rfl
 obtain ⟨r,m,n,ts,rfl,W,m4,n0,q⟩:=dP.mp h
 obtain ⟨t,e1,e2⟩:=W.at'
 have l2:=W.len
 refine cF ((bI fE).drop 4) (λσ H'=>∃(n1:Int) (c2 c3 c4:Option V),σ=[some (.ref r),some (.int n1),c2,c3,c4]/\0<=n1/\aB H H') ?hR λtR pR mR =>?gR
 case hR =>
  refine ⟨_,(@ai _ _ _ _ _ (@bp _ _ _ _ _ _ _ _ (aD bV (@bK _ _ _ _ _ _ _ bH (pv 0) aj (λ_ _=>rfl)) aj (aI _)) (@ay _ _ _ (@aP _ _ _ _ (@aQ _ _ _ _ _ (@aa _ _ _ _ _ (@aQ _ _ _ _ _ ag) (@aa _ _ _ _ _ (pv 1) ag rfl) rfl)))) aN)
  (@ay _ _ _ (@aP _ _ _ _ (bQ cLWalk hr (by decide) rfl (@aa _ _ _ _ _ (pv 0) (@aa _ _ _ _ _ (pv 1) ag rfl) rfl))))),?_⟩
  rintro σ H1 ⟨n1,c2,c3,c4,rfl,n10,s1⟩
  refine ⟨_,rfl,r,_,0,_,rfl,rfl,SqT.of (s1 _ _ e1),rfl,rfl,_,rfl,bX (λz =>?_) λz =>?_⟩
  ·refine ⟨(by show 0<=vZ;decide),λz hz=>⟨_,rfl,(by show 2<=vZ;decide),λp1 hp1 =>?_⟩⟩
   have g5:=ae hz (.tup [])
   have g6:=ae hp1 (.tup [.ref z,.int n1])
   exact q p1 z n1 _ [] (s1.trans (g5.trans g6)) ah (g6 _ _ ah) (wM _) n10
  ·have mp:0<m:=by
    rcases Nat.eq_zero_or_pos m with c | c
    ·exact absurd (by rw[c];rfl) z
    ·exact c
   exact ⟨_,rfl,_,rfl,eZ.mpr ⟨r,m,n1,ts,rfl,W.same s1,mp,m4,n10,λp z n' H' Z s=>q p z n' H' Z (s1.trans s)⟩⟩
 case gR =>
 refine cF ((bI fE).drop 3) (λσ H'=>∃(l:Addr) (n1 wy:Int) (us:List (Addr×List Int)),σ=[some (.ref r),some (.int n1),some (.int wy),some (.ref l),none]/\0<=n1/\aB H H'/\H' l=some (.lst (us.map λu =>.ref u.1))/\TT H' us/\(∀u∈us,u.2≠[]/\u.2.length<=41)/\us.length<=400000) ?hT λtT pT mT =>?gT
 case hT =>
  refine ⟨_,(@ai _ _ _ _ _ (@bp _ _ _ _ _ _ _ _ (PW.pt (dh (aD bV (pv 2) aj (aI _)) (cM (aD (m6 hr) (pv 3) (@bZ _ _ _ _ ag) (aI _))))) (@ai _ _ _ _ _ (@aR _ _ _ _ _ _ (ax az rfl B.b_divmod aG (@aa _ _ _ _ _ (pv 1) (@aa _ _ _ _ _ (ax aH rfl B.b_len bL (@aa _ _ _ _ _ (pv 3) ag rfl)) ag rfl) rfl)) (aO rfl (aq (ak (i:=1) cI.nd rfl (Or.inl rfl)) (aq (ak (i:=4) cI.nd rfl (Or.inl rfl)) aK))) rfl rfl rfl)
   (@ay _ _ _ (@aP _ _ _ _ (@aQ _ _ _ _ _ (@aa _ _ _ _ _ (@bK _ _ _ _ _ _ _ dU (pv 3) (pv 4) (λ_ _=>rfl)) (@aa _ _ _ _ _ (pv 1) ag rfl) rfl))))) aN)
  pR),?_⟩
  rintro σ H1 ⟨l,n1,wy,us,rfl,n10,s1,el,tu,au,lu⟩
  have lum:(us.map λu=>V.ref u.1).length=us.length:=vM _
  refine ⟨_,rfl,rfl,_,rfl,bX (λz =>?_) λz=>cS (mR _ _ ⟨_,_,_,_,rfl,n10,s1⟩)⟩
  refine ⟨_,rfl,(by show 0<=vZ;decide),λll hll =>?_⟩
  have g2:=ae hll (.lst [])
  have ell:upd H1 ll (.lst []) ll=some (.lst (([]:List (Addr×List Int)).map λu =>.ref u.1)):=ah
  generalize upd H1 ll (.lst [])=H2 at g2 ell
  refine ⟨l,ll,us,[],rfl,rfl,g2 _ _ el,ell,tu.same g2,λu hu=>(by cases hu),_,rfl,?_⟩
  by_cases oz:us=[]
  ·rw[decide_eq_true (by rw[oz])]
   exact cS (mR _ _ ⟨_,_,_,_,rfl,n10,s1.trans g2⟩)
  rw[decide_eq_false (by intro z;exact oz (Ba.mp z))]
  have opos:=xZ.mpr oz
  have oI:(0:Int)<((us.map λu=>V.ref u.1).length:Int):=by rw[lum];omega
  obtain ⟨q3,w0,w1⟩:=dmN (j:=((us.map λu=>V.ref u.1).length:Int)) n10 oI
  refine cA ⟨_,rfl,_,rfl,l,_,rfl,.inl (SqL.of (g2 _ _ el)),n1,_,rfl,⟨oI,?_⟩,λp hp=>⟨p,_,rfl,SqT.of ah,rfl,_,_,rfl,_,_,rfl,rfl,?_⟩⟩
  ·rw[lum];omega
  have g8:=ae hp (.tup [.int (n1/((us.map λu=>V.ref u.1).length:Int)),.int (n1%((us.map λu=>V.ref u.1).length:Int))])
  generalize upd H2 p (.tup [.int (n1/((us.map λu=>V.ref u.1).length:Int)),.int (n1%((us.map λu=>V.ref u.1).length:Int))])=H8 at g8
  generalize n1/((us.map λu=>V.ref u.1).length:Int)=n3 at q3
  generalize n1%((us.map λu=>V.ref u.1).length:Int)=at' at w0 w1
  obtain ⟨at',rfl⟩:∃k:Nat,at'=k:=⟨at'.toNat,by omega⟩
  rw[lum] at w1
  have hat:at'<us.length:=by omega
  have ao:atI (us.map λu=>V.ref u.1) (at':Int)=some (.ref (us[at']'hat).1):=cz (by rw[wm,vU hat];rfl)
  have um:=yH hat
  refine ⟨_,rfl,_,rfl,l,_,_,_,rfl,rfl,SqL.of (g8 _ _ (g2 _ _ el)),ao,_,rfl,(by show 2<=vZ;decide),λp1 hp1 =>?_⟩
  have g6:=ae hp1 (.tup [.ref (us[at']'hat).1,.int n3])
  exact q p1 _ n3 _ _ (s1.trans (g2.trans (g8.trans g6))) ah (g6 _ _ (g8 _ _ (g2 _ _ (tu _ um)))) (au _ um).2 q3
 case gT =>
 refine ⟨_,(@ai _ _ _ _ _ (@aR _ _ _ _ _ _ (ax az rfl B.b_divmod aG (@aa _ _ _ _ _ (pv 1) (@aa _ _ _ _ _ aj ag rfl) rfl)) (aO rfl (aq (ak (i:=1) cI.nd rfl (Or.inl rfl)) (aq (ak (i:=2) cI.nd rfl (Or.inl rfl)) aK))) rfl rfl rfl)
  (@ai _ _ _ _ _ (@a9 _ _ 3 _ _ _ _ cI.nd rfl (Or.inl rfl) (@bZ _ _ _ _ ag) rfl (by first | exact .inl rfl | exact .inr rfl | assumption))
  (@ai _ _ _ _ _ (@bp _ _ _ _ _ _ _ _ (PW.pt (iB (aD fT (@bK _ _ _ _ _ _ _ bH (pv 0) aj (λ_ _=>rfl)) aj (aI _)) (gy (aD fT (ax aH rfl B.b_len bL (@aa _ _ _ _ _ (@bK _ _ _ _ _ _ _ bH (pv 0) aj (λ_ _=>rfl)) ag rfl)) (@aE _ _ _ _ _ _ _ _ bP (@bK _ _ _ _ _ _ _ bH (pv 0) aj (λ_ _=>rfl)) aj) (aI _))))) (@ay _ _ _ (@a9 _ _ 3 _ _ _ _ cI.nd rfl (Or.inl rfl) (bQ cLRings hr (by decide) rfl (@aa _ _ _ _ _ (pv 0) (@aa _ _ _ _ _ aj ag rfl) rfl)) rfl (by first | exact .inl rfl | exact .inr rfl | assumption))) aN)
  pT))),?_⟩
 obtain ⟨q0,x0,x1⟩:=dmN (j:=2) n0 (by decide)
 refine ⟨_,rfl,n,2,rfl,⟨by decide,by decide⟩,λp hp=>⟨p,_,rfl,SqT.of ah,rfl,_,_,rfl,_,_,rfl,rfl,?_⟩⟩
 have s1:=ae hp (.tup [.int (n/2),.int (n%2)])
 generalize upd H p (.tup [.int (n/2),.int (n%2)])=H1 at s1
 generalize n/2=n1 at q0
 generalize n%2=wy at x0 x1
 refine ⟨(by show 0<=vZ;decide),λl hl =>?_⟩
 have s2:=s1.trans (ae hl (.lst []))
 have el:upd H1 l (.lst []) l=some (.lst (([]:List (Addr×List Int)).map λu =>.ref u.1)):=ah
 generalize upd H1 l (.lst [])=H2 at s2 el
 have W2:=W.same s2
 refine ⟨_,rfl,r,_,0,_,rfl,rfl,SqT.of (s2 _ _ e1),rfl,_,_,rfl,rfl,_,rfl,bX (λz=>cA ?_) λz =>?_⟩
 ·refine ⟨_,rfl,cP.mpr ⟨r,m,300,ts,rfl,W2,m4,rfl,λl3 H3 us s3 e3 t3 a3 b3=>mT _ _ ⟨l3,n1,wy,us,rfl,q0,s2.trans s3,e3,t3,a3,b3⟩⟩⟩
 ·refine ⟨_,rfl,r,_,1,_,rfl,rfl,SqT.of (s2 _ _ e1),rfl,t,_,rfl,.inr (SqT.of (s2 _ _ e2)),_,rfl,r,_,0,_,rfl,rfl,SqT.of (s2 _ _ e1),rfl,_,_,rfl,rfl,_,_,rfl,rfl,_,rfl,bX (λz =>?_) λz =>?_⟩
  ·refine ⟨_,rfl,cP.mpr ⟨r,m,300,ts,rfl,W2,m4,rfl,λl3 H3 us s3 e3 t3 a3 b3=>mT _ _ ⟨l3,n1,wy,us,rfl,q0,s2.trans s3,e3,t3,a3,b3⟩⟩⟩
  ·exact mT _ _ ⟨l,n1,wy,[],rfl,q0,s2,el,λu hu=>(by cases hu),λu hu=>(by cases hu),wM _⟩
end
open PySem L2
abbrev jl:Sp:=λvs H Q _=>∃(r p:Addr) (m:Nat) (n:Int) (ts:List (Addr×List Int)) (Z:List Int),vs=[.ref r,.ref p,.int n]/\Wb H r m ts/\H p=some (.tup (Z.map V.int))/\Z.length<=41/\0<=n/\∀(z:Addr) (H':Hp) (Y:List Int),aB H H'->H' z=some (.tup (Y.map V.int))->Y.length<=100->Q (.ref z) H'
@[irreducible] def fG:Sp:=jl
theorem dD {vs:List V}{H:Hp}{Q:VK}{E:XK}:fG vs H Q E↔jl vs H Q E:=by
 delta fG
 exact As
section
variable  {P:wu}{w:w4}{K:vV}{mg:Str->Option vP}{base:Heap}{f T:Addr}{fd:x8}
theorem cj:bh ["web", "ring", "number", "way", "at", "other", "turned"] ["web", "ring", "number"] (aL ib):=⟨rfl,rfl,rfl,by decide +kernel,rfl,by decide +kernel,by decide +kernel⟩
theorem oS (F:Fun K "_law_spoilt" "_law_spoilt" ib f fd)(B:Blt mg):cn P w K mg base CX0 1 f fd ["web", "ring", "number"] fG:=by
 refine F.ok cj (λvs H Q E h =>?_) (λcdv A outer s H vs Q E hr h =>?_)
 ·obtain ⟨_,_,_,_,_,_,rfl,_⟩:=dD.mp h
  rfl
 obtain ⟨r,p,m,n,ts,Z,rfl,W,ep,lZ,n0,q⟩:=dD.mp h
 refine ⟨_,(@ai _ _ _ _ _ (@aR _ _ _ _ _ _ (ax az rfl B.b_divmod aG (@aa _ _ _ _ _ (pv 2) (@aa _ _ _ _ _ aj ag rfl) rfl)) (aO rfl (aq (ak (i:=2) cj.nd rfl (Or.inl rfl)) (aq (ak (i:=3) cj.nd rfl (Or.inl rfl)) aK))) rfl rfl rfl)
  (@ai _ _ _ _ _ (@aR _ _ _ _ _ _ (ax az rfl B.b_divmod aG (@aa _ _ _ _ _ (pv 2) (@aa _ _ _ _ _ (@aE _ _ _ _ _ _ _ _ bP (ax aH rfl B.b_len bL (@aa _ _ _ _ _ (pv 1) ag rfl)) aj) ag rfl) rfl)) (aO rfl (aq (ak (i:=2) cj.nd rfl (Or.inl rfl)) (aq (ak (i:=4) cj.nd rfl (Or.inl rfl)) aK))) rfl rfl rfl)
  (@ai _ _ _ _ _ (@aR _ _ _ _ _ _ (ax az rfl B.b_divmod aG (@aa _ _ _ _ _ (pv 2) (@aa _ _ _ _ _ aj ag rfl) rfl)) (aO rfl (aq (ak (i:=2) cj.nd rfl (Or.inl rfl)) (aq (ak (i:=5) cj.nd rfl (Or.inl rfl)) aK))) rfl rfl rfl)
  (@ai _ _ _ _ _ (@a9 _ _ 6 _ _ _ _ cj.nd rfl (Or.inl rfl) (@aE _ _ _ _ _ _ _ _ bT (a7 bJ (pv 1) (bz (pv 4)) bF) (a7 bJ (pv 1) bF (bz (pv 4)))) rfl (by first | exact .inl rfl | exact .inr rfl | assumption))
  (@ai _ _ _ _ _ (@bp _ _ _ _ _ _ _ _ (aD bV (pv 3) aj (aI _)) (@ay _ _ _ (@aP _ _ _ _ (fO hr.hd rfl B.b_tuple rfl B.b_reversed (pv 6)))) aN)
  (@ai _ _ _ _ _ (@bp _ _ _ _ _ _ _ _ (aD bV (pv 3) aj (aI _)) (@ay _ _ _ (@aP _ _ _ _ (a7 bJ (pv 6) bF (bz (mv ju aj))))) aN)
  (@ai _ _ _ _ _ (@bp _ _ _ _ _ _ _ _ (aD bV (pv 3) aj (aI _)) (@ay _ _ _ (@aP _ _ _ _ (@aE _ _ _ _ _ _ _ _ bT (a7 bJ (pv 6) (bz aj) bF) (@aQ _ _ _ _ _ (@aa _ _ _ _ _ (@aE _ _ _ _ _ _ _ _ bU (pv 5) aj) ag rfl))))) aN)
  (@ai _ _ _ _ _ (@bp _ _ _ _ _ _ _ _ (aD bV (pv 3) aj (aI _)) (@ay _ _ _ (@aP _ _ _ _ (@aE _ _ _ _ _ _ _ _ bT (pv 6) (a7 bJ (pv 6) bF (bz aj))))) aN)
  (@ai _ _ _ _ _ (@bp _ _ _ _ _ _ _ _ (aD bV (pv 3) aj (aI _)) (@ay _ _ _ (@aP _ _ _ _ (@aE _ _ _ _ _ _ _ _ bT (pv 6) (@aQ _ _ _ _ _ (@aa _ _ _ _ _ (pv 5) ag rfl))))) aN)
  (@ai _ _ _ _ _ (@bp _ _ _ _ _ _ _ _ (aD bV (pv 3) aj (aI _)) (@ay _ _ _ (@aP _ _ _ _ (@aE _ _ _ _ _ _ _ _ bT (a7 bJ (pv 6) (bz aj) bF) (@aQ _ _ _ _ _ (@aa _ _ _ _ _ (@aE _ _ _ _ _ _ _ _ bU (@aE _ _ _ _ _ _ _ _ bU (@aE _ _ _ _ _ _ _ _ jt aj aj) aj) (pv 5)) ag rfl))))) aN)
  (@ai _ _ _ _ _ (@bp _ _ _ _ _ _ _ _ (PW.pt (dh (aD bV (pv 3) aj (aI _)) (cM (aD (mY hr) (pv 1) (@aQ _ _ _ _ _ ag) (aI _))))) (@ay _ _ _ (@aP _ _ _ _ (@aE _ _ _ _ _ _ _ _ bT (a7 bJ (pv 6) (bz aj) bF) (@aQ _ _ _ _ _ (@aa _ _ _ _ _ (@aE _ _ _ _ _ _ _ _ bU (@bK _ _ _ _ _ _ _ bH (pv 6) aj (λ_ _=>rfl)) (@bK _ _ _ _ _ _ _ bH (pv 0) aj (λ_ _=>rfl))) ag rfl))))) aN)
  (@ai _ _ _ _ _ (@bp _ _ _ _ _ _ _ _ (aD bV (pv 3) aj (aI _)) (@ay _ _ _ (@aP _ _ _ _ (@aE _ _ _ _ _ _ _ _ bT (a7 bJ (pv 6) (bz aj) bF) (@aQ _ _ _ _ _ (@aa _ _ _ _ _ (@aE _ _ _ _ _ _ _ _ bP (@aE _ _ _ _ _ _ _ _ bP (@aE _ _ _ _ _ _ _ _ bU aj (@aE _ _ _ _ _ _ _ _ jt aj aj)) aj) (pv 5)) ag rfl))))) aN)
  (@ay _ _ _ (@aP _ _ _ _ (pv 6))))))))))))))),?_⟩
 obtain ⟨t,e1,e2⟩:=W.at'
 have lz:(Z.map V.int).length=Z.length:=vM _
 obtain ⟨q0,x0,x1⟩:=dmN (j:=10) n0 (by decide)
 refine ⟨_,rfl,n,10,rfl,⟨by decide,by decide⟩,λp1 hp1=>⟨p1,_,rfl,SqT.of ah,rfl,_,_,rfl,_,_,rfl,rfl,?_⟩⟩
 have s1:=ae hp1 (.tup [.int (n/10),.int (n%10)])
 generalize upd H p1 (.tup [.int (n/10),.int (n%10)])=H1 at s1
 generalize n/10=n1 at q0
 generalize n%10=wy at x0 x1
 have lI:(0:Int)<((Z.map V.int).length:Int)+1:=by omega
 obtain ⟨q2,y0,y1⟩:=dmN (j:=((Z.map V.int).length:Int)+1) q0 lI
 refine ⟨_,rfl,_,rfl,p,_,rfl,.inr (SqT.of (s1 _ _ ep)),_,_,rfl,rfl,n1,_,rfl,⟨lI,by rw[lz];omega⟩,λp2 hp2=>⟨p2,_,rfl,SqT.of ah,rfl,_,_,rfl,_,_,rfl,rfl,?_⟩⟩
 have s2:=s1.trans (ae hp2 (.tup [.int (n1/(((Z.map V.int).length:Int)+1)),.int (n1%(((Z.map V.int).length:Int)+1))]))
 generalize upd H1 p2 (.tup [.int (n1/(((Z.map V.int).length:Int)+1)),.int (n1%(((Z.map V.int).length:Int)+1))])=H2 at s2
 generalize n1/(((Z.map V.int).length:Int)+1)=n2 at q2
 generalize n1%(((Z.map V.int).length:Int)+1)=at' at y0 y1
 obtain ⟨q3,w0,w1⟩:=dmN (j:=9) q2 (by decide)
 refine ⟨_,rfl,n2,9,rfl,⟨by decide,by decide⟩,λp3 hp3=>⟨p3,_,rfl,SqT.of ah,rfl,_,_,rfl,_,_,rfl,rfl,?_⟩⟩
 have s3:=s2.trans (ae hp3 (.tup [.int (n2/9),.int (n2%9)]))
 generalize upd H2 p3 (.tup [.int (n2/9),.int (n2%9)])=H3 at s3
 generalize n2/9=n3 at q3
 generalize n2%9=ot at w0 w1
 refine ⟨_,rfl,_,rfl,_,rfl,p,_,rfl,s3 _ _ ep,λa1 H4 s4 e4 =>?_⟩
 obtain ⟨k,rfl⟩:∃k:Nat,at'=k:=⟨at'.toNat,by omega⟩
 rw[lz] at y1
 rw[eV _ (by rw[lz];omega), <- zg] at e4
 refine ⟨_,rfl,_,rfl,_,rfl,p,_,rfl,s4 _ _ (s3 _ _ ep),λa2 H5 s5 e5 =>?_⟩
 rw[ie _ (by rw[lz];omega), <- zx] at e5
 refine ⟨a1,a2,_,_,rfl,rfl,s5 _ _ e4,e5,by rw[vM,vM,wX,wN];exact eU (by omega),λtu H6 s6 e6 =>?_⟩
 rw[<- wb] at e6
 have lTZ:(Z.drop k++Z.take k).length=Z.length:=by rw[vQ,wX,wN];omega
 generalize Z.drop k++Z.take k=T at e6 lTZ
 have lT:T.length<=82:=by omega
 have s36:=s3.trans (s4.trans (s5.trans s6))
 have ltm:(T.map V.int).length=T.length:=vM _
 have fin:∀{z:Addr} {H':Hp} (Y:List Int),aB H6 H'->H' z=some (.tup (Y.map V.int))->Y.length<=100->Q (.ref z) H':=λY s e l=>q _ _ Y (s36.trans s) e l
 have cat:∀(a3:Addr) (H7:Hp) (Y3:List Int) (v:Int),aB H6 H7->H7 a3=some (.tup (Y3.map V.int))->Y3.length<=82->([V.int v].length<=vZ/\∀tq,H7 tq=none->∃a b xs ys,V.ref a3 = .ref a/\V.ref tq = .ref b/\upd H7 tq (.tup [.int v]) a=some (.tup xs)/\upd H7 tq (.tup [.int v]) b=some (.tup ys)/\xs.length+ys.length<=vZ/\∀p H',aB (upd H7 tq (.tup [.int v])) H'->H' p=some (.tup (xs++ys))->Q (.ref p) H'):=λa3 H7 Y3 v s7 e7 l7=>⟨by show 1<=vZ;decide,λtq htq=>by
  have g8:=ae htq (.tup [.int v])
  refine ⟨a3,tq,_,_,rfl,rfl,g8 _ _ e7,ah,by rw[vM];exact eU (by show _+1<=_;omega),λz H9 s9 e9 =>?_⟩
  rw[show Y3.map V.int++[V.int v]=(Y3++[v]).map V.int by rw[wb];rfl] at e9
  exact fin (Y3++[v]) (s7.trans (g8.trans s9)) e9 (by rw[vQ];show _+1<=_;omega)⟩
 obtain ⟨T1,eT1,lT1⟩:=jV T (some 1) none
 refine ⟨_,rfl,rfl,_,rfl,bX (λz =>?_) λz1 =>?_⟩
 ·refine ⟨_,rfl,tu,_,rfl,SqT.of e6,by rw[ltm];omega,λp6 hp6 =>?_⟩
  rw[<- AX]
  exact fin T.reverse (ae hp6 _) ah (by rw[xK];omega)
 refine ⟨_,rfl,rfl,_,rfl,bX (λz =>?_) λz2 =>?_⟩
 ·refine ⟨_,rfl,_,rfl,(-1),rfl,tu,_,rfl,e6,λa3 H7 s7 e7 =>?_⟩
  obtain ⟨T2,eT2,lT2⟩:=jV T none (some (-1))
  rw[eT2] at e7
  exact fin T2 s7 e7 (by omega)
 refine ⟨_,rfl,rfl,_,rfl,bX (λz =>?_) λz3 =>?_⟩
 ·refine ⟨_,rfl,1,rfl,tu,_,rfl,e6,λa3 H7 s7 e7 =>?_⟩
  rw[eT1] at e7
  exact ⟨_,rfl,_,_,rfl,rfl,cat a3 H7 T1 _ s7 e7 (by omega)⟩
 refine ⟨_,rfl,rfl,_,rfl,bX (λz =>?_) λz4 =>?_⟩
 ·refine ⟨_,rfl,_,rfl,1,rfl,tu,_,rfl,e6,λa3 H7 s7 e7 =>?_⟩
  rw[show cJ (T.map V.int) none (some 1)=(T.take 1).map V.int by unfold cJ HT.sIx;simp[zx]] at e7
  refine ⟨tu,a3,_,_,rfl,rfl,s7 _ _ e6,e7,by rw[vM,vM,wN];exact eU (by omega),λz H9 s9 e9 =>?_⟩
  rw[<- wb] at e9
  exact fin (T++T.take 1) (s7.trans s9) e9 (by rw[vQ,wN];omega)
 refine ⟨_,rfl,rfl,_,rfl,bX (λz =>?_) λz5 =>?_⟩
 ·exact ⟨_,rfl,_,rfl,cat tu H6 T _ (aB.refl _) e6 (by omega)⟩
 refine ⟨_,rfl,rfl,_,rfl,bX (λz =>?_) λz6 =>?_⟩
 ·refine ⟨_,rfl,1,rfl,tu,_,rfl,e6,λa3 H7 s7 e7 =>?_⟩
  rw[eT1] at e7
  exact ⟨_,_,rfl,rfl,⟨by decide,by decide,by decide⟩,_,_,rfl,rfl,_,rfl,_,_,rfl,rfl,cat a3 H7 T1 _ s7 e7 (by omega)⟩
 refine ⟨_,rfl,rfl,_,rfl,bX (λz =>?_) λz8=>cS ?_⟩
 ·refine ⟨_,rfl,(by show 0<=vZ;decide),λt0 ht0 =>?_⟩
  have g7:=ae ht0 (.tup [])
  have et0:upd H6 t0 (.tup []) t0=some (.tup (([]:List Int).map V.int)):=ah
  generalize upd H6 t0 (.tup [])=H7 at g7 et0
  refine ⟨p,t0,Z,[],rfl,rfl,SqT.of (g7 _ _ (s36 _ _ ep)),SqT.of et0,_,rfl,?_⟩
  have w8:wy=8:=by have:=of_decide_eq_true z;injection this
  by_cases zn:Z=[]
  ·rw[decide_eq_true zn]
   refine cS ⟨_,rfl,rfl,_,rfl,bX (λz=>absurd z (by rw[w8];decide)) λz7 =>?_⟩
   exact ⟨_,rfl,fin T g7 (g7 _ _ e6) (by omega)⟩
  rw[decide_eq_false zn]
  have h0:0<T.length:=by rw[lTZ];exact xZ.mpr zn
  refine cA ⟨_,rfl,1,rfl,tu,_,rfl,g7 _ _ e6,λa3 H8 s8 e8 =>?_⟩
  rw[eT1] at e8
  have a0:atI (T.map V.int) 0=some (.int (T[0]'h0)):=cz (j:=0) (by rw[wm,vU h0];rfl)
  exact ⟨_,rfl,tu,_,0,_,rfl,rfl,SqT.of (s8 _ _ (g7 _ _ e6)),a0,_,rfl,r,_,0,_,rfl,rfl,SqT.of (s8 _ _ (g7 _ _ (s36 _ _ e1))),rfl,_,_,rfl,rfl,cat a3 H8 T1 _ (g7.trans s8) e8 (by omega)⟩
 refine ⟨_,rfl,rfl,_,rfl,bX (λz =>?_) λz7=>⟨_,rfl,fin T (aB.refl _) e6 (by omega)⟩⟩
 refine ⟨_,rfl,1,rfl,tu,_,rfl,e6,λa3 H7 s7 e7 =>?_⟩
 rw[eT1] at e7
 exact ⟨_,_,rfl,rfl,⟨by decide,by decide,by decide⟩,_,_,rfl,rfl,_,_,rfl,rfl,_,rfl,_,_,rfl,rfl,cat a3 H7 T1 _ s7 e7 (by omega)⟩
end
open PySem L2
def kX (K:vV):Sp:=λvs H Q _=>∃(a:Addr) (ns:List Int),vs=[.ref a]/\SqL K H a (ns.map V.int)/\ns.length<=63/\∀H',Q (.bl true) H'
theorem jm {K:vV}{vs:List V}{H:Hp}{Q:VK}{E:XK}:kX K vs H Q E↔∃(a:Addr) (ns:List Int),vs=[.ref a]/\SqL K H a (ns.map V.int)/\ns.length<=63/\∀H',Q (.bl true) H':=As
theorem nz:∀{Z:List Int},Z≠[]->∃M∈Z,∀b∈Z,M<=b
 | [],h=>absurd rfl h
 | [a],_=>⟨a,wJ,λb hb=>Int.le_of_eq (show b=a by simpa using hb).symm⟩
 | a :: b :: t,_=>by
  obtain ⟨M,hM,mn⟩:=nz (Z:=b :: t) (by simp)
  by_cases c:a<=M
  ·exact ⟨a,wJ,λx hx=>by
    rcases wj.mp hx with z | z
    ·omega
    ·have:=mn x z;omega⟩
  ·exact ⟨M,wD _ hM,λx hx=>by
    rcases wj.mp hx with z | z
    ·omega
    ·exact mn x z⟩
section
variable  {P:wu}{w:w4}{K:vV}{mg:Str->Option vP}{base:Heap}{f T:Addr}{fd:x8}
theorem cx:bh ["script", "cell", "number", "way", "web", "ring", "told", "turned", "found"] ["script"] (aL kJ):=⟨rfl,rfl,rfl,by decide +kernel,rfl,by decide +kernel,by decide +kernel⟩
theorem vL (F:Fun K "law" "law" kJ f fd)(B:Blt mg)(cLTuple:Cal P w K mg base 3 "_law_tuple" ["web", "number"] gw)(cLSpoilt:Cal P w K mg base 1 "_law_spoilt" ["web", "ring", "number"] fG)(cIsRing:Cal P w K mg base 3 "is_ring" ["web", "ring"] fF)(cLCell:Cal P w K mg base 1 "_law_cell" ["script", "k"] (jM K))(cLDeal:Cal P w K mg base 1 "_law_deal" ["cell", "salt"] jN)(cLWide:Cal P w K mg base 1 "_law_wide" ["number"] fR)(cLDense:Cal P w K mg base 1 "_law_dense" ["number"] fR)(cLWeb:Cal P w K mg base 1 "_law_web" ["number", "most"] jO)(cLIsRing:Cal P w K mg base 2 "_law_is_ring" ["web", "ring"] nk)(cRingForm:Cal P w K mg base 1 "ring_form" ["ring"] jP)(cLForm:Cal P w K mg base 1 "_law_form" ["ring"] gq):cn P w K mg base CX0 4 f fd ["script"] (kX K):=by
 refine F.ok cx (λvs H Q E h =>?_) (λcdv A outer s H vs Q E hr h =>?_)
 ·obtain ⟨_,_,rfl,_⟩:=jm.mp h
  rfl
 obtain ⟨a,nn,rfl,hS,h63,q⟩:=jm.mp h
 have TA:∃t,PSs (j5 CX0 P w K mg base ["script", "cell", "number", "way", "web", "ring", "told", "turned", "found"] "law" (aL kJ) f cdv A outer s H E).nox ((su ((bI kJ).getD 0 (.Pass ⟨0,0,0,0⟩))).drop 2) t/\∀(D:Ends) (b:Addr) (m:Nat) (n:Int) (ts:List (Addr×List Int)) (H':Hp) (c1 c3 c5 c6 c7 c8:Option V),Wb H' b m ts->m<=40->0<=n->(∀σ' H'',(∃c1 c2 c3 c4 c5 c6 c7 c8,σ'=[some (.ref a),c1,c2,c3,c4,c5,c6,c7,c8])->aB H' H''->D.nx σ' H'')->t D [some (.ref a),c1,some (.int n),c3,some (.ref b),c5,c6,c7,c8] H':=by
  refine ⟨_,(@ai _ _ _ _ _ (@aR _ _ _ _ _ _ (bQ cLTuple hr (by decide) rfl (@aa _ _ _ _ _ (pv 4) (@aa _ _ _ _ _ (pv 2) ag rfl) rfl)) (aO rfl (aq (ak (i:=5) cx.nd rfl (Or.inl rfl)) (aq (ak (i:=2) cx.nd rfl (Or.inl rfl)) aK))) rfl rfl rfl)
   (@ai _ _ _ _ _ (@a9 _ _ 5 _ _ _ _ cx.nd rfl (Or.inl rfl) (bQ cLSpoilt hr (by decide) rfl (@aa _ _ _ _ _ (pv 4) (@aa _ _ _ _ _ (pv 5) (@aa _ _ _ _ _ (pv 2) ag rfl) rfl) rfl)) rfl (by first | exact .inl rfl | exact .inr rfl | assumption))
   (@ai _ _ _ _ _ (@a9 _ _ 6 _ _ _ _ cx.nd rfl (Or.inl rfl) (bQ cIsRing hr (by decide) rfl (@aa _ _ _ _ _ (pv 4) (@aa _ _ _ _ _ (pv 5) ag rfl) rfl)) rfl (by first | exact .inl rfl | exact .inr rfl | assumption))
   (@ai _ _ _ _ _ (@bp _ _ _ _ _ _ _ _ (PW.pt (iB (kZ (kY (ax fX rfl B.b_isinstance eF (@aa _ _ _ _ _ (pv 6) (@aa _ _ _ _ _ (ml (v :=.ty "bool") rfl B.b_bool sD rfl) ag rfl) rfl)))) (gy (aD o8 (pv 6) (bQ cLIsRing hr (by decide) rfl (@aa _ _ _ _ _ (pv 4) (@aa _ _ _ _ _ (pv 5) ag rfl) rfl)) (aI _))))) iC aN)
   (@ay _ _ _ (@bp _ _ _ _ _ _ _ _ (PW.pt (dh (aD gB (ax aH rfl B.b_len bL (@aa _ _ _ _ _ (pv 5) ag rfl)) aj (aI _)) (cM (aD bV (ax dM rfl B.b_len bL (@aa _ _ _ _ _ (aZ (eJ (w:=w) rfl hr.hd) rfl B.b_set l9 (@aa _ _ _ _ _ (pv 5) ag rfl)) ag rfl)) (ax aH rfl B.b_len bL (@aa _ _ _ _ _ (pv 5) ag rfl)) (aI _))))) (@ay _ _ _ (@bO _ _ _ _ _ _ _ _ wZ rfl (@dQ _ _ _ _ (@bZ _ _ _ _ (@aa _ _ _ _ _ (pv 5) (@aa _ _ _ _ _ (@aE _ _ _ _ _ _ _ _ bT (a7 bJ (pv 5) (bz aj) bF) (a7 bJ (pv 5) bF (bz aj))) (@aa _ _ _ _ _ (fO hr.hd rfl B.b_tuple rfl B.b_reversed (pv 5)) ag rfl) rfl) rfl))) (ak (i:=7) cx.nd rfl (Or.inl rfl))
     (@ai _ _ _ _ _ (@a9 _ _ 8 _ _ _ _ cx.nd rfl (Or.inl rfl) (bQ cRingForm hr (by decide) rfl (@aa _ _ _ _ _ (pv 7) ag rfl)) rfl (by first | exact .inl rfl | exact .inr rfl | assumption))
     (@ay _ _ _ (@bp _ _ _ _ _ _ _ _ (PW.pt (iB (kZ (kY (ax fX rfl B.b_isinstance eF (@aa _ _ _ _ _ (pv 8) (@aa _ _ _ _ _ (ml (v :=.ty "tuple") rfl B.b_tuple da rfl) ag rfl) rfl)))) (gy (aD (mY hr) (pv 8) (bQ cLForm hr (by decide) rfl (@aa _ _ _ _ _ (pv 5) ag rfl)) (aI _))))) iC aN))) (λ_=>rfl))) aN)))))),?_⟩
  intro D b m n ts H' c1 c3 c5 c6 c7 c8 W m40 n0 nx
  have O:=vI W
  refine ⟨_,rfl,_,rfl,dP.mpr ⟨b,m,n,ts,rfl,W,m40,n0,λp z n1 H1 Z0 s1 ep ez0 lZ0 n10=>⟨p,_,rfl,SqT.of ep,rfl,_,_,rfl,_,_,rfl,rfl,?_⟩⟩⟩
  refine ⟨_,rfl,_,rfl,_,rfl,dD.mpr ⟨b,z,m,n1,ts,Z0,rfl,W.same s1,ez0,lZ0,n10,λy H2 Z s2 ey lZ =>?_⟩⟩
  have W2:=(W.same s1).same s2
  have lz:(Z.map V.int).length=Z.length:=vM _
  refine ⟨_,rfl,_,rfl,dB.mpr ⟨b,y,m,ts,Z,rfl,W2,ey,by omega,λbo H3 s3 hb =>?_⟩⟩
  have W3:=W2.same s3
  refine ⟨_,rfl,.bl bo, "bool",_,true,rfl,.bl bo,rfl,_,rfl,cS ⟨_,rfl,_,rfl,_,rfl,fS.mpr ⟨b,y,m,ts,Z,rfl,W3,by omega,s3 _ _ ey,by omega,λbo2 H4 s4 hb2 =>?_⟩⟩⟩
  have eb:bo=bo2:=by
   have:=hb.trans ((sJ O Z).symm.trans hb2.symm)
   cases bo <;> cases bo2 <;> simp_all
  subst eb
  refine ⟨rfl,_,rfl,mF rfl ?_⟩
  have s24:=s3.trans s4
  have s14:=s1.trans (s2.trans s24)
  have ey4:=s24 _ _ ey
  refine ⟨_,rfl,y,_,rfl,.inr (SqT.of ey4),_,_,rfl,rfl,_,rfl,bX (λz =>?_) λz=>cS (nx _ _ ⟨_,_,_,_,_,_,_,_,rfl⟩ s14)⟩
  rw[lz] at z
  have zn:Z≠[]:=λh=>by
   have:=of_decide_eq_true z
   rw[h] at this
   exact absurd this (by decide)
  refine ⟨_,rfl,y,Z,rfl,.inr (SqT.of ey4),by omega,λsa us ha mu nu lu =>?_⟩
  have ga:=ae ha (gh w sa (us.map V.int))
  have sl:=jT nu mu
  refine ⟨sa,us.map V.int,rfl,ah,by rw[vM];omega,?_⟩
  generalize upd H4 sa (gh w sa (us.map V.int))=H5 at ga
  have s15:=s14.trans ga
  have ey5:=ga _ _ ey4
  refine ⟨_,rfl,y,_,rfl,.inr (SqT.of ey5),rfl,_,rfl,?_⟩
  rw[lz,vM]
  by_cases nd:Z.Nodup
  case neg =>
   rw[decide_eq_false (by rw[d9,sl];exact nd)]
   exact cS (nx _ _ ⟨_,_,_,_,_,_,_,_,rfl⟩ s15)
  rw[decide_eq_true (d9.mpr (sl.mpr nd))]
  obtain ⟨M,hM,mn⟩:=nz zn
  refine cA ⟨_,rfl,_,rfl,1,rfl,y,_,rfl,ey5,λa1 H6 s6 e6 =>?_⟩
  have lp:=xZ.mpr zn
  rw[show cJ (Z.map V.int) (some 1) none=(Z.drop 1).map V.int from (eV (k:=1) _ (by rw[lz];omega)).trans (zg).symm] at e6
  refine ⟨_,rfl,1,rfl,y,_,rfl,s6 _ _ ey5,λa2 H7 s7 e7 =>?_⟩
  rw[show cJ (Z.map V.int) none (some 1)=(Z.take 1).map V.int from (ie (k:=1) _ (by rw[lz];omega)).trans (zx).symm] at e7
  refine ⟨a1,a2,_,_,rfl,rfl,s7 _ _ e6,e7,by rw[vM,vM,wX,wN];exact eU (by omega),λy2 H8 s8 e8 =>?_⟩
  rw[<- wb] at e8
  have ey8:=s8 _ _ (s7 _ _ (s6 _ _ ey5))
  refine ⟨_,rfl,y,_,rfl,SqT.of ey8,by rw[lz];omega,λy3 hy3 =>?_⟩
  rw[<- AX]
  have g9:=ae hy3 (.tup (Z.reverse.map V.int))
  have e9:upd H8 y3 (.tup (Z.reverse.map V.int)) y3=some (.tup (Z.reverse.map V.int)):=ah
  generalize upd H8 y3 (.tup (Z.reverse.map V.int))=H9 at g9 e9
  refine ⟨(by show 3<=vZ;decide),λls hls =>?_⟩
  have g10:=ae hls (.lst [.ref y,.ref y2,.ref y3])
  have els:upd H9 ls (.lst [.ref y,.ref y2,.ref y3]) ls=some (.lst [.ref y,.ref y2,.ref y3]):=ah
  have t1:=g10 _ _ (g9 _ _ ey8)
  have t2:=g10 _ _ (g9 _ _ e8)
  have t3:=g10 _ _ e9
  have s110:=s15.trans (s6.trans (s7.trans (s8.trans (g9.trans g10))))
  generalize upd H9 ls (.lst [.ref y,.ref y2,.ref y3])=H10 at els t1 t2 t3 s110
  refine ⟨ls,rfl,⟨_,SqL.of els⟩,j4 (xs:=[.ref y,.ref y2,.ref y3]) (λi σ H'=>(∃c1 c2 c3 c4 c6 c7 c8,σ=[some (.ref a),c1,c2,c3,c4,some (.ref y),c6,c7,c8])/\aB H10 H') ⟨⟨_,_,_,_,_,_,_,rfl⟩,aB.refl _⟩ (λi σ H' _ z=>SqL.of (z.2 _ _ els)) ?_ ?_⟩
  ·rintro i x σ H11 hx ⟨⟨c1,c2,c3,c4,c6,c7,c8,rfl⟩,s11⟩
   obtain ⟨yy,Y,rfl,eyy,lY,ne,mem,eq⟩:∃(yy:Addr) (Y:List Int),x = .ref yy/\H10 yy=some (.tup (Y.map V.int))/\Y.length<=500/\Y≠[]/\(∀v,v∈Y↔v∈Z)/\frm Y M=frm Z M:=by
    have hh:=we hx
    have:x = .ref y\/x = .ref y2\/x = .ref y3:=by simpa using hh
    rcases this with h | h | h
    ·exact ⟨y,Z,h,t1,by omega,zn,λv=>As,rfl⟩
    ·refine ⟨y2,_,h,t2,by rw[vQ,wX,wN];omega,λh =>?_,λv =>?_,sL nd hM⟩
     ·have:=congrArg List.length h
      rw[vQ,wX,wN] at this
      rw[yT] at this
      omega
     ·rw[vY,or_comm, <- vY,xX]
    ·exact ⟨y3,_,h,t3,by rw[xK];omega,by simpa using zn,λv=>List.mem_reverse,sM nd hM⟩
   refine ⟨_,rfl,eX.mpr ⟨yy,Y,rfl,s11 _ _ eyy,ne,lY,λz1 H12 M2 s12 hM2 mn2 e12 =>?_⟩⟩
   have:M2=M:=by
    have a:=mn2 M ((mem M).mpr hM)
    have b:=mn M2 ((mem M2).mp hM2)
    omega
   rw[this,eq] at e12
   refine ⟨_,rfl,.ref z1, "tuple",_,true,rfl,.tup e12,rfl,_,rfl,cS ⟨_,rfl,_,rfl,dO.mpr ⟨y,Z,M,rfl,s12 _ _ (s11 _ _ t1),nd,hM,mn,by omega,λz2 H13 s13 e13=>⟨z1,z2,_,_,rfl,rfl,SqT.of (s13 _ _ e12),SqT.of e13,_,rfl,mF rfl ⟨⟨_,_,_,_,_,_,_,rfl⟩,s11.trans (s12.trans s13)⟩⟩⟩⟩⟩
  ·rintro σ H11 ⟨⟨c1,c2,c3,c4,c6,c7,c8,rfl⟩,s11⟩
   exact nx _ _ ⟨_,_,_,_,_,_,_,_,rfl⟩ (s110.trans s11)
 obtain ⟨tA,pA,gA⟩:=TA
 refine ⟨_,(@ai _ _ _ _ _ (@bO _ _ _ _ _ _ _ _ wZ rfl (@dQ _ _ _ _ (@aE _ _ _ _ _ _ _ _ jz (@bZ _ _ _ _ (@aa _ _ _ _ _ (bQ cLCell hr (by decide) rfl (@aa _ _ _ _ _ (pv 0) (@aa _ _ _ _ _ aj ag rfl) rfl)) ag rfl)) (a7 mE (pv 0) (bz aj) (bz aj)))) (ak (i:=1) cx.nd rfl (Or.inl rfl))
   (@ai _ _ _ _ _ (@aR _ _ _ _ _ _ (ax az rfl B.b_divmod aG (@aa _ _ _ _ _ (bQ cLDeal hr (by decide) rfl (@aa _ _ _ _ _ (pv 1) (@aa _ _ _ _ _ aj ag rfl) rfl)) (@aa _ _ _ _ _ aj ag rfl) rfl)) (aO rfl (aq (ak (i:=2) cx.nd rfl (Or.inl rfl)) (aq (ak (i:=3) cx.nd rfl (Or.inl rfl)) aK))) rfl rfl rfl)
   (@ai _ _ _ _ _ (@bp _ _ _ _ _ _ _ _ (aD bV (pv 3) aj (aI _)) (@ay _ _ _ (@aR _ _ _ _ _ _ (bQ cLWide hr (by decide) rfl (@aa _ _ _ _ _ (pv 2) ag rfl)) (aO rfl (aq (ak (i:=4) cx.nd rfl (Or.inl rfl)) (aq (ak (i:=2) cx.nd rfl (Or.inl rfl)) aK))) rfl rfl rfl)) (@ay _ _ _ (@bp _ _ _ _ _ _ _ _ (PW.pt (dh (aD bV (pv 3) aj (aI _)) (cM (aD bV (@aE _ _ _ _ _ _ _ _ dj (pv 2) aj) aj (aI _))))) (@ay _ _ _ (@aR _ _ _ _ _ _ (bQ cLDense hr (by decide) rfl (@aa _ _ _ _ _ (@aE _ _ _ _ _ _ _ _ mw (pv 2) aj) ag rfl)) (aO rfl (aq (ak (i:=4) cx.nd rfl (Or.inl rfl)) (aq (ak (i:=2) cx.nd rfl (Or.inl rfl)) aK))) rfl rfl rfl)) (@ay _ _ _ (@aR _ _ _ _ _ _ (bQ cLWeb hr (by decide) rfl (@aa _ _ _ _ _ (pv 2) (@aa _ _ _ _ _ aj ag rfl) rfl)) (aO rfl (aq (ak (i:=4) cx.nd rfl (Or.inl rfl)) (aq (ak (i:=2) cx.nd rfl (Or.inl rfl)) aK))) rfl rfl rfl)))))
   pA)) (λ_=>rfl))
  (@ay _ _ _ (@aP _ _ _ _ gx))),?_⟩
 refine ⟨_,rfl,eO.mpr ⟨a,nn,0,rfl,hS,by decide,λc0=>⟨(by show 1<=vZ;decide),λl0 hl0 =>?_⟩⟩⟩
 have g2:=ae hl0 (.lst [.int c0])
 have el0:upd H l0 (.lst [.int c0]) l0=some (.lst [.int c0]):=ah
 generalize upd H l0 (.lst [.int c0])=H2 at g2 el0
 refine ⟨_,rfl,1,rfl,21,rfl,a,_,rfl,g2.seq hS,λl2 hl2 =>?_⟩
 obtain ⟨cs,ecs,lcs⟩:=jV nn (some 1) (some 21)
 rw[ecs]
 have g4:=ae hl2 (.lst (cs.map V.int))
 have el2:upd H2 l2 (.lst (cs.map V.int)) l2=some (.lst (cs.map V.int)):=ah
 generalize upd H2 l2 (.lst (cs.map V.int))=H4 at g4 el2
 refine ⟨l0,l2,_,_,rfl,rfl,SqL.of (g4 _ _ el0),SqL.of el2,by rw[vM];exact small (by show 1+_<=_;omega),λS hS =>?_⟩
 rw[show ([V.int c0]++cs.map V.int:List V)=(c0 :: cs).map V.int from rfl]
 have eS:upd H4 S (.lst ((c0 :: cs).map V.int)) S=some (.lst ((c0 :: cs).map V.int)):=ah
 generalize upd H4 S (.lst ((c0 :: cs).map V.int))=H5 at eS
 refine ⟨S,rfl,⟨_,SqL.of eS⟩,j4 (xs:=(c0 :: cs).map V.int) (λi σ H'=>(∃c1 c2 c3 c4 c5 c6 c7 c8,σ=[some (.ref a),c1,c2,c3,c4,c5,c6,c7,c8])/\aB H5 H') ⟨⟨_,_,_,_,_,_,_,_,rfl⟩,aB.refl _⟩ (λi σ H' _ z=>SqL.of (z.2 _ _ eS)) ?_ (λσ H' _=>q _)⟩
 rintro i x σ H6 hx ⟨⟨c1,c2,c3,c4,c5,c6,c7,c8,rfl⟩,s6⟩
 obtain ⟨cell,ec,rfl⟩:=qN hx
 refine ⟨_,rfl,eQ.mpr ⟨cell,1,rfl,by decide,by decide,λn n0 =>?_⟩⟩
 obtain ⟨q1,x1,y1⟩:=dmN (j:=6) n0 (by decide)
 refine ⟨n,6,rfl,⟨by decide,by decide⟩,λp hp=>⟨p,_,rfl,SqT.of ah,rfl,_,_,rfl,_,_,rfl,rfl,?_⟩⟩
 have s7:=s6.trans (ae hp (.tup [.int (n/6),.int (n%6)]))
 generalize upd H6 p (.tup [.int (n/6),.int (n%6)])=H7 at s7
 generalize n/6=n1 at q1
 generalize n%6=v1 at x1 y1
 refine ⟨_,rfl,rfl,_,rfl,bX (λz =>?_) λz =>?_⟩
 ·refine ⟨_,rfl,cq.mpr ⟨n1,rfl,q1,λp b n' mI ts H8 s8 ep W mI0 m40 n'0 =>?_⟩⟩
  obtain ⟨m,rfl⟩:∃m:Nat,mI=m:=⟨mI.toNat,by omega⟩
  exact ⟨p,_,rfl,SqT.of ep,rfl,_,_,rfl,_,_,rfl,rfl,gA _ b m n' ts H8 _ _ _ _ _ _ W (by omega) n'0 λσ' H9 hσ s9=>⟨hσ,s7.trans (s8.trans s9)⟩⟩
 refine ⟨_,rfl,rfl,_,rfl,bX (λz =>?_) λz =>?_⟩
 ·refine ⟨_,rfl,_,_,rfl,rfl,(by show (0:Int)<4;decide),rfl,_,rfl,bX (λz =>?_) λz =>?_⟩
  ·refine ⟨_,rfl,_,_,rfl,rfl,⟨by decide,by decide⟩,cq.mpr ⟨n1/4,rfl,Ci q1 (by decide),λp b n' mI ts H8 s8 ep W mI0 m40 n'0 =>?_⟩⟩
   obtain ⟨m,rfl⟩:∃m:Nat,mI=m:=⟨mI.toNat,by omega⟩
   exact ⟨p,_,rfl,SqT.of ep,rfl,_,_,rfl,_,_,rfl,rfl,gA _ b m n' ts H8 _ _ _ _ _ _ W (by omega) n'0 λσ' H9 hσ s9=>⟨hσ,s7.trans (s8.trans s9)⟩⟩
  ·refine ⟨_,rfl,dz.mpr ⟨n1,6,rfl,q1,by decide,by decide,λp b n' mI ts H8 s8 ep W mI0 m40 n'0 =>?_⟩⟩
   obtain ⟨m,rfl⟩:∃m:Nat,mI=m:=⟨mI.toNat,by omega⟩
   exact ⟨p,_,rfl,SqT.of ep,rfl,_,_,rfl,_,_,rfl,rfl,gA _ b m n' ts H8 _ _ _ _ _ _ W (by omega) n'0 λσ' H9 hσ s9=>⟨hσ,s7.trans (s8.trans s9)⟩⟩
 ·refine cS ⟨_,rfl,dz.mpr ⟨n1,6,rfl,q1,by decide,by decide,λp b n' mI ts H8 s8 ep W mI0 m40 n'0 =>?_⟩⟩
  obtain ⟨m,rfl⟩:∃m:Nat,mI=m:=⟨mI.toNat,by omega⟩
  exact ⟨p,_,rfl,SqT.of ep,rfl,_,_,rfl,_,_,rfl,rfl,gA _ b m n' ts H8 _ _ _ _ _ _ W (by omega) n'0 λσ' H9 hσ s9=>⟨hσ,s7.trans (s8.trans s9)⟩⟩
end
open PySem L2
theorem all_mk {l:PySem.W.OpenLaw}{w:w4}{K:vV}{h:Heap}{mg:Str->Option vP}{fa:Addr}(X:K.In h)(G:h.Ns w5 mg)(hfa:mg "law" = some (.ref fa))
  (h1:cK K "tie_of" qB) (h2:cK K "tied_times" hX) (h3:cK K "is_ring" jK) (h4:cK K "ring_form" fP) (h5:cK K "_law_cell" qC) (h6:cK K "_law_deal" qD) (h7:cK K "_law_web" tD) (h8:cK K "_law_wide" qE) (h9:cK K "_law_dense" m7) (h10:cK K "_law_times" jL) (h11:cK K "_law_is_ring" ia) (h12:cK K "_law_form" l6) (h13:cK K "_law_rings" gp) (h14:cK K "_law_walk" l8) (h15:cK K "_law_tuple" fE) (h16:cK K "_law_spoilt" ib) (h17:cK K "law" kJ)
  (y_all:xU K w5 "all" = some none) (y_bool:xU K w5 "bool" = some none) (y_divmod:xU K w5 "divmod" = some none) (y_enumerate:xU K w5 "enumerate" = some none) (y_int:xU K w5 "int" = some none) (y_isinstance:xU K w5 "isinstance" = some none) (y_len:xU K w5 "len" = some none) (y_list:xU K w5 "list" = some none) (y_max:xU K w5 "max" = some none) (y_min:xU K w5 "min" = some none) (y_range:xU K w5 "range" = some none) (y_reversed:xU K w5 "reversed" = some none) (y_set:xU K w5 "set" = some none) (y_sorted:xU K w5 "sorted" = some none) (y_tuple:xU K w5 "tuple" = some none)
  : ∃fd:x8,(∀(s:vR) (v:vP),BindsTo s fd ⟨[v],[]⟩ [("script",v)])/\∀base:Heap,K.In base->base.Ns w5 mg->cn l.prog w K mg base CX0 4 fa fd ["script"] (kX K):=by
 obtain ⟨fl,od,an,sl,oc,kV,dc,pm,cd,ct,al,ll,cl,kl⟩:=h17
 have e:=hfa.symm.trans (D3 X G al)
 cases e
 have F17:=pD ll cl kl
 have z_all:=xf X G y_all
 have z_bool:=xf X G y_bool
 have z_divmod:=xf X G y_divmod
 have z_enumerate:=xf X G y_enumerate
 have z_int:=xf X G y_int
 have z_isinstance:=xf X G y_isinstance
 have z_len:=xf X G y_len
 have z_list:=xf X G y_list
 have z_max:=xf X G y_max
 have z_min:=xf X G y_min
 have z_range:=xf X G y_range
 have z_reversed:=xf X G y_reversed
 have z_set:=xf X G y_set
 have z_sorted:=xf X G y_sorted
 have z_tuple:=xf X G y_tuple
 refine ⟨PySem.W.fnOf "law" "law" (cN kJ) (bI kJ) (aL kJ) .none kV dc pm an cd ct,λs v =>.of_eq rfl,λbase kb nb =>?_⟩
 have B:Blt mg:=⟨z_all,z_bool,z_divmod,z_enumerate,z_int,z_isinstance,z_len,z_list,z_max,z_min,z_range,z_reversed,z_set,z_sorted,z_tuple⟩
 have cLTimes:=h10.cal l.prog w base X G (λF=>qS F B) λ_ _ _ _ _ _ us hl=>match us,hl with | [_,_,_],_=>rfl
 have cLWalk:=h14.cal l.prog w base X G (λF=>sT F B cLTimes) λ_ _ _ _ _ _ us hl=>match us,hl with | [_,_],_=>rfl
 have cLRings:=h13.cal l.prog w base X G (λF=>qZ F B) λ_ _ _ _ _ _ us hl=>match us,hl with | [_,_],_=>rfl
 have cLTuple:=h15.cal l.prog w base X G (λF=>ra F B cLWalk cLRings) λ_ _ _ _ _ _ us hl=>match us,hl with | [_,_],_=>rfl
 have cLSpoilt:=h16.cal l.prog w base X G (λF=>oS F B) λ_ _ _ _ _ _ us hl=>match us,hl with | [_,_,_],_=>rfl
 have cTieOf:=h1.cal l.prog w base X G (λF=>vH F z_max z_min) λ_ _ _ _ _ _ us hl=>match us,hl with | [_,_],_=>rfl
 have cTiedTimes:=h2.cal l.prog w base X G (λF=>sI F cTieOf) λ_ _ _ _ _ _ us hl=>match us,hl with | [_,_,_],_=>rfl
 have cIsRing:=h3.cal l.prog w base X G (λF=>qQ F B cTiedTimes) λ_ _ _ _ _ _ us hl=>match us,hl with | [_,_],_=>rfl
 have cLCell:=h5.cal l.prog w base X G (λF=>uP F B) λ_ _ _ _ _ _ us hl=>match us,hl with | [_,_],_=>rfl
 have cLDeal:=h6.cal l.prog w base X G (λF=>uQ F B) λ_ _ _ _ _ _ us hl=>match us,hl with | [_,_],_=>rfl
 have cLWide:=h8.cal l.prog w base X G (λF=>uU F B) λ_ _ _ _ _ _ us hl=>match us,hl with | [_],_=>rfl
 have cLDense:=h9.cal l.prog w base X G (λF=>sE F B) λ_ _ _ _ _ _ us hl=>match us,hl with | [_],_=>rfl
 have cLWeb:=h7.cal l.prog w base X G (λF=>uT F B) λ_ _ _ _ _ _ us hl=>match us,hl with | [_,_],_=>rfl
 have cLIsRing:=h11.cal l.prog w base X G (λF=>oQ F B cLTimes) λ_ _ _ _ _ _ us hl=>match us,hl with | [_,_],_=>rfl
 have cRingForm:=h4.cal l.prog w base X G (λF=>mh F B) λ_ _ _ _ _ _ us hl=>match us,hl with | [_],_=>rfl
 have cLForm:=h12.cal l.prog w base X G (λF=>sQ F B) λ_ _ _ _ _ _ us hl=>match us,hl with | [_],_=>rfl
 exact vL F17 B cLTuple cLSpoilt cIsRing cLCell cLDeal cLWide cLDense cLWeb cLIsRing cRingForm cLForm
theorem walk {l:PySem.W.OpenLaw}{q:wu}{loose:List Str}{XP:(Str->Option vP)->Heap->Prop}{YP:w4->Heap->Prop}{d:DefRec}{K:Params->vV}(hn:l.most=some 63)(hdf:d.params.defaults=[])
  (hY:∀(w:w4) (h:Heap),YP w h->(K w.params).In h)
  (F:∀(w:w4) (mg:Str->Option vP) (fa:Addr) (h:Heap),(K w.params).In h->h.Ns w5 mg->mg d.name=some (.ref fa) →
   ∃fd:x8,(∀(s:vR) (u:vP),BindsTo s fd ⟨[u],[]⟩ [("script",u)])/\∀base:Heap,(K w.params).In base->base.Ns w5 mg->cn l.prog w (K w.params) mg base CX0 4 fa fd ["script"] (kX (K w.params))) :
  PySem.W.WalkO q loose XP YP l.row.toRowW d [] (λf vs=>PySem.call f vs) :=
 L2.rJ (n:=63) (k:=4) (x := "script") (CX:=λ_=>CX0) (sp:=λw=>kX (K w.params)) hn (by decide) hdf ⟨rfl,by decide,by decide⟩ hY F (λ_ _ a ns hl _ hS=>⟨a,ns,rfl,hS,hl,λ_=>rfl⟩) λ_ _ _ _ _ z=>z
end K07
def PySem.W.Fast.tw5603146893841186287:Nat:=0
def PySem.W.Fast.tw2857477087248222932:Nat:=0
def PySem.W.Fast.tw3157715799747070870:Nat:=0
def PySem.W.Fast.tw1628635102030396186:Nat:=0
def PySem.W.Fast.tw7174665498403141826:Nat:=0
def PySem.W.Fast.tw8923553576906194047:Nat:=0
def PySem.W.Fast.tw6052015726953296275:Nat:=0
def PySem.W.Fast.tw7399188872423931375:Nat:=0
def PySem.W.Fast.tw9159338382522751832:Nat:=0
def PySem.W.Fast.tw9737582917913651873:Nat:=0
def PySem.W.Fast.tw1684544560065106508:Nat:=0
def PySem.W.Fast.tw9443468536245564043:Nat:=0
def PySem.W.Fast.tw16062747726420118634:Nat:=0
def PySem.W.Fast.tw5474596050431316832:Nat:=0
def PySem.W.Fast.tw13414349109434523938:Nat:=0
def PySem.W.Fast.tw11594488682731442383:Nat:=0
def PySem.W.Fast.tw17667588469765404534:Nat:=0
def PySem.W.Fast.tw7669984062361118789:Nat:=0
def PySem.W.Fast.tw7780477774085623596:Nat:=0
def PySem.W.Fast.tw9520702783989922348:Nat:=0
def PySem.W.Fast.tw12055754031659506165:Nat:=0
def PySem.W.Fast.tw1416397916452543774:Nat:=0
def PySem.W.Fast.tw3581761031353033415:Nat:=0
def PySem.W.Fast.tw10978469281068240679:Nat:=0
def PySem.W.Fast.tw11288383360255926840:Nat:=0
def PySem.W.Fast.tw10696527715734509308:Nat:=0
def PySem.W.Fast.tw11248171907422241722:Nat:=0
def PySem.W.Fast.tw12910905318861976023:Nat:=0
def PySem.W.Fast.tw14152551491220216379:Nat:=0
def PySem.W.Fast.tw16307325501242763909:Nat:=0
def PySem.W.Fast.tw6142690012249853921:Nat:=0
def PySem.W.Fast.tw3300120843584843690:Nat:=0
def PySem.W.Fast.tw15715695275087861482:Nat:=0
def PySem.W.Fast.tw8574609860673624560:Nat:=0
def PySem.W.Fast.tw17298168375141193175:Nat:=0
def PySem.W.Fast.tw4537843706246082470:Nat:=0
def PySem.W.Fast.tw12294287892501596092:Nat:=0
def PySem.W.Fast.tw3652511814676198185:Nat:=0
def PySem.W.Fast.tw11109435566122545716:Nat:=0
def PySem.W.Fast.tw5715161386426099333:Nat:=0
def PySem.W.Fast.tw8943450748642981259:Nat:=0
def PySem.W.Fast.tw2959840579289358462:Nat:=0
def PySem.W.Fast.tw16840891223749652590:Nat:=0
def PySem.W.Fast.tw10504595273763850962:Nat:=0
def PySem.W.Fast.tw11162165846565695708:Nat:=0
def PySem.W.Fast.tw16040529217696934406:Nat:=0
def PySem.W.Fast.tw14614545060405393261:Nat:=0
def PySem.W.Fast.tw5126997990154373531:Nat:=0
def PySem.W.Fast.tw3376195706446891879:Nat:=0
def PySem.W.Fast.tw12949224670367986082:Nat:=0
def PySem.W.Fast.tw6648749102674681633:Nat:=0
def PySem.W.Fast.tw18269311013688490218:Nat:=0
def PySem.W.Fast.tw11008244913584608335:Nat:=0
def PySem.W.Fast.tw9878330339273975652:Nat:=0
def PySem.W.Fast.tw5736151871533089044:Nat:=0
def PySem.W.Fast.tw7223737520627473234:Nat:=0
def PySem.W.Fast.tw18439995438791948943:Nat:=0
def PySem.W.Fast.tw17996715086221132129:Nat:=0
def PySem.W.Fast.tw12915382692725067470:Nat:=0
def PySem.W.Fast.tw11615378259980524519:Nat:=0
def PySem.W.Fast.tw3573543602639149134:Nat:=0
def PySem.W.Fast.tw11705994764302897598:Nat:=0
def PySem.W.Fast.tw12877177900736240653:Nat:=0
def PySem.W.Fast.tw17508543135604677063:Nat:=0
def PySem.W.Fast.tw8210883708897059776:Nat:=0
def PySem.W.Fast.tw4346531893037496339:Nat:=0
def PySem.W.Fast.tw18256788193105476063:Nat:=0
def PySem.W.Fast.tw3530351992296771693:Nat:=0
open PySem PySem.W PyProof.Rows
set_option maxRecDepth 100000 in
set_option maxHeartbeats 0 in
theorem PySem.Challenge.cw_ringfell_k07_rings_judged_holds : PySem.Challenge.rw_ringfell_k07_rings_judged.Holds := by
 w_on;o_law;k_head;(case hw=>w_witness2)
 k_fill
 refine K07.walk (l:=PySem.Challenge.rw_ringfell_k07_rings_judged) rfl rfl (λw h Y=>PySem.W.kIn_of Y) ?F
 case F =>
  intro w mg fa h KX G hmg
  refine' K07.all_mk KX G hmg ?_ ?_ ?_ ?_ ?_ ?_ ?_ ?_ ?_ ?_ ?_ ?_ ?_ ?_ ?_ ?_ ?_ ?_ ?_ ?_ ?_ ?_ ?_ ?_ ?_ ?_ ?_ ?_ ?_ ?_ ?_ ?_
  all_goals first | k_is | (refine' L2.cK.mk ?a ?l ?c ?k;(case a=>k_is);(case l=>k_is);(case c=>k_is);(case k=>k_is))
