import PyProof.Rows.All
import Wide.All
import OpenK.AllK
import Wide.FinOn
import Lean
import PyProof.EqAt
import PyProof.EqKinds
import PyProof.TupleCall
import KE.KRevIter
import PyProof.FString
import PyProof.StrCalls2
import PySem.Challenge.RW_ringfell_k55_oneway_webs_made
open PySem.W renaming Frag → Ab,nsIn → A4,mg_none_of → Bi,mg_of → Br,kia_one → BW,looks_findIn → C0,hideAll_get → Dm,kitx_list → DQ,kitx_dict → DR,callWith_K → Ex,cellsFrom_some → Fp,kat_nil → FF,looks_subIn → Gj,kitx_float → Gq,kitx_tuple → Gr,kitx_none → GK,kitx_bool → GL,tail_of_in → GY,kitx_int → Hd,kitx_str → He
open List renaming length_map → Ac,size_toArray → Aj,getElem?_eq_some_iff → Al,length_append → Am,map_append → Ap,getElem?_eq_getElem → Aw,mem_append → Ax,take_of_length_le → AA,mem_singleton → AB,mem_map → AG,mem_cons → AH,mem_of_getElem? → AJ,mem_cons_of_mem → AM,getElem?_map → AO,mem_filter → AS,mem_cons_self → AU,map_cons → AV,mem_append_right → AY,append_nil → AZ,mem_iff_getElem? → A3,append_assoc → A9,length_cons → Ba,take_add_one → Bc,length_take → Bg,getElem?_toArray → Bk,pairwise_map → Bm,mem_range → Bp,extract_eq_take_drop → Bq,drop_sublist → Bs,length_singleton → Bw,mem_map_of_mem → BA,take_sublist → BE,pairwise_append → BI,getElem?_take → BK,range → BL,filterMap_cons → BM,getD_eq_getElem?_getD → BS,filter_cons_of_pos → B2,filter_cons_of_neg → B3,length_drop → B8,not_mem_nil → B9,getElem?_append_right → Cb,perm_ext_iff_of_nodup → Cd,getElem?_append_left → Cf,take_append_drop → Ci,filter_append → Cm,all_eq_true → Cn,mem_append_left → Cp,mem_of_mem_take → Cq,pairwise_singleton → Cs,getElem_mem → CJ,pairwise_cons → CK,getElem?_eq_none_iff → CQ,mem_of_mem_drop → CT,nodup_cons → CV,getElem?_cons_succ → C4,getElem?_set_self → C6,mem_filterMap → C8,getElem?_drop → Dc,perm_append_comm → Dh,length_nil → Dj,find?_cons → Dk,any_cons → Dp,pairwise_iff_getElem → Du,lookup_cons → Dx,reverse_append → DA,length_range → DS,nodup_nil → DX,replicate → DZ,getElem?_eq_none → D2,drop_append_of_le_length → D5,take_append_of_le_length → D6,getElem?_set_ne → Eb,nil_append → Em,set_set → Ey,getElem?_zip_eq_some → EF,take_zero → EG,drop_left → EH,flatten_cons → ET,ext_getElem? → EU,find?_range_eq_none → EV,nodup_append → E1,eraseIdx_cons_succ → E8,length_eq_zero_iff → E9,drop_eq_nil_of_le → Ft,pairwise_lt_range → Fu,of_mem_zip → FA,map_map → FH,filter_map → FI,reverse_reverse → FT,drop_zero → FW,length_pos_iff → F4,zip_cons_cons → Gw,map_inj_right → GA,getElem?_inj → GV,map_nil → GZ,perm_middle → Hg,nodup_range → Hi,length_set → Hl,foldl_cons → Hn,length_zip → Ho,drop_drop → HH,take_succ → HI,all_cons → Ic,map_take → Ig
open PySem.Heap renaming get?_push_of_some → Ad,lt_size → Ar,get?_push_size → Av,get?_update_self → Bj,get?_update_other → Bl,size_push → CP,get?_update_ne → C3,get?_none_of_le → Dt,get?_push_at → EZ
open PySem renaming Value → Ae,wpAny_bind → Af,Shared → Ag,sizeLine → Ai,wpAny_pure → An,Program → Au,wpAny → AL,model → AQ,mainGlobals → AR,World → AX,Around → A7,wpAny_loadPart_at → Bd,FuncData → Be,starEach → Bf,compareOp → Bo,wpAny_mono → Bt,codeAny_builtin → Bv,bootBuiltins → Bz,wpAny_call_entry → BC,wpAny_truthy_bool → BG,wpAny_holding → B4,wpAny_callSpecial?_slot → B5,codeAny_call_builtin → B6,wpAny_newObj_type → Cv,mem_of_lookup → Cz,wpAny_pyIter_tuple → CM,codeAny_mono → CN,wpAny_Call_Name_kw → Dd,plainId_quiet → Ds,wpAny_execs_nil → DK,wpAny_passesOwn → DL,intItems → DM,backTo → DP,wpAny_pyIter_list → DT,wpAny_pyIter_slot → DU,wpAny_rule → DV,isSubtype_type → DY,wpAny_isInstance → D8,wpAny_standAt → Eg,wpAny_attempt → Eh,wpAny_call → Ei,codeAny_of_tree → Eo,wpAny_letOwnedTupleGo_enum → Eu,wpAny_typeOf → EC,wpAny_setField_rec → ED,rawInt → EE,wpAny_seqItems → EL,wpAny_runValue → EM,codeAny → EN,sizeLine_eq → Fd,wpAny_field → Fe,wpAny_newList → Fh,wpAny_execs_cons → Fl,noFill_tuple_add → Fm,wpAny_forIn_list → Fn,wpAny_askSetting → Fo,wpAny_pyNext_range_end → Fx,wpAny_pyIter_rangeiter → Fy,wpAny_isTrue_Compare1 → FJ,concat_meets → FK,wpAny_eqIsQuiet_tuple → FL,weight_type_call_type → FN,builtinLookup_eq_fast → FO,wpAny_updateSeq → FP,wpAny_setField → FX,isSubtype_stop → FY,wpAny_setEntries_of → F8,wpAny_raiseNew_none → Gi,holding → Gm,wpAny_pyIter_range → GF,seq_tuple_add → GG,wpAny_eqBool_tuple → GH,tupleKind_room_in1 → GI,wpAny_Assign_Name → GW,call_meets → GX,seqIndex_neg → Hb,seqIndex_of → Hx,wpAny_of_eq → Hy,wpAny_Name → HU,wpAny_load → H9
open Nat renaming le_refl → Ah,lt_of_lt_of_le → Ay,ne_of_lt → AI,zero_le → A5,le_trans → A8,lt_irrefl → Bn,lt_succ_of_lt → BP,le_add_right → Co,le_sub_one_of_lt → Cr,mod_lt → Cu,add_le_add_left → CA,le_antisymm → CC,lt_succ_self → CI,ne_of_gt → CZ,add_sub_cancel_left → C2,eq_zero_of_not_pos → C7,zero_add → Di,le_succ_of_le → Dq,le_of_lt_succ → Dr,lt_of_not_le → Dy,succ_pos → DE,lt_of_le_of_lt → DJ,le_of_lt → D1,le_of_not_lt → D4,sub_one_lt_of_lt → Ed,le_succ → Ej,lt_of_succ_lt → ER,le_of_sub_eq_zero → FD,min_self → FE,lt_of_le_of_ne → Gv,sub_pos_of_lt → GN,le_of_succ_le → GO,add_zero → Ha,succ_le_succ → Hh,log2_le_self → Hk,min_eq_left → Hm,mul_mod → Hq,add_mod → Hr,add_assoc → Ie
open Array renaming length_toList → Ak,getElem?_toList → Aq,getElem?_eq_getElem → AN,toList_append → A2,mem_toList_iff → BH,size_map → BO,toList_extract → BU,toList_push → BX,getD_eq_getD_getElem? → B1,getElem?_eq_some_iff → Cc,size_push → CB,getElem?_eq_none → CG,toList_reverse → CU,size_append → CW,toList_map → D7,toList_setIfInBounds → Es,perm_iff_toList_perm → Et,append_assoc → Ew,size_setIfInBounds → ES,getElem?_replicate → EW,toList_inj → Fj,getElem?_map → Gx,forIn_toList → Gy
open Bool renaming false_ne_true → Ao,false_eq_true → AE,and_eq_true → Bh,not_true → BQ,eq_iff_iff → De,false_and → DW,and_false → EJ,not_false → FV,false_or → GB,eq_false_iff → GP,not_eq_true' → GU,or_false → Ib
open PySem.Value renaming ref → As,none → BR,type → B7,int → CO,isInt_shape → GJ
open PyProof.Rows renaming wpS_bind → Az,Keyed → AD,wpS_pure → AF,arrOf → AK,pendingOf → AW,SortSt → A0,wpS_forRange → Bx,wpS_mono → Cg,wpS_modify → Cw,callWith_type1 → Cy,reverseSlice'_eq → D9,IntsAre → Ea,KeyOrd → Ee,wpS_get → Ff,listUpdate_at → Fg,subscriptTail_builtinR → Fz,wpS_lift → FQ,getElem?_mirror_all → F7,listItems_at → Hc,size_push' → Ia
open Option.some renaming inj → A1
open PyProof.Rows.KeyOrd renaming kle_trans → A6,kle_of_klt → BF,kle_refl → B0,kle_antisymm → F1
open Int renaming toNat_natCast → Bb,emod_lt_of_pos → EA,zero_add → EB,emod_nonneg → FG,ediv_nonneg → Hw
open PySem.F renaming slot_dict_keyiterator_next → BD,called_set → BN,excBase_ValueError → BV,store_ValueError → Ck,plainAttrs_list → Ct,slot_tuple_iterator_next → CH,slot_enumerate_iter → Df,slot_enumerate_next → Dg,attrBase_ValueError → Dl,args_dict_keyiterator_next_1 → Dv,plain_extend_loop → Dw,plain_extend_loop → DB,entry_dict_keyiterator_next → DC,args_tuple_add_2 → DD,entry_tuple_add → DH,slot_tuple_add → DN,typeOf_object_class → D3,args_tuple_iterator_next_1 → Ef,entry_tuple_iterator_next → Ek,entry_extend_loop → EK,slot_list_append → E2,type_list_append → E3,slot_list_insert → E4,type_list_insert → E5,args_enumerate_iter_1 → E7,slot_list_count → Fc,entry_enumerate_iter → Fs,typeCall_set_1 → Fv,slot_dict_iter → Fw,mro_reversed → FU,entry_extend_loop → F3,slot_gs_get → GD,entry_type_call → GQ,plain_list_iadd → GR,entry_set_init → Hj,plain_set_new → Hs,slot_set_iter → Hu,entry_bexc_ga → Hv
open PySem.Around renaming under_plainId → BJ,under_plain → Gz
open List.Perm renaming append_left → BZ,append_right → CF,refl → CS
open Ne renaming symm → Ca
open PySem.Obj renaming mapSeq → Ce,data_mapFields → Ez
open Iff renaming rfl → Cj
open PySem.Builtin.List renaming listExtendWith → CD,listLengthHint → Ep,listSameRef → E6
open PySem.Code renaming quiet_builtin → CL
open PySem.PassesOwn renaming never → CY
open PyProof.Rows.F renaming plain_set_update_loop → C5,entry_set_update_loop → Fb
open PySem.SeqAt.EqAt renaming int_int → C9,same → DI,bool_bool → FR,int_str → Gn,str_int → Gp,str_str → Gs
open PySem.Paired renaming length → Dn,snoc → Io
open PySem.Heap.SameBut renaming update → Dz
open List.Pairwise renaming imp_of_mem → DF,imp → Ir
open PySem.SeqAt renaming EqAt → DG,notIn_tupleAt → FZ,notIn_listAt → Gu
open PySem.Calls renaming evalArgs_plain → Ec,Name_function_global → Er,call_function_entry → EI,callWith_builtin → Fq
open PySem.SeqAt.RcNeAt renaming tuples → En,lists → GC
open Option renaming isSome_iff_exists → EO,map_some → FC,isSome_map → GS,getD_none → Hf
open PySem.SeqAt.RcAt renaming tuples → EY
open PySem.AutoListH renaming list_insert_list_int_val_1 → Fi
open PySem.Walks renaming tuple → Ht,range → Ik
open PySem.EqMixed renaming eq_bool_str → Hz,eq_str_bool → HA,ne_bool_str → HB,ne_str_bool → HC,eq_int_str → HJ,eq_str_int → HN,ne_int_str → HP,ne_str_int → HS
open PySem.W.Looks renaming of_pure → Ih
open PySem.W.KatTups renaming cons → Ii
open Sum.inl renaming inj → Ij
open PySem.IsRange renaming new → Il
open PySem.Moved renaming trans → Im
open PySem.Heap.IsSliceOf renaming new → Ip
open Prod renaming ext → Iq
set_option Elab.async false
set_option linter.all false
set_option maxRecDepth 100000
namespace L2
open PySem PySem.Spec PyProof.Rows
abbrev Key:=Sum Int Str
def kM:Key->Ae->Bool
 | .inl k,v=>Value.isInt k v
 | .inr x,v=>Value.isStrOf x v
def keyH (w:AX):Key->Int
 | .inl k=>hashInt k
 | .inr x=>hashStr w x
theorem bF:∀{k:Key} {v:Ae},kM k v=true->(∃i t,k=Sum.inl i/\v=CO i t)\/(∃x t,k=Sum.inr x/\v=Value.str x t)
 | .inl i,v,h=>by
  obtain ⟨t,e⟩:=GJ (k:=i) (v:=v) h
  exact .inl ⟨i,t,rfl,e⟩
 | .inr x,v,h=>by
  obtain ⟨t,e⟩:=Value.isStrOf_shape (x:=x) (v:=v) h
  exact .inr ⟨x,t,rfl,e⟩
theorem rL (i:Int)(t:Tok):kM (.inl i) (.int i t)=true:=by simp[kM,Value.isInt]
theorem rM (x:Str)(t:Tok):kM (.inr x) (.str x t)=true:=by simp[kM,Value.isStrOf]
theorem xY (a b:Int):decide ((Sum.inl a:Key)=Sum.inl b)=(a == b):=by
 by_cases e:a=b
 ·subst e;simp
 ·have h:¬ (Sum.inl a:Key)=Sum.inl b:=λq=>e (Ij q)
  rw[decide_eq_false h]
  exact (beq_eq_false_iff_ne.mpr e).symm
theorem xZ (a b:Str):decide ((Sum.inr a:Key)=Sum.inr b)=decide (a=b):=by
 by_cases e:a=b
 ·subst e;simp
 ·have h:¬ (Sum.inr a:Key)=Sum.inr b:=λq=>e (Sum.inr.inj q)
  rw[decide_eq_false h,decide_eq_false e]
theorem x4 (a:Int)(b:Str):decide ((Sum.inl a:Key)=Sum.inr b)=false:=decide_eq_false (λq=>nomatch q)
theorem x5 (a:Str)(b:Int):decide ((Sum.inr a:Key)=Sum.inl b)=false:=decide_eq_false (λq=>nomatch q)
def bY (prog:Au)(w:AX):PySem.KeyKind prog w Key where
 is:=kM
 hash:=keyH w
 inj:=λv a b ha hb=>by
  rcases bF ha with ⟨i,t,rfl,rfl⟩ | ⟨x,t,rfl,rfl⟩
  ·rcases bF hb with ⟨j,u,rfl,e⟩ | ⟨y,u,rfl,e⟩
   ·injection e with e1 _;rw[e1]
   ·exact nomatch e
  ·rcases bF hb with ⟨j,u,rfl,e⟩ | ⟨y,u,rfl,e⟩
   ·exact nomatch e
   ·injection e with e1 _;rw[e1]
 byValue:=λk v h=>by
  rcases bF h with ⟨i,t,rfl,rfl⟩ | ⟨x,t,rfl,rfl⟩ <;> rfl
 pyHash:=λhv h=>by
  rcases bF hv with ⟨i,t,rfl,rfl⟩ | ⟨x,t,rfl,rfl⟩
  ·exact wpAny_pyHash_int h
  ·exact wpAny_pyHash_str h
 eqBool:=λhu hv h=>by
  rcases bF hu with ⟨i,t,rfl,rfl⟩ | ⟨x,t,rfl,rfl⟩
  ·rcases bF hv with ⟨j,u,rfl,rfl⟩ | ⟨y,u,rfl,rfl⟩
   ·rw[xY] at h;exact wpAny_eqBool_int h
   ·rw[x4] at h;exact Gn i t y u _ _ _ _ h
  ·rcases bF hv with ⟨j,u,rfl,rfl⟩ | ⟨y,u,rfl,rfl⟩
   ·rw[x5] at h;exact Gp x t j u _ _ _ _ h
   ·rw[xZ] at h;exact wpAny_eqBool_str h
 «strs» := λk x t v h=>by
  rcases bF h with ⟨i,u,rfl,e⟩ | ⟨y,u,rfl,e⟩
  ·exact nomatch e
  ·injection e with e1 _
   subst e1
   cases v <;> rfl
theorem ni (prog:Au)(w:AX)(i:Int)(t:Tok):(bY prog w).is (.inl i) (.int i t)=true:=rL i t
theorem nj (prog:Au)(w:AX)(x:Str)(t:Tok):(bY prog w).is (.inr x) (.str x t)=true:=rM x t
open PySem PySem.Spec PyProof.Rows
inductive V where
 | non | bl (b:Bool) | int (i:Int) | str (x:Str) | byt (b:Array UInt8) | flt (b:UInt64) | ref (a:Addr) | ty (n:String)
 deriving DecidableEq
def RelV:V->Ae->Prop
 | .non,u=>u=BR
 | .bl b,u=>u=Value.bool b
 | .int i,u=>∃t,u=CO i t
 | .str x,u=>∃t,u=Value.str x t
 | .byt b,u=>∃t,u=Value.bytes b t
 | .flt b,u=>∃t,u=Value.float b t
 | .ref a,u=>u=As a
 | .ty n,u=>u=B7 n
abbrev Vals:List V->List Ae->Prop:=Paired RelV
theorem Vals.length {xs:List V}{us:List Ae}(r:Vals xs us):xs.length=us.length:=Dn r
theorem Vals.get:∀{xs:List V} {us:List Ae} {i:Nat} {x:V},Vals xs us->xs[i]? = some x->∃u,us[i]? = some u/\RelV x u
 | _,_,_,_,.nil,e=>by simp at e
 | _,_,0,_,.cons r _,e=>by simp at e;subst e;exact ⟨_,rfl,r⟩
 | _,_,i+1,x,.cons _ t,e=>by
  obtain ⟨u,h1,h2⟩:=Vals.get (i:=i) (x:=x) t (by simpa using e)
  exact ⟨u,by simpa using h1,h2⟩
theorem Vals.set {x:V}{u:Ae}(r:RelV x u):∀{xs:List V} {us:List Ae} (i:Nat),Vals xs us->Vals (xs.set i x) (us.set i u)
 | _,_,_,.nil =>.nil
 | _,_,0,.cons _ t =>.cons r t
 | _,_,i+1,.cons q t =>.cons q (Vals.set r i t)
theorem Vals.append:∀{xs ys:List V} {us ws:List Ae},Vals xs us->Vals ys ws->Vals (xs++ys) (us++ws)
 | _,_,_,_,.nil,s=>s
 | _,_,_,_,.cons r t,s =>.cons r (Vals.append t s)
theorem Vals.take:∀{xs:List V} {us:List Ae} (n:Nat),Vals xs us->Vals (xs.take n) (us.take n)
 | _,_,0,_ =>.nil
 | _,_,_+1,.nil =>.nil
 | _,_,n+1,.cons r t =>.cons r (Vals.take n t)
theorem Vals.drop:∀{xs:List V} {us:List Ae} (n:Nat),Vals xs us->Vals (xs.drop n) (us.drop n)
 | _,_,0,r=>r
 | _,_,_+1,.nil =>.nil
 | _,_,n+1,.cons _ t=>Vals.drop n t
def jB:Option V->Option Ae->Prop
 | some v,some u=>RelV v u
 | none,none=>True
 | _,_=>False
def KV {κ:Type}:List (κ×V)->List (κ×Ae)->Prop:=Paired λ(p:κ×V) (q:κ×Ae)=>p.1=q.1/\RelV p.2 q.2
def kV:Key->V
 | .inl i =>.int i
 | .inr x =>.str x
inductive HO where
  | lst (xs:List V)
  | tup (xs:List V)
  | dK (kvs:List (Key×V)) | dT (kvs:List (List Key×V))
  | set (S:Int->Bool) (n:Nat)
  | ins (C dx:Addr) (fs:List (Str×V))
  | own (x:Addr)
  | xd (fs:List (Str×V))
  | met (f x:Addr)
  | rng (lo hi:Int)
  | frz (o:Obj) (u:HO)
  | tbl (ps:Array Ae)
  | ext (φ:Heap->Prop)
abbrev Hp:=Addr->Option HO
def upd (H:Hp)(a:Addr)(o:HO):Hp:=λb=>if b=a then some o else H b
theorem ae {H:Hp}{a:Addr}{o:HO}:upd H a o a=some o:=by unfold upd;rw[if_pos rfl]
theorem au {H:Hp}{a b:Addr}{o:HO}(h:b≠a):upd H a o b=H b:=by unfold upd;rw[if_neg h]
theorem jC {H:Hp}{a b:Addr}{o u:HO}(h:H a=some o)(h':H b=some u)(d:o≠u):a≠b:=by
 intro e;subst e;rw[h] at h';exact d (A1 h')
theorem aA {H:Hp}{a b:Addr}{o:HO}(h:H a=some o)(h':H b=none):a≠b:=by
 intro e;subst e;rw[h] at h';cases h'
def fv (h:Heap)(a:Addr)(items:Array Ae):Prop:=∃o,h.get? a=some o/\(o.cls = .type "tuple" /\ o.dict=none)/\∃n,o.data = .seq items n
theorem fv.tup {h:Heap}{a:Addr}{items:Array Ae}(x:fv h a items):IsTup h a items:=let ⟨o,e,c,n,d⟩:=x;⟨o,e,c.1,n,d⟩
theorem fv.new (h:Heap)(items:Array Ae):fv (h.push { cls :=.type "tuple",data :=.seq items }) h.objs.size items:=⟨_,Av _ rfl,⟨rfl,rfl⟩,_,rfl⟩
section
variable  (P:Au)(w:AX)
def bj (H:Hp)(h:Heap)(a:Addr):HO->Prop
 | .lst xs=>xs.length<=Ai/\∃(its:List Ae) (n:Nat),Vals xs its/\h.get? a=some { cls :=.type "list",data :=.seq its.toArray n }
 | .tup xs=>xs.length<=Ai/\∃its:List Ae,Vals xs its/\fv h a its.toArray
 | .dK kvs=>kvs.length<=Ai/\(a == sysModules)=false/\∃vs,KV kvs vs/\h.DictOf (bY P w) a vs
 | .dT kvs=>kvs.length<=Ai/\(a == sysModules)=false/\∃xs:List (List Key×Addr×Ae),
   Paired (λ(p:List Key×V) (q:List Key×Addr×Ae)=>p.1=q.1/\H q.2.1=some (.tup (p.1.map kV))/\RelV p.2 q.2.2) kvs xs ∧
   ∃o es ep,h.get? a=some o/\o.ExactDict/\o.data = .dict es ep/\es.toList=xs.map (entryOfKey (tupleKind (bY P w)))/\(xs.map (·.1)).Nodup
 | .set S n=>h.SetOf (intKind P w) a S n
 | .ins C dx fs=>H dx=some (.own a)/\fs.length<=1000/\dx≠a/\h.get? a=some (PySem.W.instObj C dx) ∧
   ∃mA,h.Ns1 dx mA/\(∀f,jB (fs.lookup f) (mA f))/\PySem.Within mA (fs.map (·.1))
 | .own _=>∃o,h.get? a=some o
 | .xd fs=>∃mA,h.Ns1 a mA/\∀f,jB (fs.lookup f) (mA f)
 | .rng lo hi=>∃t u v,h.get? a=some { cls :=.type "range",data :=.fields #[.int lo t,.int hi u,.int 1 v] }
 | .frz o u=>h.get? a=some o/\bj H h a u
 | .tbl ps=>h.get? a=some { cls :=.none,data :=.fields ps }
 | .met f x=>h.get? a=some (PySem.W.methodObj (.ref f) (.ref x))
 | .ext φ=>φ h/\(∃o,h.get? a=some o)/\∀h1 h2:Heap, φ h1->(∀o,h1.get? a=some o->h2.get? a=some o) -> φ h2
def HOk (H:Hp)(h:Heap):Prop:=∀a o,H a=some o->bj P w H h a o
end
section
variable  {P:Au}{w:AX}{H H':Hp}{h h':Heap}{a:Addr}{o:HO}
theorem bj.lt (x:bj P w H h a o):a<h.objs.size:=by
 cases o with
 | lst xs=>obtain ⟨_,_,_,_,e⟩:=x;exact Ar e
 | tup xs=>obtain ⟨_,_,_,p⟩:=x;exact (fv.tup p).lt
 | dK kvs=>obtain ⟨_,_,_,_,o,_,_,e,_⟩:=x;exact Ar e
 | dT kvs=>obtain ⟨_,_,_,_,o,_,_,e,_⟩:=x;exact Ar e
 | set S n=>obtain ⟨o,_,_,_,e,_⟩:=x;exact Ar e
 | ins C dx fs=>obtain ⟨_,_,_,e,_⟩:=x;exact Ar e
 | own y=>obtain ⟨_,e⟩:=x;exact Ar e
 | xd fs=>obtain ⟨_,⟨_,_,_,e,_⟩,_⟩:=x;exact Ar e
 | rng lo hi=>obtain ⟨_,_,_,e⟩:=x;exact Ar e
 | frz ob u=>obtain ⟨e,_⟩:=x;exact Ar e
 | tbl ps=>exact Ar (show h.get? a=some _ from x)
 | met f y=>exact Ar (show h.get? a=some _ from x)
 | ext φ=>obtain ⟨_,⟨_,e⟩,_⟩:=x;exact Ar e
theorem Paired.x6 {α β:Type}{F G:α -> β -> Prop}:∀{l₁:List α} {l₂:List β},Paired F l₁ l₂->(∀a b,F a b->G a b)->Paired G l₁ l₂
 | _,_,.nil,_ =>.nil
 | _,_,.cons r t,f =>.cons (f _ _ r) (Paired.x6 t f)
theorem bj.cx (x:bj P w H h a o)(k:∀b u,(b=a\/H b=some (.own a))->h.get? b=some u->h'.get? b=some u)
  (ho:∀b,H b=some (.own a)->H' b=some (.own a)) (ht:∀b xs,H b=some (.tup xs)->H' b=some (.tup xs)):bj P w H' h' a o:=by
 induction o with
 | lst xs=>obtain ⟨z,its,n,r,e⟩:=x;exact ⟨z,its,n,r,k _ _ (.inl rfl) e⟩
 | tup xs=>obtain ⟨z,its,r,ob,e,c⟩:=x;exact ⟨z,its,r,ob,k _ _ (.inl rfl) e,c⟩
 | dK kvs=>obtain ⟨z,y,vs,r,ob,es,ep,e,c⟩:=x;exact ⟨z,y,vs,r,ob,es,ep,k _ _ (.inl rfl) e,c⟩
 | dT kvs =>
  obtain ⟨z,y,xs,r,ob,es,ep,e,c⟩:=x
  exact ⟨z,y,xs,Paired.x6 r λp q z=>⟨z.1,ht _ _ z.2.1,z.2.2⟩,ob,es,ep,k _ _ (.inl rfl) e,c⟩
 | set S n=>obtain ⟨ob,es,ep,t,e,c⟩:=x;exact ⟨ob,es,ep,t,k _ _ (.inl rfl) e,c⟩
 | ins C dx fs =>
  obtain ⟨d,z,ne,e,mA,⟨od,es,ep,e2,c⟩,r⟩:=x
  exact ⟨ho _ d,z,ne,k _ _ (.inl rfl) e,mA,⟨od,es,ep,k _ _ (.inr d) e2,c⟩,r⟩
 | own y=>obtain ⟨ob,e⟩:=x;exact ⟨ob,k _ _ (.inl rfl) e⟩
 | xd fs=>obtain ⟨mA,⟨od,es,ep,e,c⟩,r⟩:=x;exact ⟨mA,⟨od,es,ep,k _ _ (.inl rfl) e,c⟩,r⟩
 | rng lo hi=>obtain ⟨t,u,v,e⟩:=x;exact ⟨t,u,v,k _ _ (.inl rfl) e⟩
 | frz ob u ih=>obtain ⟨e,q⟩:=x;exact ⟨k _ _ (.inl rfl) e,ih q⟩
 | tbl ps =>
  have e:h.get? a=some { cls :=.none,data :=.fields ps }:=x
  show h'.get? a=some { cls :=.none,data :=.fields ps }
  exact k a _ (.inl rfl) e
 | met f y =>
  have e:h.get? a=some (PySem.W.methodObj (.ref f) (.ref y)):=x
  show h'.get? a=some (PySem.W.methodObj (.ref f) (.ref y))
  exact k a _ (.inl rfl) e
 | ext φ=>obtain ⟨p,⟨o,e⟩,st⟩:=x;exact ⟨st _ _ p λo q=>k _ _ (.inl rfl) q,⟨o,k _ _ (.inl rfl) e⟩,st⟩
theorem HOk.lt (x:HOk P w H h)(e:H a=some o):a<h.objs.size:=(x a o e).lt
theorem HOk.fresh (x:HOk P w H h)(e:h.objs.size<=a):H a=none:=by
 cases q:H a with
 | none=>rfl
 | some u=>exact absurd (Ay (x.lt q) e) (Bn _)
theorem HOk.kept (x:HOk P w H h)(k:∀b u,h.get? b=some u->h'.get? b=some u):HOk P w H h':=λa o e =>
 (x a o e).cx (λb u _ q=>k b u q) (λ_ q=>q) λ_ _ q=>q
theorem HOk.laid (x:HOk P w H h)(k:∀b u,h.get? b=some u->h'.get? b=some u)(hp:h.objs.size<=a)(new:bj P w (upd H a o) h' a o):HOk P w (upd H a o) h':=λb u e=>by
 have hn:=x.fresh hp
 by_cases hb:b=a
 ·subst hb;rw[ae] at e;cases e;exact new
 ·rw[au hb] at e
  exact (x b u e).cx (λc v _ q=>k c v q) (λc q=>by rw[au (aA q hn)];exact q) λc xs q=>by rw[au (aA q hn)];exact q
end
def Rd (H:Hp)(a:Addr)(u:HO):Prop:=H a=some u\/∃o,H a=some (.frz o u)
theorem Rd.ok {P:Au}{w:AX}{H:Hp}{h:Heap}{a:Addr}{u:HO}(r:Rd H a u)(x:HOk P w H h):bj P w H h a u:=by
 rcases r with r | ⟨o,r⟩
 ·exact x a u r
 ·obtain ⟨_,q⟩:=x a _ r
  exact q
def Mut:Option HO->Prop
 | some (.lst _)=>True
 | some (.dK _)=>True
 | some (.dT _)=>True
 | some (.set _ _)=>True
 | some (.ins _ _ _)=>True
 | some (.ext _)=>True
 | _=>False
section
variable  {P:Au}{w:AX}{H:Hp}{h h':Heap}{x e:Addr}{o':HO}
theorem HOk.write (ok:HOk P w H h)(mu:Mut (H x))(he:e=x\/H e=some (.own x))(k:∀b u,b≠e->h.get? b=some u->h'.get? b=some u)(heo:∃u,h'.get? e=some u)
  (new:bj P w (upd H x o') h' x o'):HOk P w (upd H x o') h':=λb u q=>by
 have nown:∀c y,H c=some (.own y)->c≠x:=λc y r z=>by subst z;rw[r] at mu;exact mu
 have ntup:∀c xs,H c=some (.tup xs)->c≠x:=λc xs r z=>by subst z;rw[r] at mu;exact mu
 by_cases hb:b=x
 ·subst hb;rw[ae] at q;cases q;exact new
 ·rw[au hb] at q
  by_cases hbe:b=e
  ·have q':H b=some (.own x):=by
    rcases he with z | z
    ·exact absurd (hbe.trans z) hb
    ·rw[hbe];exact z
   rw[q] at q';cases q'
   obtain ⟨v,hv⟩:=heo
   exact ⟨v,by rw[hbe];exact hv⟩
  ·refine (ok b u q).cx (λc v hc r=>k c v ?_ r) (λc r=>by rw[au (nown c b r)];exact r) λc xs r=>by rw[au (ntup c xs r)];exact r
   rcases hc with rfl | hc
   ·exact hbe
   ·rintro rfl
    rcases he with z | z
    ·exact nown c b hc z
    ·rw[hc] at z;cases z;exact hb rfl
end
structure Un (fs ex:List Addr)(H H':Hp)(h h':Heap):Prop where
 keep:∀b o,h.get? b=some o->H b=none->b∉fs->b∉ex->h'.get? b=some o
 slot:∀b o,h.get? b=some o->H b=none->b∈fs->b∉ex->∃sl,h'.get? b=some { o with slots:=sl }
 free:∀b o,h.get? b=some o->H b=none->b∉ex->H' b=none
 there:∀b o,h.get? b=some o->b∉ex->∃o',h'.get? b=some o'
 tups:∀b xs,H b=some (.tup xs)->H' b=some (.tup xs)
 frzs:∀b o u,H b=some (.frz o u)->H' b=some (.frz o u)
 tbls:∀b ps,H b=some (.tbl ps)->∃more,H' b=some (.tbl (ps++more))
section
variable  {fs fs' ex ex':List Addr}{H H1 H2:Hp}{h h1 h2 h':Heap}{a x e:Addr}{o:HO}
theorem Un.any (u:Un fs ex H H1 h h1){b:Addr}{ob:Obj}(q:h.get? b=some ob)(n:H b=none)(hx:b∉ex):∃sl,h1.get? b=some { ob with slots:=sl }:=by
 by_cases hb:b∈fs
 ·exact u.slot b ob q n hb hx
 ·exact ⟨ob.slots,u.keep b ob q n hb hx⟩
theorem Un.trans (a:Un fs ex H H1 h h1)(b:Un fs ex H1 H2 h1 h2):Un fs ex H H2 h h2 where
 keep:=λc ob q n hc hx=>b.keep c ob (a.keep c ob q n hc hx) (a.free c ob q n hx) hc hx
 slot:=λc ob q n hc hx=>by
  obtain ⟨sl,e1⟩:=a.slot c ob q n hc hx
  obtain ⟨sl',e2⟩:=b.slot c _ e1 (a.free c ob q n hx) hc hx
  exact ⟨sl',e2⟩
 free:=λc ob q n hx=>by
  obtain ⟨o',e1⟩:=a.there c ob q hx
  exact b.free c o' e1 (a.free c ob q n hx) hx
 there:=λc ob q hx=>by
  obtain ⟨o',e1⟩:=a.there c ob q hx
  exact b.there c o' e1 hx
 tups:=λc xs q=>b.tups c xs (a.tups c xs q)
 frzs:=λc ob xs q=>b.frzs c ob xs (a.frzs c ob xs q)
 tbls:=λc ps q=>by
  obtain ⟨m1,e1⟩:=a.tbls c ps q
  obtain ⟨m2,e2⟩:=b.tbls c _ e1
  exact ⟨m1++m2,by rw[e2,Ew]⟩
theorem Un.kept (k:∀b u,h.get? b=some u->h'.get? b=some u):Un fs ex H H h h' :=
 ⟨λb ob q _ _ _=>k b ob q,λb ob q _ _ _=>⟨ob.slots,k b ob q⟩,λ_ _ _ n _=>n,λb ob q _=>⟨ob,k b ob q⟩,λ_ _ q=>q,λ_ _ _ q=>q,λ_ ps q=>⟨#[],by rw[q];simp⟩⟩
theorem Un.refl:Un fs ex H H h h:=Un.kept λ_ _ q=>q
theorem Un.laid (k:∀b u,h.get? b=some u->h'.get? b=some u)(hp:h.objs.size<=a)(hn:H a=none):Un fs ex H (upd H a o) h h' where
 keep:=λb u q _ _ _=>k b u q
 slot:=λb u q _ _ _=>⟨u.slots,k b u q⟩
 free:=λb u q n _=>by rw[au (AI (Ay (Ar q) hp))];exact n
 there:=λb u q _=>⟨u,k b u q⟩
 tups:=λb xs q=>by rw[au (aA q hn)];exact q
 frzs:=λb u xs q=>by rw[au (aA q hn)];exact q
 tbls:=λb ps q=>⟨#[],by rw[au (aA q hn),q];simp⟩
theorem Un.write (mu:Mut (H x))(he:e=x\/H e=some (.own x))(k:∀b u,b≠e->h.get? b=some u->h'.get? b=some u)(heo:∃u,h'.get? e=some u):Un fs ex H (upd H x o) h h':=by
 have hx:∀b,H b=none->b≠x:=λb n z=>by subst z;rw[n] at mu;exact mu
 have hb:∀b,H b=none->b≠e:=λb n z=>by
  subst z
  rcases he with r | r
  ·exact hx b n r
  ·rw[n] at r;cases r
 have hm:∀b u,H b=some u->¬ Mut (some u)->b≠x:=λb u q nm z=>by subst z;rw[q] at mu;exact nm mu
 refine ⟨λb u q n _ _=>k b u (hb b n) q,λb u q n _ _=>⟨u.slots,k b u (hb b n) q⟩,λb u q n _=>by rw[au (hx b n)];exact n,λb u q _ =>?_,
  λb xs q=>by rw[au (hm b _ q λz=>z)];exact q,λb u xs q=>by rw[au (hm b _ q λz=>z)];exact q,λb ps q=>⟨#[],by rw[au (hm b _ q λz=>z),q];simp⟩⟩
 by_cases hbe:b=e
 ·subst hbe;exact heo
 ·exact ⟨u,k b u hbe q⟩
end
def trk (h:Heap)(H:Hp):List Addr:=(BL h.objs.size).filter λa=>(H a).isSome
def ma (h:Heap)(H:Hp):Heap:=PySem.W.hideAll h (trk h H)
theorem rN (h:Heap)(H:Hp):(ma h H).objs.size=h.objs.size:=PySem.W.hideAll_size _ _
theorem tX {h:Heap}{H:Hp}{b:Addr}{o:Obj}(e:h.get? b=some o)(n:H b=none):(ma h H).get? b=some o :=
 PySem.W.hideAll_get _ e λhm=>by
  have q:(H b).isSome=true:=(AS.mp hm).2
  rw[n] at q;simp at q
theorem vO {h:Heap}{H:Hp}{b:Addr}{o:Obj}(e:(ma h H).get? b=some o):h.get? b=some o/\H b=none:=by
 have e':h.get? b=some o:=PySem.W.of_hideAll (trk h H) e
 refine ⟨e',?_⟩
 cases q:H b with
 | none=>rfl
 | some x =>
  have hm:b∈trk h H:=AS.mpr ⟨Bp.mpr (Ar e'),by simp[q]⟩
  have z:(ma h H).get? b=none:=PySem.W.hideAll_none (trk h H) hm
  rw[z] at e;cases e
def vP (g h:Heap)(L:Addr):List (Addr×Obj):=(BL h.objs.size).filterMap λa=>if a=L\/(g.get? a).isSome=true then none else (h.get? a).map λo=>(a,o)
def rest (g h:Heap)(L d:Addr):List (Addr×Obj):=(vP g h L).filter λp=>decide (p.1≠d)
open PySem PySem.Spec PyProof.Rows
structure Mod (K:Ab)(mg:Str->Option Ae)(base:Heap):Prop where
 kin:K.In base
 glob:base.Ns AR mg
 blt:∃mb,base.Ns builtinsNs mb/\∀x:Str,x ≠ "__name__" -> mb x=Bz x
 nolimit:base.NoLimit
structure Cx where
 prog:Au
 w:AX
 K:Ab
 mg:Str->Option Ae
 base:Heap
 A:A7
 N:List Str
 s₀:Ag
 H₀:Hp
 env:Env
 outer:List Env
 stack:List Env
 ex:List Addr
 fn:Str->Bool
 calm:Bool
 pn:List (Addr×Obj)
 xe:Ae->Ag->Prop
def frs (l:List Env):List Addr:=l.filterMap (·.frame)
abbrev Cx.fs (X:Cx):List Addr:=frs X.outer
def Vis (sc:Scope)(x:Str):Prop:=sc.names.lookup x=some .local\/sc.names.lookup x=some .cell\/sc.names.lookup x=some .free
def Loc (sc:Scope)(x:Str):Prop:=sc.names.lookup x=some .local\/sc.names.lookup x=some .cell
def Look (env:Env)(h:Heap)(m:Str->Option Ae)(x:Str)(u:Ae):Prop :=
 (env.kindOf x=some .local/\m x=some u)\/((env.kindOf x=some .cell\/env.kindOf x=some .free)/\∃c,env.cells.lookup x=some c/\h.IsCell c (some u))
structure Cx.Ok (X:Cx):Prop where
 mod:Mod X.K X.mg X.base
 kind:X.env.scope.kind = .function
 glob:X.env.globals=AR
 blt:X.env.builtins=builtinsNs
 above:X.s₀.heap.objs.size<=X.env.locals
 inj:∀x y c,X.env.cells.lookup x=some c->X.env.cells.lookup y=some c->x=y
 has:∀x,(X.env.kindOf x=some .cell\/X.env.kindOf x=some .free)->∃c,X.env.cells.lookup x=some c
 cab:∀x c,X.fn x=true->X.env.cells.lookup x=some c->X.s₀.heap.objs.size<=c
 hd:X.calm=true->X.A.handled=none
 frames:X.A.frames=some X.stack
 stk:X.stack=X.outer\/(X.stack=X.env :: X.outer/\X.env.frame=some X.env.locals)
 exf:∀b∈X.ex,b≠X.env.locals/\∀x c,X.env.cells.lookup x=some c->c≠b
 bs:∀b o,X.base.get? b=some o->X.s₀.heap.get? b=some o/\X.H₀ b=none
 bsz:X.base.objs.size<=X.s₀.heap.objs.size
 noex:∀b o,X.base.get? b=some o->b∉X.ex
 exfs:∀b∈X.ex,b∉X.fs
 funs:X.s₀.heap.FunFrames X.base X.outer
 frf:∀b∈X.fs,X.H₀ b=none
structure Inv (X:Cx)(pins:List (Addr×Obj))(σ:List (Option V))(H:Hp)(s:Ag):Prop where
 ok:X.Ok
 os:s.os=X.s₀.os
 bare:AllBare s.gens
 base:Un X.fs X.ex X.H₀ H X.s₀.heap s.heap
 loc:∃m,s.heap.Ns X.env.locals m/\∀(i:Nat) (x:Str) (v:V),X.N[i]? = some x->σ[i]? = some (some v)->Vis X.env.scope x->∃u,RelV v u/\Look X.env s.heap m x u
 cell:∀x c,X.env.cells.lookup x=some c->∃v,s.heap.IsCell c v
 free:H X.env.locals=none
 freeC:∀x c,X.env.cells.lookup x=some c->H c=none
 pin:∀p∈X.pn++pins,s.heap.get? p.1=some p.2/\H p.1=none/\p.1≠X.env.locals/\p.1∉X.fs/\∀v,p.2.data ≠ .cell v
 hok:HOk X.prog X.w H s.heap
 len:σ.length=X.N.length
section
variable  {X:Cx}{pins:List (Addr×Obj)}{σ:List (Option V)}{H H':Hp}{s:Ag}{h':Heap}
theorem Cx.Ok.nofr (ok:X.Ok){b:Addr}{o:Obj}(e:X.base.get? b=some o):b∉X.fs:=λhb=>by
 have:=(ok.funs.mem hb).1
 rw[e] at this;cases this
theorem Inv.bs (I:Inv X pins σ H s):∀b o,X.base.get? b=some o->s.heap.get? b=some o/\H b=none:=λb o e =>
 ⟨I.base.keep b o (I.ok.bs b o e).1 (I.ok.bs b o e).2 (I.ok.nofr e) (I.ok.noex b o e),I.base.free b o (I.ok.bs b o e).1 (I.ok.bs b o e).2 (I.ok.noex b o e)⟩
theorem Inv.bk (I:Inv X pins σ H s):∀b o,X.base.get? b=some o->s.heap.get? b=some o:=λb o e=>(I.bs b o e).1
theorem Inv.mod (I:Inv X pins σ H s):Mod X.K X.mg X.base:=I.ok.mod
theorem Inv.kIn (I:Inv X pins σ H s):X.K.In s.heap:=I.ok.mod.kin.keeps I.bk
theorem Inv.lt (I:Inv X pins σ H s):X.env.locals<s.heap.objs.size:=let ⟨_,hn,_⟩:=I.loc;hn.lt
theorem Inv.sz (I:Inv X pins σ H s):X.s₀.heap.objs.size<=s.heap.objs.size:=A8 I.ok.above (D1 I.lt)
theorem Inv.x8 (I:Inv X pins σ H s){a:Addr}(h:s.heap.objs.size<=a):a∉X.fs:=λhb=>by
 obtain ⟨_,o,ho,_⟩:=I.ok.funs.mem hb
 exact absurd (Ay (Ar ho) (A8 I.sz h)) (Bn _)
theorem Inv.cne (I:Inv X pins σ H s):∀x c,X.env.cells.lookup x=some c->c≠X.env.locals:=λx c e z=>by
 obtain ⟨v,o,ho,hd⟩:=I.cell x c e
 obtain ⟨m,⟨o',es,ep,ho',hd',_⟩,_⟩:=I.loc
 rw[z,ho'] at ho;cases ho;rw[hd'] at hd;cases hd
theorem Inv.funs (I:Inv X pins σ H s):s.heap.FunFrames X.base X.outer:=by
 have all:∀(l:List Env),(∀b∈frs l,b∈X.fs)->X.s₀.heap.FunFrames X.base l->s.heap.FunFrames X.base l:=by
  intro l
  induction l with
  | nil=>intro _ _;trivial
  | cons env r ih =>
   intro hs hl
   obtain ⟨hk,⟨L,o,hf,hn,ho,hd⟩,hr⟩:=hl
   have hL:L∈X.fs:=hs L (by unfold frs;rw[BM,hf];exact AU)
   obtain ⟨sl,e⟩:=I.base.slot L o ho (I.ok.frf L hL) hL λz=>I.ok.exfs L z hL
   exact ⟨hk,⟨L,_,hf,hn,e,hd⟩,ih (λb hb=>hs b (by unfold frs;rw[BM,hf];exact AM _ hb)) hr⟩
 exact all X.outer (λ_ hb=>hb) I.ok.funs
theorem Inv.stack (I:Inv X pins σ H s):s.heap.FunFrames X.base X.stack:=by
 rcases I.ok.stk with e | ⟨e,hf⟩
 ·rw[e];exact I.funs
 ·rw[e]
  obtain ⟨m,hn,_⟩:=I.loc
  refine .cons (by rw[I.ok.kind];decide) hf hn ?_ I.funs
  exact Dt (A8 I.ok.bsz I.ok.above)
theorem Inv.mf (I:Inv X pins σ H s):∀b∈frs X.stack,b∈X.env.locals :: X.fs:=λb hb=>by
 rcases I.ok.stk with e | ⟨e,hf⟩
 ·rw[e] at hb;exact AM _ hb
 ·rw[e] at hb
  unfold frs at hb
  rw[BM,hf] at hb
  exact hb
theorem Inv.jq (I:Inv X pins σ H s):∀b∈frs X.stack,H b=none:=λb hb=>by
 rcases AH.mp (I.mf b hb) with e | hb
 ·rw[e];exact I.free
 ·obtain ⟨_,o,ho,_⟩:=I.ok.funs.mem hb
  exact I.base.free b o ho (I.ok.frf b hb) λz=>I.ok.exfs b z hb
theorem Inv.step {g':Array GenState}{t':Nat}{d':Drawn}{ch:List Addr}(I:Inv X pins σ H s)
  (hch:∀b∈ch,(b∈X.ex\/X.s₀.heap.objs.size<=b)/\b≠X.env.locals/\(∀x c,X.env.cells.lookup x=some c->c≠b)/\∀p∈X.pn++pins,p.1≠b)
  (keep:∀b o,b≠X.env.locals->b∉X.fs->b∉ch->s.heap.get? b=some o->H b=none->h'.get? b=some o)
  (slot:∀b o,b≠X.env.locals->b∈X.fs->b∉ch->s.heap.get? b=some o->H b=none->∃sl,h'.get? b=some { o with slots:=sl }) (free:∀b o,b∉ch->s.heap.get? b=some o->H b=none->H' b=none)
  (there:∀b o,b∉ch->s.heap.get? b=some o->∃o',h'.get? b=some o')
  (tups:∀b xs,H b=some (.tup xs)->H' b=some (.tup xs)) (frzs:∀b o u,H b=some (.frz o u)->H' b=some (.frz o u)) (tbls:∀b ps,H b=some (.tbl ps)->∃more,H' b=some (.tbl (ps++more)))
  (ns:∀m,s.heap.Ns X.env.locals m->h'.Ns X.env.locals m) (hok:HOk X.prog X.w H' h') (hg:AllBare g') :
  Inv X pins σ H' { s with heap:=h',gens:=g',drawn:=d',toks:=t' }:=by
 have neL:∀b o,X.s₀.heap.get? b=some o->b≠X.env.locals:=λb o e=>AI (Ay (Ar e) I.ok.above)
 have neC:∀b o,X.s₀.heap.get? b=some o->b∉X.ex->b∉ch:=λb o e hx hb=>by
  rcases (hch b hb).1 with z | z
  ·exact hx z
  ·exact absurd (Ay (Ar e) z) (Bn _)
 have cellK:∀x c,X.env.cells.lookup x=some c->∀v,s.heap.IsCell c v->h'.IsCell c v:=λx c e v ⟨o,ho,hd⟩=>by
  have nch:c∉ch:=λz=>(hch c z).2.2.1 x c e rfl
  by_cases hc:c∈X.fs
  ·obtain ⟨sl,q⟩:=slot c o (I.cne x c e) hc nch ho (I.freeC x c e)
   exact ⟨_,q,hd⟩
  ·exact ⟨o,keep c o (I.cne x c e) hc nch ho (I.freeC x c e),hd⟩
 refine ⟨I.ok,I.os,hg,⟨λb o e n hb hx =>?_,λb o e n hb hx =>?_,λb o e n hx =>?_,λb o e hx =>?_,λb xs e=>tups b xs (I.base.tups b xs e),λb o xs e=>frzs b o xs (I.base.frzs b o xs e),λb ps e =>?_⟩,?_,λx c e =>?_,?_,λx c e =>?_,λp hp =>?_,hok,I.len⟩
 ·exact keep b o (neL b o e) hb (neC b o e hx) (I.base.keep b o e n hb hx) (I.base.free b o e n hx)
 ·obtain ⟨sl,e1⟩:=I.base.slot b o e n hb hx
  obtain ⟨sl',e2⟩:=slot b _ (neL b o e) hb (neC b o e hx) e1 (I.base.free b o e n hx)
  exact ⟨sl',e2⟩
 ·obtain ⟨o',e1⟩:=I.base.there b o e hx
  exact free b o' (neC b o e hx) e1 (I.base.free b o e n hx)
 ·obtain ⟨o',e1⟩:=I.base.there b o e hx
  exact there b o' (neC b o e hx) e1
 ·obtain ⟨m1,e1⟩:=I.base.tbls b ps e
  obtain ⟨m2,e2⟩:=tbls b _ e1
  exact ⟨m1++m2,by rw[e2,Ew]⟩
 ·obtain ⟨m,hn,hl⟩:=I.loc
  refine ⟨m,ns m hn,λi x v e1 e2 e3 =>?_⟩
  obtain ⟨u,r,l⟩:=hl i x v e1 e2 e3
  refine ⟨u,r,?_⟩
  rcases l with l | ⟨k,c,e,z⟩
  ·exact .inl l
  ·exact .inr ⟨k,c,e,cellK x c e _ z⟩
 ·obtain ⟨v,z⟩:=I.cell x c e
  exact ⟨v,cellK x c e v z⟩
 ·obtain ⟨m,⟨o,_,_,ho,_⟩,_⟩:=I.loc
  exact free _ o (λz=>(hch _ z).2.1 rfl) ho I.free
 ·obtain ⟨v,o,ho,hd⟩:=I.cell x c e
  exact free c o (λz=>(hch c z).2.2.1 x c e rfl) ho (I.freeC x c e)
 ·obtain ⟨e,n,ne,nf,d⟩:=I.pin p hp
  have nch:p.1∉ch:=λz=>(hch p.1 z).2.2.2 p hp rfl
  exact ⟨keep p.1 p.2 ne nf nch e n,free p.1 p.2 nch e n,ne,nf,d⟩
theorem Inv.un {t':Nat}(I:Inv X pins σ H s)(u:Un X.fs [] H H' s.heap h')(hok:HOk X.prog X.w H' h'):Inv X pins σ H' { s with heap:=h',toks:=t' }:=by
 obtain ⟨m,⟨o,es,ep,ho,r⟩,_⟩:=id I.loc
 obtain ⟨sl,hL⟩:=u.any ho I.free (by simp)
 exact I.step (g':=s.gens) (d':=s.drawn) (ch:=[]) (λ_ z=>nomatch z) (λb o _ hb _ e n=>u.keep b o e n hb (by simp)) (λb o _ hb _ e n=>u.slot b o e n hb (by simp)) (λb o _ e n=>u.free b o e n (by simp)) (λb o _ e=>u.there b o e (by simp)) u.tups u.frzs u.tbls (λm' hm=>by
  obtain ⟨o',es',ep',ho',r'⟩:=hm
  rw[ho] at ho';cases ho'
  exact ⟨_,es',ep',hL,r'⟩) hok I.bare
theorem Inv.call {g':Array GenState}{t':Nat}{d':Drawn}{ch:List Addr}(I:Inv X pins σ H s)(u:Un (frs X.stack) ch H H' s.heap h')(hok:HOk X.prog X.w H' h')(hg:AllBare g')
  (hch:∀b∈ch,(b∈X.ex\/X.s₀.heap.objs.size<=b)/\b≠X.env.locals/\(∀x c,X.env.cells.lookup x=some c->c≠b)/\∀p∈X.pn++pins,p.1≠b) :
  Inv X pins σ H' { s with heap:=h',gens:=g',drawn:=d',toks:=t' }:=by
 obtain ⟨m,⟨o,es,ep,ho,r⟩,_⟩:=id I.loc
 obtain ⟨sl,hL⟩:=u.any ho I.free λz=>(hch _ z).2.1 rfl
 exact I.step (ch:=ch) hch (λb o hL hb hc e n=>u.keep b o e n (λz=>(AH.mp (I.mf b z)).elim hL hb) hc) (λb o _ _ hc e n=>u.any e n hc) (λb o hc e n=>u.free b o e n hc) (λb o hc e=>u.there b o e hc) u.tups u.frzs u.tbls (λm' hm=>by
  obtain ⟨o',es',ep',ho',r'⟩:=hm
  rw[ho] at ho';cases ho'
  exact ⟨_,es',ep',hL,r'⟩) hok hg
theorem Inv.turned {t':Nat}{it:Addr}(I:Inv X pins σ H s)(k:∀b o,b≠it->s.heap.get? b=some o->h'.get? b=some o)(hn:H it=none)(hL:it≠X.env.locals)
  (h1:it∈X.ex\/X.s₀.heap.objs.size<=it) (h2:∀x c,X.env.cells.lookup x=some c->c≠it) (h3:∀p∈X.pn++pins,p.1≠it):Inv X pins σ H { s with heap:=h',toks:=t' }:=by
 have nit:∀b u,H b=some u->b≠it:=λb u e z=>by rw[z,hn] at e;cases e
 refine I.step (g':=s.gens) (d':=s.drawn) (ch:=[it]) (λb hb =>?_) (λb o _ _ hc e _=>k b o (λz=>hc (by simp[z])) e) (λb o _ _ hc e _=>⟨o.slots,k b o (λz=>hc (by simp[z])) e⟩) (λ_ _ _ _ n=>n)
  (λb o hc e=>⟨o,k b o (λz=>hc (by simp[z])) e⟩) (λ_ _ e=>e) (λ_ _ _ e=>e) (λb ps e=>⟨#[],by rw[e];simp⟩) (λm hm =>?_) (λb u e =>?_) I.bare
 ·have e:b=it:=by simpa using hb
  subst e
  exact ⟨h1,hL,h2,h3⟩
 ·obtain ⟨o,es,ep,ho,r⟩:=hm
  exact ⟨o,es,ep,k _ o (Ca hL) ho,r⟩
 ·refine (I.hok b u e).cx (λc v hc q=>k c v ?_ q) (λ_ q=>q) λ_ _ q=>q
  rcases hc with z | z
  ·rw[z];exact nit b u e
  ·exact nit c _ z
theorem Inv.tok (I:Inv X pins σ H s)(t:Nat):Inv X pins σ H { s with toks:=t }:=I.un (h':=s.heap) (t':=t) Un.refl I.hok
theorem Inv.kept {t':Nat}(I:Inv X pins σ H s)(k:∀b u,s.heap.get? b=some u->h'.get? b=some u):Inv X pins σ H { s with heap:=h',toks:=t' }:=I.un (Un.kept k) (I.hok.kept k)
theorem Inv.laid {a:Addr}{o:HO}{t':Nat}(I:Inv X pins σ H s)(k:∀b u,s.heap.get? b=some u->h'.get? b=some u)(hp:s.heap.objs.size<=a)(new:bj X.prog X.w (upd H a o) h' a o) :
  Inv X pins σ (upd H a o) { s with heap:=h',toks:=t' }:=I.un (Un.laid k hp (I.hok.fresh hp)) (I.hok.laid k hp new)
theorem Inv.write {x e:Addr}{o:HO}{t':Nat}(I:Inv X pins σ H s)(mu:Mut (H x))(he:e=x\/H e=some (.own x))(k:∀b u,b≠e->s.heap.get? b=some u->h'.get? b=some u)(heo:∃u,h'.get? e=some u)
  (new:bj X.prog X.w (upd H x o) h' x o):Inv X pins σ (upd H x o) { s with heap:=h',toks:=t' }:=I.un (Un.write mu he k heo) (I.hok.write mu he k heo new)
theorem Inv.hU {pins':List (Addr×Obj)}(I:Inv X pins σ H s)(h:∀p∈pins',s.heap.get? p.1=some p.2/\H p.1=none/\p.1≠X.env.locals/\p.1∉X.fs/\∀v,p.2.data ≠ .cell v):Inv X pins' σ H s :=
 ⟨I.ok,I.os,I.bare,I.base,I.loc,I.cell,I.free,I.freeC,λp hp=>(Ax.mp hp).elim (λz=>I.pin p (Cp _ z)) (h p),I.hok,I.len⟩
theorem jD {N:List Str}(hN:N.Nodup){i j:Nat}{x:Str}(a:N[i]? = some x)(b:N[j]? = some x):i=j:=by
 obtain ⟨h1,e1⟩:=Al.mp a
 obtain ⟨h2,e2⟩:=Al.mp b
 exact (List.getElem_inj hN).mp (e1.trans e2.symm)
theorem rO {M:Model}{A:A7}{E:Ae->Ag->Prop}{i:Nat}{x:Str}{v:V}{u:Ae}{Q:Unit->Ag->Prop}(I:Inv X pins σ H s)(hN:X.N.Nodup)(hi:X.N[i]? = some x)(hx:Loc X.env.scope x)(r:RelV v u)
  (h:∀s',Inv X pins (σ.set i (some v)) H s'->(∃a,Heap.SameBut a s.heap s'.heap/\(a=X.env.locals\/X.env.cells.lookup x=some a))->Q () s') (hf:X.fn x=true\/X.env.scope.names.lookup x=some .local:=by first | exact .inl rfl | exact .inr rfl | assumption):AL M A (storeName X.env x u) Q E s:=by
 obtain ⟨m,hn,hl⟩:=id I.loc
 have hcls:(X.env.scope.kind == .class || (X.env.scope.kind == .module && X.env.locals != X.env.globals))=false:=by rw[I.ok.kind];rfl
 have hiσ:i<σ.length:=by rw[I.len];exact (Al.mp hi).1
 have cne:=I.cne
 have tracked:∀{a:Addr} {h':Heap},(∃o,s.heap.get? a=some o/\H a=none)->Heap.SameBut a s.heap h'->HOk X.prog X.w H h':=λ{a h'} ha hs b ob e=>by
  obtain ⟨_,_,hfree⟩:=ha
  refine (I.hok b ob e).cx (λc w' hc q=>(hs.2 c ?_).trans q) (λ_ q=>q) λ_ _ q=>q
  rintro rfl
  rcases hc with rfl | hc
  ·rw[hfree] at e;cases e
  ·rw[hfree] at hc;cases hc
 rcases hx with hk | hk
 ·refine wpAny_storeName_local hk hn (λh' hn' hs =>?_) hcls
  obtain ⟨oL,_,_,hoL,_⟩:=id hn
  refine h _ ⟨I.ok,I.os,I.bare,⟨λb o e n hb hx =>?_,λb o e n hb hx =>?_,I.base.free,λb o e hx =>?_,I.base.tups,I.base.frzs,I.base.tbls⟩,⟨_,hn',λj y v' e1 e2 e3 =>?_⟩,λy c e =>?_,I.free,I.freeC,λp hp =>?_,tracked ⟨oL,hoL,I.free⟩ hs,by simpa using I.len⟩ ⟨_,hs,.inl rfl⟩
  ·exact (hs.2 b (AI (Ay (Ar e) I.ok.above))).trans (I.base.keep b o e n hb hx)
  ·obtain ⟨sl,e1⟩:=I.base.slot b o e n hb hx
   exact ⟨sl,(hs.2 b (AI (Ay (Ar e) I.ok.above))).trans e1⟩
  ·obtain ⟨o',e1⟩:=I.base.there b o e hx
   exact ⟨o',(hs.2 b (AI (Ay (Ar e) I.ok.above))).trans e1⟩
  ·by_cases hj:j=i
   ·subst hj
    rw[hi] at e1;cases e1
    rw[C6 hiσ] at e2
    cases e2
    exact ⟨u,r,.inl ⟨hk,by simp⟩⟩
   ·rw[Eb (Ca hj)] at e2
    obtain ⟨u',r',q⟩:=hl j y v' e1 e2 e3
    refine ⟨u',r',?_⟩
    rcases q with ⟨k,e⟩ | ⟨k,c,e,z⟩
    ·refine .inl ⟨k,?_⟩
     have:y≠x:=λe=>hj (jD hN e1 (e ▸ hi))
     simp[this,e]
    ·exact .inr ⟨k,c,e,z.sameBut hs (cne y c e)⟩
  ·obtain ⟨w',z⟩:=I.cell y c e
   exact ⟨w',z.sameBut hs (cne y c e)⟩
  ·obtain ⟨e,n,ne,nf,d⟩:=I.pin p hp
   exact ⟨(hs.2 p.1 ne).trans e,n,ne,nf,d⟩
 ·have hfn:X.fn x=true:=by
   rcases hf with z | z
   ·exact z
   ·rw[z] at hk;cases hk
  obtain ⟨c,hc⟩:=I.ok.has x (.inl hk)
  obtain ⟨w',z⟩:=I.cell x c hc
  refine wpAny_storeName_cell I.ok.kind hk hc z (λh' hc' hs =>?_)
  obtain ⟨oc,hoc,hocd⟩:=id z
  refine h { s with heap:=h' } ⟨I.ok,I.os,I.bare,⟨λb o e n hb hx =>?_,λb o e n hb hx =>?_,I.base.free,λb o e hx =>?_,I.base.tups,I.base.frzs,I.base.tbls⟩,⟨m,hn.sameBut hs (Ca (cne x c hc)),λj y v' e1 e2 e3 =>?_⟩,λy c' e =>?_,I.free,I.freeC,λp hp =>?_,tracked ⟨oc,hoc,I.freeC x c hc⟩ hs,by simpa using I.len⟩ ⟨c,hs,.inr hc⟩
  ·exact (hs.2 b (AI (Ay (Ar e) (I.ok.cab x c hfn hc)))).trans (I.base.keep b o e n hb hx)
  ·obtain ⟨sl,e1⟩:=I.base.slot b o e n hb hx
   exact ⟨sl,(hs.2 b (AI (Ay (Ar e) (I.ok.cab x c hfn hc)))).trans e1⟩
  ·obtain ⟨o',e1⟩:=I.base.there b o e hx
   exact ⟨o',(hs.2 b (AI (Ay (Ar e) (I.ok.cab x c hfn hc)))).trans e1⟩
  ·by_cases hj:j=i
   ·subst hj
    rw[hi] at e1;cases e1
    rw[C6 hiσ] at e2
    cases e2
    exact ⟨u,r,.inr ⟨.inl hk,c,hc,hc'⟩⟩
   ·rw[Eb (Ca hj)] at e2
    obtain ⟨u',r',q⟩:=hl j y v' e1 e2 e3
    refine ⟨u',r',?_⟩
    rcases q with q | ⟨k,c',e,z'⟩
    ·exact .inl q
    ·refine .inr ⟨k,c',e,z'.sameBut hs ?_⟩
     rintro rfl
     exact hj (jD hN e1 (I.ok.inj _ _ _ e hc ▸ hi))
  ·by_cases hcc:c'=c
   ·subst hcc;exact ⟨_,hc'⟩
   ·obtain ⟨w2,z2⟩:=I.cell y c' e
    exact ⟨w2,z2.sameBut hs hcc⟩
  ·obtain ⟨e,n,ne,nf,d⟩:=I.pin p hp
   refine ⟨(hs.2 p.1 ?_).trans e,n,ne,nf,d⟩
   intro q
   rw[q,hoc] at e
   have q':oc=p.2:=A1 e
   exact d w' (by rw[<- q'];exact hocd)
theorem hV {M:Model}{A:A7}{E:Ae->Ag->Prop}{i:Nat}{x:Str}{v:V}{u:Ae}{Q:Unit->Ag->Prop}(I:Inv X pins σ H s)(hN:X.N.Nodup)(hi:X.N[i]? = some x)(hx:Loc X.env.scope x)(r:RelV v u)
  (h:∀s',Inv X pins (σ.set i (some v)) H s'->Q () s') (hf:X.fn x=true\/X.env.scope.names.lookup x=some .local:=by first | exact .inl rfl | exact .inr rfl | assumption):AL M A (storeName X.env x u) Q E s :=
 rO I hN hi hx r (λs' I' _=>h s' I') hf
theorem Inv.xG {s':Ag}{ch:List Addr}(I:Inv X pins σ H s)(ho:s'.os=s.os)(u:Un (frs X.stack) ch H H' s.heap s'.heap)(hok:HOk X.prog X.w H' s'.heap)(hg:AllBare s'.gens)
  (hch:∀b∈ch,(b∈X.ex\/X.s₀.heap.objs.size<=b)/\b≠X.env.locals/\(∀x c,X.env.cells.lookup x=some c->c≠b)/\∀p∈X.pn++pins,p.1≠b):Inv X pins σ H' s':=by
 obtain ⟨h',g',d',t',o'⟩:=s'
 have e:o'=s.os:=ho
 subst e
 exact I.call (g':=g') (t':=t') (d':=d') u hok hg hch
end
abbrev XK:=Ae->Option Addr->Hp->Prop
abbrev St:=List (Option V)
abbrev VK:=V->Hp->Prop
abbrev TE:=St->Hp->VK->Prop
abbrev TT:=St->Hp->(Bool->Hp->Prop)->Prop
abbrev TA:=St->Hp->(List V->Hp->Prop)->Prop
structure Ends where
 nx:St->Hp->Prop
 rt:VK
 bk:St->Hp->Prop:=λ_ _=>False
 ct:St->Hp->Prop:=λ_ _=>False
abbrev TS:=Ends->St->Hp->Prop
def EP (X:Cx)(pins:List (Addr×Obj))(σ:St)(Q:VK)(u:Ae)(s':Ag):Prop:=∃v H',Inv X pins σ H' s'/\RelV v u/\Q v H'
def TP (X:Cx)(pins:List (Addr×Obj))(σ:St)(Q:Bool->Hp->Prop)(b:Bool)(s':Ag):Prop:=∃H',Inv X pins σ H' s'/\Q b H'
def AP (X:Cx)(pins:List (Addr×Obj))(σ:St)(Q:List V->Hp->Prop)(us:List Ae)(s':Ag):Prop:=∃vs H',Inv X pins σ H' s'/\Vals vs us/\Q vs H'
def SP (X:Cx)(pins:List (Addr×Obj))(D:Ends)(f:Flow)(s':Ag):Prop :=
 match f with
 | .next=>∃σ' H',Inv X pins σ' H' s'/\D.nx σ' H'
 | .brk=>∃σ' H',Inv X pins σ' H' s'/\D.bk σ' H'
 | .cont=>∃σ' H',Inv X pins σ' H' s'/\D.ct σ' H'
 | .ret u=>∃v σ' H',Inv X pins σ' H' s'/\RelV v u/\D.rt v H'
def PE (X:Cx)(e:Expr)(t:TE):Prop :=
 ∀(pins:List (Addr×Obj)) (s:Ag) (σ:St) (H:Hp) (Q:VK),Inv X pins σ H s->t σ H Q->AL (AQ X.prog X.w) X.A (eval e X.env) (EP X pins σ Q) X.xe s
def PT (X:Cx)(e:Expr)(t:TT):Prop :=
 ∀(pins:List (Addr×Obj)) (s:Ag) (σ:St) (H:Hp) (Q:Bool->Hp->Prop),Inv X pins σ H s->t σ H Q->AL (AQ X.prog X.w) X.A (isTrue e X.env (eval e X.env)) (TP X pins σ Q) X.xe s
def PW (X:Cx)(e:Expr)(t:TT):Prop :=
 ∀(whole:Sem Ae) (pins:List (Addr×Obj)) (s:Ag) (σ:St) (H:Hp) (Q:Bool->Hp->Prop),Inv X pins σ H s->t σ H Q->AL (AQ X.prog X.w) X.A (isTrue e X.env whole) (TP X pins σ Q) X.xe s
theorem PW.pt {X:Cx}{e:Expr}{t:TT}(h:PW X e t):PT X e t:=h _
def PA (X:Cx)(es:List Expr)(t:TA):Prop :=
 ∀(pos:Pos) (pins:List (Addr×Obj)) (s:Ag) (σ:St) (H:Hp) (Q:List V->Hp->Prop),Inv X pins σ H s->t σ H Q->AL (AQ X.prog X.w) X.A (spliced (DP pos (Bf es X.env))) (AP X pins σ Q) X.xe s
def PS (X:Cx)(st:Stmt)(t:TS):Prop :=
 ∀(pins:List (Addr×Obj)) (s:Ag) (σ:St) (H:Hp) (D:Ends),Inv X pins σ H s->t D σ H->AL (AQ X.prog X.w) X.A (exec st X.env) (SP X pins D) X.xe s
def PSs (X:Cx)(st:List Stmt)(t:TS):Prop :=
 ∀(pins:List (Addr×Obj)) (s:Ag) (σ:St) (H:Hp) (D:Ends),Inv X pins σ H s->t D σ H->AL (AQ X.prog X.w) X.A (execs st X.env) (SP X pins D) X.xe s
theorem thn {α:Type}{t:Sem α}{Q Q':α -> Ag->Prop}{M:Model}{A:A7}{E:Ae->Ag->Prop}{s:Ag}(h:AL M A t Q E s)(hQ:∀a s,Q a s->Q' a s):AL M A t Q' E s:=Bt h hQ λ_ _ x=>x
open PySem PySem.Spec PyProof.Rows
section
variable  {X:Cx}
theorem bin {a b:Expr}{ta tb:TE}(ha:PE X a ta)(hb:PE X b tb){pins:List (Addr×Obj)}{s:Ag}{σ:St}{H:Hp}{R:V->V->Hp->Prop}(I:Inv X pins σ H s)(h:ta σ H λx H1=>tb σ H1 λy H2=>R x y H2)
  {α:Type} {Q:α -> Ag->Prop} {f:Ae->Ae->Sem α}
  (hf:∀v u s2 x y H2,Inv X pins σ H2 s2->RelV x v->RelV y u->R x y H2->AL (AQ X.prog X.w) X.A (f v u) Q X.xe s2) :
  AL (AQ X.prog X.w) X.A (eval a X.env) (λv s₁=>AL (AQ X.prog X.w) X.A (eval b X.env) (λu s₂=>AL (AQ X.prog X.w) X.A (f v u) Q X.xe s₂) X.xe s₁) X.xe s:=by
 refine thn (ha pins s σ H _ I h) λv s1 ⟨x,H1,I1,r1,q1⟩ =>?_
 refine thn (hb pins s1 σ H1 _ I1 q1) λu s2 ⟨y,H2,I2,r2,q2⟩ =>?_
 exact hf v u s2 x y H2 I2 r1 r2 q2
def tY (i:Nat):TE:=λσ H Q=>∃v,σ[i]? = some (some v)/\Q v H
def tC (v:V):TE:=λ_ H Q=>Q v H
theorem x9 {i:Nat}{x:Str}{pos:Pos}(hN:X.N[i]? = some x)(hv:Vis X.env.scope x)(hd:(x == ("__debug__" : Str))=false:=by decide)(hcd:(x == ("__classdict__" : Str))=false:=by decide):PE X (.Name x pos) (tY i):=by
 intro pins s σ H Q I h
 obtain ⟨v,e,h⟩:=h
 obtain ⟨m,hn,hl⟩:=I.loc
 obtain ⟨u,r,l⟩:=hl i x v hN e hv
 have fin:EP X pins σ Q u s:=⟨v,H,I,r,h⟩
 rcases l with ⟨hk,hm⟩ | ⟨hk,c,hc,hcell⟩
 ·exact HU (wpAny_loadName_local I.ok.kind hk hn hm fin) hd
 ·rcases hk with hk | hk
  ·exact HU (wpAny_loadName_cell I.ok.kind hk hc hcell fin) hd
  ·exact HU (wpAny_loadName_free I.ok.kind hk hc hcell fin hcd) hd
theorem ah {i j pos}:PE X (.Constant (.int i) j pos) (tC (.int i)):=λ_ _ _ H _ I h=>wpAny_Constant_int ⟨.int i,H,I.tok _,⟨_,rfl⟩,h⟩
theorem hW {b j pos}:PE X (.Constant (.bool b) j pos) (tC (.bl b)):=λ_ _ _ H _ I h=>Constant_bool ⟨.bl b,H,I,rfl,h⟩
theorem cj {j pos}:PE X (.Constant .none j pos) (tC .non):=λ_ _ _ H _ I h=>Constant_none ⟨.non,H,I,rfl,h⟩
theorem gF {x j pos}:PE X (.Constant (.str x) j pos) (tC (.str x)):=λ_ _ _ H _ I h=>Calls.Constant_str ⟨.str x,H,I.tok _,⟨_,rfl⟩,h⟩
def Gl (X:Cx)(x:Str):Prop:=X.env.kindOf x=some .globalImplicit
theorem eJ {E:Ae->Ag->Prop}{pins:List (Addr×Obj)}{s:Ag}{σ:St}{H:Hp}{x:Str}{u:Ae}{pos:Pos}{Q:Ae->Ag->Prop}(I:Inv X pins σ H s)(hg:Gl X x)(hm:X.mg x=some u)(h:Q u s)
  (hd:(x == ("__debug__" : Str))=false:=by decide):AL (AQ X.prog X.w) X.A (eval (.Name x pos) X.env) Q E s :=
 Er I.ok.kind hg (Calls.loadGlobal_global (by rw[I.ok.glob];exact I.mod.glob.keeps I.bk) hm h) hd
theorem iI {E:Ae->Ag->Prop}{pins:List (Addr×Obj)}{s:Ag}{σ:St}{H:Hp}{x:Str}{u:Ae}{pos:Pos}{Q:Ae->Ag->Prop}(I:Inv X pins σ H s)(hg:Gl X x)(hm:X.mg x=none)(hv:Bz x=some u)(h:Q u s)
  (hn:x ≠ "__name__" := by decide) (hd:(x == ("__debug__" : Str))=false:=by decide):AL (AQ X.prog X.w) X.A (eval (.Name x pos) X.env) Q E s:=by
 obtain ⟨mb,h1,h2⟩:=I.mod.blt
 exact Er I.ok.kind hg (Calls.loadGlobal_builtin (by rw[I.ok.glob];exact I.mod.glob.keeps I.bk) hm (by rw[I.ok.blt];exact h1.keeps I.bk) ((h2 x hn).trans hv) h) hd
theorem bT {x:Str}{v:V}{u:Ae}{pos:Pos}(hg:Gl X x)(hm:X.mg x=some u)(r:RelV v u)(hd:(x == ("__debug__" : Str))=false:=by decide):PE X (.Name x pos) (tC v) :=
 λ_ _ _ H _ I h=>eJ I hg hm ⟨v,H,I,r,h⟩ hd
theorem bI {x:Str}{v:V}{u:Ae}{pos:Pos}(hg:Gl X x)(hm:X.mg x=none)(hv:Bz x=some u)(r:RelV v u)(hn:x ≠ "__name__" := by decide)(hd:(x == ("__debug__" : Str))=false:=by decide):PE X (.Name x pos) (tC v) :=
 λ_ _ _ H _ I h=>iI I hg hm hv ⟨v,H,I,r,h⟩ hn hd
variable  {a b:Expr}{ta tb:TE}{pos:Pos}
def PC (X:Cx)(op:CmpOp)(a b:Expr)(t:TE):Prop :=
 ∀(pins:List (Addr×Obj)) (s:Ag) (σ:St) (H:Hp) (Q:VK),Inv X pins σ H s->t σ H Q →
  AL (AQ X.prog X.w) X.A (eval a X.env) (λv s₁=>AL (AQ X.prog X.w) X.A (eval b X.env) (λu s₂=>AL (AQ X.prog X.w) X.A (Bo op v u) (EP X pins σ Q) X.xe s₂) X.xe s₁) X.xe s
theorem tZ (b:Expr){op:CmpOp}(h:op ≠ .In)(h2:op ≠ .NotIn):behindInMarks op b=false:=by
 have e1:(op == CmpOp.In)=false:=by cases op <;> first | rfl | exact absurd rfl h
 have e2:(op == CmpOp.NotIn)=false:=by cases op <;> first | rfl | exact absurd rfl h2
 cases b <;> simp[behindInMarks,e1,e2]
def tB (t:TE):TT:=λσ H Q=>t σ H λx H1=>∃c,x = .bl c/\Q c H1
theorem yb {op:CmpOp}{t:TE}(h:PC X op a b t)(h1:behindInMarks op b=false:=by first | exact tZ _ (by decide) (by decide) | rfl):PT X (.Compare a [op] [b] pos) (tB t):=by
 intro pins s σ H Q I hw
 refine FJ (thn (h pins s σ H _ I hw) λv s1 h1=>thn h1 λu s2 h2=>thn h2 λc s3 ⟨x,H1,I1,r1,q1⟩ =>?_) h1
 obtain ⟨d,rfl,q⟩:=q1
 cases r1
 exact BG ⟨H1,I1,q⟩
theorem bJ {e:Expr}{t:TE}(h:PE X e t)(he:∀whole,isTrue e X.env whole=(do let v ← whole;standAt e.pos;Gm [v] (truthy v)):=by intro _;rfl):PT X e (tB t):=by
  intro pins s σ H Q I hw
  refine isTrue_plain (thn (h pins s σ H _ I hw) λv s1 ⟨x,H1,I1,r1,q1⟩ =>?_) (he _)
  obtain ⟨d,rfl,q⟩:=q1
  cases r1
  exact BG ⟨H1,I1,q⟩
variable  {tA tB':TT}{rest:List Expr}
def tAnd (t u:TT):TT:=λσ H Q=>t σ H λc H1=>if c=true then u σ H1 Q else Q false H1
def tOr (t u:TT):TT:=λσ H Q=>t σ H λc H1=>if c=true then Q true H1 else u σ H1 Q
def tNot (t:TT):TT:=λσ H Q=>t σ H λc H1=>Q (!c) H1
theorem fV (ha:PT X a tA):PW X (.BoolOp .And [a] pos) tA:=by
 intro wh pins s σ H Q I h
 refine isTrue_and (thn (ha pins s σ H Q I h) λc s1 e =>?_)
 cases c with
 | true=>exact isTrue_and_nil e
 | false=>exact e
theorem di (ha:PT X a tA):PW X (.BoolOp .Or [a] pos) tA:=by
 intro wh pins s σ H Q I h
 refine isTrue_or (thn (ha pins s σ H Q I h) λc s1 e =>?_)
 cases c with
 | false=>exact isTrue_or_nil e
 | true=>exact e
theorem iJ (ha:PT X a tA)(hb:PW X (.BoolOp .And (b :: rest) pos) tB'):PW X (.BoolOp .And (a :: b :: rest) pos) (tAnd tA tB'):=by
 intro wh pins s σ H Q I h
 refine isTrue_and (thn (ha pins s σ H _ I h) λc s1 ⟨H1,I1,q1⟩ =>?_)
 cases c with
 | true=>exact hb wh pins s1 σ H1 Q I1 q1
 | false=>exact ⟨H1,I1,q1⟩
theorem dX (ha:PT X a tA)(hb:PW X (.BoolOp .Or (b :: rest) pos) tB'):PW X (.BoolOp .Or (a :: b :: rest) pos) (tOr tA tB'):=by
 intro wh pins s σ H Q I h
 refine isTrue_or (thn (ha pins s σ H _ I h) λc s1 ⟨H1,I1,q1⟩ =>?_)
 cases c with
 | true=>exact ⟨H1,I1,q1⟩
 | false=>exact hb wh pins s1 σ H1 Q I1 q1
theorem bK (ha:PT X a tA):PT X (.UnaryOp .Not a pos) (tNot tA):=by
 intro pins s σ H Q I h
 exact isTrue_not (ha pins s σ H (λc H1=>Q (!c) H1) I h)
def zj (ta tb:TE):TE:=λσ H Q=>ta σ H λx H1=>∃c,x = .bl c/\if c=true then tb σ H1 Q else Q (.bl false) H1
def tOrV (ta tb:TE):TE:=λσ H Q=>ta σ H λx H1=>∃c,x = .bl c/\if c=true then Q (.bl true) H1 else tb σ H1 Q
def zk (ta:TE):TE:=λσ H Q=>ta σ H λx H1=>∃c,x = .bl c/\Q (.bl (!c)) H1
theorem fw {op}{t:TE}(h:PE X a t):PE X (.BoolOp op [a] pos) t:=λpins s σ H Q I hw=>BoolOp_one (h pins s σ H Q I hw)
theorem gG (ha:PE X a ta)(hb:PE X (.BoolOp .And (b :: rest) pos) tb):PE X (.BoolOp .And (a :: b :: rest) pos) (zj ta tb):=by
 intro pins s σ H Q I h
 refine BoolOp_and (thn (ha pins s σ H _ I h) λv s1 ⟨x,H1,I1,r1,q1⟩ =>?_)
 obtain ⟨c,rfl,q1⟩:=q1
 cases r1
 refine BG ?_
 cases c with
 | true=>exact hb pins s1 σ H1 Q I1 q1
 | false=>exact ⟨.bl false,H1,I1,rfl,q1⟩
theorem zo (ha:PE X a ta)(hb:PE X (.BoolOp .Or (b :: rest) pos) tb):PE X (.BoolOp .Or (a :: b :: rest) pos) (tOrV ta tb):=by
 intro pins s σ H Q I h
 refine BoolOp_or (thn (ha pins s σ H _ I h) λv s1 ⟨x,H1,I1,r1,q1⟩ =>?_)
 obtain ⟨c,rfl,q1⟩:=q1
 cases r1
 refine BG ?_
 cases c with
 | false=>exact hb pins s1 σ H1 Q I1 q1
 | true=>exact ⟨.bl true,H1,I1,rfl,q1⟩
theorem t5 (ha:PE X a ta):PE X (.UnaryOp .Not a pos) (zk ta):=by
 intro pins s σ H Q I h
 refine UnaryOp_ (thn (ha pins s σ H _ I h) λv s1 ⟨x,H1,I1,r1,q1⟩ =>?_)
 obtain ⟨c,rfl,q1⟩:=q1
 cases r1
 exact not_of (BG ⟨.bl (!c),H1,I1,rfl,q1⟩)
end
open PySem PySem.Spec PyProof.Rows
def SqL (K:Ab)(H:Hp)(a:Addr)(xs:List V):Prop :=
 Rd H a (.lst xs) ∨
  ∃(o:Obj) (its:Array Ae) (n:Nat),K.lookup a=some o/\o.cls = .type "list" /\ o.dict=none/\o.data = .seq its n/\its.size<=Ai/\Vals xs its.toList
def SqT (K:Ab)(H:Hp)(a:Addr)(xs:List V):Prop :=
 Rd H a (.tup xs) ∨
  ∃(o:Obj) (its:Array Ae) (n:Nat),K.lookup a=some o/\o.cls = .type "tuple" /\ o.data = .seq its n/\its.size<=Ai/\Vals xs its.toList
def absV:Ae->Option V
 | .none=>some .non
 | .bool b=>some (.bl b)
 | .int i _=>some (.int i)
 | .str x _=>some (.str x)
 | .bytes b _=>some (.byt b)
 | .float b _=>some (.flt b)
 | .ref a=>some (.ref a)
 | .type n=>some (.ty n)
 | _=>none
theorem RelV.abs {x:V}{u:Ae}(r:RelV x u):absV u=some x:=by
 cases x with
 | non=>cases r;rfl
 | bl _=>cases r;rfl
 | int _=>obtain ⟨t,rfl⟩:=r;rfl
 | str _=>obtain ⟨t,rfl⟩:=r;rfl
 | byt _=>obtain ⟨t,rfl⟩:=r;rfl
 | flt _=>obtain ⟨t,rfl⟩:=r;rfl
 | ref _=>cases r;rfl
 | ty _=>cases r;rfl
theorem RelV.inj {x y:V}{u:Ae}(r:RelV x u)(q:RelV y u):x=y:=A1 (r.abs.symm.trans q.abs)
theorem Vals.inj:∀{xs ys:List V} {us:List Ae},Vals xs us->Vals ys us->xs=ys
 | _,_,_,.nil,.nil=>rfl
 | _,_,_,.cons r t,.cons r' t'=>by rw[r.inj r',Vals.inj t t']
section
variable  {X:Cx}{pins:List (Addr×Obj)}{σ:St}{H:Hp}{s:Ag}{a:Addr}{xs ys:List V}
theorem SqL.of {K:Ab}(h:H a=some (.lst xs)):SqL K H a xs :=.inl (.inl h)
theorem SqT.of {K:Ab}(h:H a=some (.tup xs)):SqT K H a xs :=.inl (.inl h)
theorem Inv.list (I:Inv X pins σ H s)(h:SqL X.K H a xs):∃its:List Ae,Vals xs its/\PlainL s.heap a its.toArray/\xs.length<=Ai:=by
 rcases h with h | ⟨o,its,n,hk,hc,hd,hs,hz,r⟩
 ·obtain ⟨z,its,n,r,e⟩:=h.ok I.hok
  exact ⟨its,r,⟨_,n,e,rfl,rfl,rfl⟩,z⟩
 ·refine ⟨its.toList,r,⟨o,n,I.kIn a o hk,hc,hd,by simpa using hs⟩,?_⟩
  have e:=r.length
  simp only[Ak] at e
  omega
theorem Inv.tuple (I:Inv X pins σ H s)(h:SqT X.K H a xs):∃its:List Ae,Vals xs its/\IsTup s.heap a its.toArray/\xs.length<=Ai:=by
 rcases h with h | ⟨o,its,n,hk,hc,hs,hz,r⟩
 ·obtain ⟨z,its,r,p⟩:=h.ok I.hok
  exact ⟨its,r,p.tup,z⟩
 ·refine ⟨its.toList,r,⟨o,I.kIn a o hk,hc,n,by simpa using hs⟩,?_⟩
  have e:=r.length
  simp only[Ak] at e
  omega
theorem Inv.nk (I:Inv X pins σ H s)(h:SqL X.K H a xs)(h':SqL X.K H a ys):xs=ys:=by
 obtain ⟨its,r,⟨o,n,e,_,_,d⟩,_⟩:=I.list h
 obtain ⟨its',r',⟨o',n',e',_,_,d'⟩,_⟩:=I.list h'
 rw[e] at e';cases e'
 rw[d] at d'
 injection d' with d1 _
 have:its=its':=by simpa using congrArg Array.toList d1
 subst this
 exact r.inj r'
theorem Inv.iK (I:Inv X pins σ H s)(h:SqT X.K H a xs)(h':SqT X.K H a ys):xs=ys:=by
 obtain ⟨its,r,⟨o,e,_,n,d⟩,_⟩:=I.tuple h
 obtain ⟨its',r',⟨o',e',_,n',d'⟩,_⟩:=I.tuple h'
 rw[e] at e';cases e'
 rw[d] at d'
 injection d' with d1 _
 have:its=its':=by simpa using congrArg Array.toList d1
 subst this
 exact r.inj r'
end
abbrev Cx.jf (X:Cx)(E:Ae->Ag->Prop):Cx:={ X with xe:=E }
abbrev Cx.nox (X:Cx):Cx:=X.jf λ_ _=>False
theorem Cx.Ok.jf {X:Cx}(ok:X.Ok)(E:Ae->Ag->Prop):(X.jf E).Ok :=
 ⟨ok.mod,ok.kind,ok.glob,ok.blt,ok.above,ok.inj,ok.has,ok.cab,ok.hd,ok.frames,ok.stk,ok.exf,ok.bs,ok.bsz,ok.noex,ok.exfs,ok.funs,ok.frf⟩
theorem Cx.Ok.cS {X:Cx}{E:Ae->Ag->Prop}(ok:(X.jf E).Ok):X.Ok :=
 ⟨ok.mod,ok.kind,ok.glob,ok.blt,ok.above,ok.inj,ok.has,ok.cab,ok.hd,ok.frames,ok.stk,ok.exf,ok.bs,ok.bsz,ok.noex,ok.exfs,ok.funs,ok.frf⟩
section
variable  {X:Cx}{pins:List (Addr×Obj)}{σ:St}{H:Hp}{s:Ag}{E:Ae->Ag->Prop}
theorem Inv.jf (I:Inv X pins σ H s)(E:Ae->Ag->Prop):Inv (X.jf E) pins σ H s:=⟨I.ok.jf E,I.os,I.bare,I.base,I.loc,I.cell,I.free,I.freeC,I.pin,I.hok,I.len⟩
theorem Inv.cS (I:Inv (X.jf E) pins σ H s):Inv X pins σ H s:=⟨I.ok.cS,I.os,I.bare,I.base,I.loc,I.cell,I.free,I.freeC,I.pin,I.hok,I.len⟩
theorem SP.cS {D:Ends}{f:Flow}{s':Ag}(h:SP (X.jf E) pins D f s'):SP X pins D f s':=by
 cases f with
 | next=>obtain ⟨σ',H',I,q⟩:=h;exact ⟨σ',H',I.cS,q⟩
 | brk=>obtain ⟨σ',H',I,q⟩:=h;exact ⟨σ',H',I.cS,q⟩
 | cont=>obtain ⟨σ',H',I,q⟩:=h;exact ⟨σ',H',I.cS,q⟩
 | ret u=>obtain ⟨v,σ',H',I,r,q⟩:=h;exact ⟨v,σ',H',I.cS,r,q⟩
theorem PSs.nox {st:List Stmt}{t:TS}(h:PSs X.nox st t):PSs X st t:=λpins s σ H D I hw =>
 Bt (h pins s σ H D (I.jf _) hw) (λ_ _ q=>q.cS) λ_ _ z=>False.elim z
end
section
variable  {X:Cx}{st:Stmt}{rest:List Stmt}{t u:TS}{e:Expr}{te:TE}{pos:Pos}
def zq:TS:=λD σ H=>D.nx σ H
def tSeq (t u:TS):TS:=λD σ H=>t { D with nx:=u D } σ H
theorem aL:PSs X [] zq:=λ_ _ σ H _ I h=>DK ⟨σ,H,I,h⟩
theorem ai (h1:PS X st t)(h2:PSs X rest u):PSs X (st :: rest) (tSeq t u):=by
 intro pins s σ H D I h
 refine Fl (thn (h1 pins s σ H { D with nx:=u D } I h) λf s1 q =>?_)
 cases f with
 | next =>
  obtain ⟨σ',H',I',q⟩:=q
  exact h2 pins s1 σ' H' D I' q
 | ret v=>exact q
 | brk=>exact q
 | cont=>exact q
theorem ao (h1:PS X st t):PSs X [st] t:=by
 intro pins s σ H D I h
 refine Fl (thn (h1 pins s σ H D I h) λf s1 q =>?_)
 cases f with
 | next=>exact DK q
 | ret v=>exact q
 | brk=>exact q
 | cont=>exact q
theorem Inv.quiet {pins:List (Addr×Obj)}{σ:St}{H:Hp}{s:Ag}(I:Inv X pins σ H s):interactive X.env=false:=by simp[interactive,I.ok.kind]
def zr (te:TE):TS:=λD σ H=>te σ H λ_ H1=>D.nx σ H1
theorem hX (he:PE X e te)(hs:swapsWith e none pos.line X.env=pure false:=by rfl):PS X (.Expr e pos) (zr te):=by
 intro pins s σ H D I h
 exact wpAny_Expr_any (thn (he pins s σ H _ I h) λv s1 ⟨x,H1,I1,r1,q1⟩=>⟨σ,H1,I1,q1⟩) I.quiet hs
def yc (te:TE):TS:=λD σ H=>te σ H D.rt
theorem aV (he:PE X e te):PS X (.Return (some e) pos) (yc te):=by
 intro pins s σ H D I h
 exact wpAny_Return_some (thn (he pins s σ H _ I h) λv s1 ⟨x,H1,I1,r1,q1⟩=>⟨x,σ,H1,I1,r1,q1⟩)
def tIfS (c:TT)(t u:TS):TS:=λD σ H=>c σ H λb H1=>if b=true then t D σ H1 else u D σ H1
theorem bz {c:Expr}{a b:List Stmt}{tc:TT}(hc:PT X c tc)(ha:PSs X a t)(hb:PSs X b u):PS X (.If c a b pos) (tIfS tc t u):=by
 intro pins s σ H D I h
 refine wpAny_If (thn (hc pins s σ H _ I h) λd s1 ⟨H1,I1,q1⟩ =>?_)
 cases d with
 | true=>exact ha pins s1 σ H1 D I1 q1
 | false=>exact hb pins s1 σ H1 D I1 q1
def yd:TS:=λ_ _ _=>False
theorem bA {sts:List Stmt}:PSs X sts yd:=λ_ _ _ _ _ _ h=>h.elim
end
abbrev TG:=V->St->Hp->(St->Hp->Prop)->Prop
abbrev TGs:=List V->St->Hp->(St->Hp->Prop)->Prop
def PG (X:Cx)(target:Expr)(t:TG):Prop :=
 ∀(pins:List (Addr×Obj)) (s:Ag) (σ:St) (H:Hp) (v:V) (u:Ae) (Q:St->Hp->Prop),Inv X pins σ H s->RelV v u->t v σ H Q →
  AL (AQ X.prog X.w) X.A (assign target X.env u) (λ_ s'=>∃σ' H',Inv X pins σ' H' s'/\Q σ' H') X.xe s
def PGs (X:Cx)(ts:List Expr)(t:TGs):Prop :=
 ∀(pins:List (Addr×Obj)) (s:Ag) (σ:St) (H:Hp) (vs:List V) (us:List Ae) (Q:St->Hp->Prop),Inv X pins σ H s->Vals vs us->t vs σ H Q →
  AL (AQ X.prog X.w) X.A (assignInOrder ((assignEach ts X.env).map (·.2)) us) (λ_ s'=>∃σ' H',Inv X pins σ' H' s'/\Q σ' H') X.xe s
abbrev ye:=V->V->V->Hp->(Hp->Prop)->Prop
def zt (X:Cx)(t:ye):Prop :=
 ∀(pins:List (Addr×Obj)) (s:Ag) (σ:St) (H:Hp) (o i v:V) (ov iv u:Ae) (Q:Hp->Prop),Inv X pins σ H s->RelV o ov->RelV i iv->RelV v u->t o i v H Q →
  AL (AQ X.prog X.w) X.A (setItem ov iv u) (λ_ s'=>∃H',Inv X pins σ H' s'/\Q H') X.xe s
section
variable  {X:Cx}{pos:Pos}
def gu (i:Nat):TG:=λv σ H Q=>Q (σ.set i (some v)) H
theorem aQ {i:Nat}{x:Str}(hN:X.N.Nodup)(hi:X.N[i]? = some x)(hx:Loc X.env.scope x)(hf:X.fn x=true\/X.env.scope.names.lookup x=some .local:=by first | exact .inl rfl | exact .inr rfl | assumption):PG X (.Name x pos) (gu i):=by
 intro pins s σ H v u Q I r h
 exact wpAny_assign_Name (hV I hN hi hx r (λs' I'=>⟨_,H,I',h⟩) hf)
def zu:TGs:=λvs σ H Q=>vs=[]/\Q σ H
def t6 (t:TG)(u:TGs):TGs:=λvs σ H Q=>∃v r,vs=v :: r/\t v σ H λσ' H'=>u r σ' H' Q
theorem mh:PGs X [] zu:=by
 intro pins s σ H vs us Q I r h
 obtain ⟨e,h⟩:=h
 subst e
 cases r
 exact assignInOrder_nil ⟨σ,H,I,h⟩
theorem dY {e:Expr}{es:List Expr}{t:TG}{u:TGs}(h1:PG X e t)(h2:PGs X es u)
  (hs:(assignEach (e :: es) X.env).map (·.2)=assign e X.env :: (assignEach es X.env).map (·.2):=by rfl):PGs X (e :: es) (t6 t u):=by
 intro pins s σ H vs us Q I r h
 obtain ⟨v,vr,e1,h⟩:=h
 subst e1
 cases r with
 | cons r rr =>
  rw[hs]
  refine assignInOrder_cons (thn (h1 pins s σ H _ _ _ I r h) λ_ s1 ⟨σ1,H1,I1,q1⟩ =>?_)
  exact h2 pins s1 σ1 H1 _ _ Q I1 rr q1
def zv (K:Ab)(n:Nat)(t:TGs):TG:=λv σ H Q=>∃a xs,v = .ref a/\SqT K H a xs/\xs.length=n/\t xs σ H Q
theorem pf {es:List Expr}{k:Nat}{t:TGs}{n:Nat}(hc:X.calm=true)(h:PGs X es t)
  (hn:(assignEach es X.env).length=n:=by rfl) (hst:(assignEach es X.env).findIdx? (·.1)=none:=by rfl):PG X (.Tuple es k pos) (zv X.K n t):=by
 intro pins s σ H v u Q I r hw
 obtain ⟨a,xs,e1,hq,hl,hw⟩:=hw
 subst e1
 cases r
 obtain ⟨its,rv,ht,hz⟩:=I.tuple hq
 refine assign_Tuple_tuple (I.ok.hd hc) ht (by simp[hn, <- hl,rv.length]) hst λh' hx =>?_
 have I1:Inv X pins σ H { s with heap:=h' }:=I.kept (t':=s.toks) λb o e=>hx b o (AI (Ar e)) e
 exact h pins _ σ H xs _ Q I1 (by simpa using rv) hw
def gSub (to ti:TE)(t:ye):TG:=λv σ H Q=>to σ H λo H1=>ti σ H1 λi H2=>t o i v H2 λH3=>Q σ H3
theorem t7 {o i:Expr}{to ti:TE}{t:ye}(ho:PE X o to)(hi:PE X i ti)(hs:zt X t)
    (ha:∀v,assign (.Subscript o i pos) X.env v=(do
      let ov ← Gm [v] (eval o X.env)
      let iv ← Gm [v,ov] (eval i X.env)
      standAt pos
      Gm [v,ov,iv] (setItem ov iv v)
      release [v,ov,iv] []):=by intro _;rfl):PG X (.Subscript o i pos) (gSub to ti t):=by
  intro pins s σ H v u Q I r h
  rw[ha]
  refine Af (B4 (thn (ho pins s σ H _ I h) λov s1 ⟨x,H1,I1,r1,q1⟩ =>?_))
  refine Af (B4 (thn (hi pins s1 σ H1 _ I1 q1) λiv s2 ⟨y,H2,I2,r2,q2⟩ =>?_))
  refine Af (Eg (Af (B4 (thn (hs pins s2 σ H2 x y v ov iv u _ I2 r1 r2 r q2) λ_ s3 ⟨H3,I3,q3⟩ =>?_))))
  exact wpAny_release ⟨σ,H3,I3,q3⟩
def yf (te:TE)(g:TG):TS:=λD σ H=>te σ H λx H1=>g x σ H1 D.nx
theorem ph {tg e:Expr}{te:TE}{g:TG}(he:PE X e te)(hg:PG X tg g)(hs:swapsWithSole [tg] e pos.line X.env=pure false:=by rfl)(hw:swappedStores [tg] e X.env=pure none:=by rfl)
  (h1:(assignEach [tg] X.env).map (·.2)=[assign tg X.env]:=by rfl):PS X (.Assign [tg] e pos) (yf te g):=by
 intro pins s σ H D I h
 refine wpAny_Assign_stores (thn (he pins s σ H _ I h) λv s1 ⟨x,H1,I1,r1,q1⟩ =>?_) hs hw
 rw[h1]
 exact thn (hg pins s1 σ H1 x v _ I1 r1 q1) λ_ s2 q=>q
theorem aX {i:Nat}{x:Str}{e:Expr}{te:TE}{pos':Pos}(hN:X.N.Nodup)(hi:X.N[i]? = some x)(hx:Loc X.env.scope x)(he:PE X e te)(hs:swapsWith e (some (.Name x pos')) pos.line X.env=pure false:=by rfl)(hf:X.fn x=true\/X.env.scope.names.lookup x=some .local:=by first | exact .inl rfl | exact .inr rfl | assumption) :
  PS X (.Assign [.Name x pos'] e pos) (yf te (gu i)):=by
 intro pins s σ H D I h
 refine GW (thn (he pins s σ H _ I h) λv s1 ⟨y,H1,I1,r1,q1⟩ =>?_) hs
 exact hV I1 hN hi hx r1 (λs2 I2=>⟨_,H1,I2,q1⟩) hf
end
section
variable  {X:Cx}{pos:Pos}
end
structure It where
 go:Nat->Hp->Prop
 yld:Nat->Hp->V->Hp->Prop
 stop:Nat->Hp->Prop
def jg (X:Cx)(pins:List (Addr×Obj))(H:Hp)(b:Addr):Prop :=
 H b=none/\b≠X.env.locals/\b∉X.fs/\(b∈X.ex\/X.s₀.heap.objs.size<=b)/\(∀x c,X.env.cells.lookup x=some c->c≠b)/\∀p∈X.pn++pins,p.1≠b
theorem Inv.rP {X:Cx}{pins:List (Addr×Obj)}{σ:St}{H H':Hp}{s:Ag}{b:Addr}(I:Inv X pins σ H s)(hb:s.heap.objs.size<=b)(hn:H' b=none):jg X pins H' b:=by
 refine ⟨hn,CZ (Ay I.lt hb),I.x8 hb,.inr (A8 I.sz hb),λx c e z =>?_,λp hp z =>?_⟩
 ·obtain ⟨v,q⟩:=I.cell x c e
  exact absurd (Ay q.lt (by rw[z];exact hb)) (Bn _)
 ·exact absurd (Ay (Ar (I.pin p hp).1) (by rw[z];exact hb)) (Bn _)
structure Turn (P:Au)(w:AX)(K:Ab)(tg:Expr)(J:It)(fp:List Addr)(it:Addr)(tn:Nat->Heap->Prop):Prop where
 mem:it∈fp
 obj:∀i h,tn i h->∀b∈fp,∃o,h.get? b=some o/\∀v,o.data ≠ .cell v
 keep:∀i h h',tn i h->(∀b∈fp,∀o,h.get? b=some o->h'.get? b=some o)->tn i h'
 item:∀(X:Cx),X.prog=P->X.w=w->X.K=K->X.calm=true->∀(i:Nat) (pins:List (Addr×Obj)) (s:Ag) (σ:St) (H:Hp) (E:Ae->Ag->Prop),Inv X pins σ H s->(∀b∈fp,jg X pins H b)->tn i s.heap->J.go i H →
  AL (AQ P w) X.A (pyNext (.ref it)) (λr s1=>∃u,r=some u ∧
   AL (AQ P w) X.A (letOwnedTupleGo tg (.ref it) u) (λ_ s2=>∃x H',Inv X pins σ H' s2/\RelV x u/\J.yld i H x H'/\tn (i+1) s2.heap/\∀b∈fp,H' b=none) E s1) E s
 done:∀(X:Cx),X.prog=P->X.w=w->X.K=K->X.calm=true->∀(i:Nat) (pins:List (Addr×Obj)) (s:Ag) (σ:St) (H:Hp) (E:Ae->Ag->Prop),Inv X pins σ H s->(∀b∈fp,jg X pins H b)->tn i s.heap->J.stop i H →
  AL (AQ P w) X.A (pyNext (.ref it)) (λr s1=>r=none/\Inv X pins σ H s1) E s
 self:∀(A:A7) (i:Nat) (s:Ag) (Q:Ae->Ag->Prop) (E:Ae->Ag->Prop),tn i s.heap->Q (.ref it) s->AL (AQ P w) A (pyIter (.ref it)) Q E s
abbrev TI:=St->Hp->(It->Hp->Prop)->Prop
def PIE (X:Cx)(pins:List (Addr×Obj))(σ:St)(tg:Expr)(R:It->Hp->Prop)(itv:Ae)(s2:Ag):Prop :=
 ∃(it:Addr) (fp:List Addr) (tn:Nat->Heap->Prop) (J:It) (H':Hp),itv = .ref it/\Inv X pins σ H' s2/\Turn X.prog X.w X.K tg J fp it tn/\tn 0 s2.heap/\(∀b∈fp,jg X pins H' b)/\R J H'
def PI (X:Cx)(tg iter:Expr)(wi:TI):Prop :=
 ∀(pins:List (Addr×Obj)) (s:Ag) (σ:St) (H:Hp) (R:It->Hp->Prop),Inv X pins σ H s->wi σ H R →
  AL (AQ X.prog X.w) X.A (eval iter X.env) (λv s1=>AL (AQ X.prog X.w) X.A (pyIter v) (PIE X pins σ tg R) X.xe s1) X.xe s
theorem qB {M:Model}{A:A7}{E:Ae->Ag->Prop}{s:Ag}{tg:Expr}{it:Addr}{u:Ae}{o:Obj}{n:String}{vs:Array Ae}{Q:Unit->Ag->Prop}(ho:s.heap.get? it=some o)(hc:o.cls = .type n)(hd:o.data = .fields vs)
    (hn:["enumerate", "zip", "dict_itemiterator", "dict_reverseitemiterator", "odict_iterator", "itertools.zip_longest", "itertools.pairwise"].contains n=false) (hQ:Q () s):AL M A (letOwnedTupleGo tg (.ref it) u) Q E s:=by
  unfold letOwnedTupleGo
  cases tg <;> first
    | exact An hQ
    | (cases u <;> first
        | exact An hQ
        | (refine Af (H9 ho ?_)
           rw[hc,hd]
           show AL M A (if (["enumerate", "zip", "dict_itemiterator", "dict_reverseitemiterator", "odict_iterator", "itertools.zip_longest", "itertools.pairwise"].contains n && vs[0]? == some (EE _))=true then _ else _) Q E s
           rw[if_neg (by intro h;rw[hn,DW] at h;cases h)]
           exact An hQ))
def Itl (K:Ab)(a:Addr):It :=
 ⟨λi H=>∃xs x,SqL K H a xs/\xs[i]? = some x,λi H x H'=>H'=H/\∀xs,SqL K H a xs->xs[i]? = some x,λi H=>∃xs,SqL K H a xs/\xs.length<=i⟩
def Itt (K:Ab)(a:Addr):It :=
 ⟨λi H=>∃xs x,SqT K H a xs/\xs[i]? = some x,λi H x H'=>H'=H/\∀xs,SqT K H a xs->xs[i]? = some x,λi H=>∃xs,SqT K H a xs/\xs.length<=i⟩
def Itr (lo:Int)(n:Nat):It:=⟨λi _=>i<n,λi H x H'=>H'=H/\x = .int (lo+i),λi _=>n<=i⟩
theorem kO {P:Au}{w:AX}{K:Ab}{tg:Expr}(a it:Addr):Turn P w K tg (Itl K a) [it] it (λi h=>h.IsListIter it a i) where
 mem:=by simp
 obj:=λi h st b hb=>by
  have e:b=it:=by simpa using hb
  subst e
  obtain ⟨o,e,c,d⟩:=st
  exact ⟨o,e,λv z=>by rw[d] at z;cases z⟩
 keep:=λi h h' st k=>st.at λo e=>k it (by simp) o e
 item:=by
  intro X hP hw hK hc i pins s σ H E I hf st hg
  subst hP hw hK
  obtain ⟨xs,x,hq,hx⟩:=hg
  obtain ⟨its,rv,p,hz⟩:=I.list hq
  obtain ⟨u,hu,ru⟩:=rv.get hx
  obtain ⟨f0,f1,f2,f3,f4,f5⟩:=hf it (by simp)
  refine wpAny_pyNext_list_item st p.isList (x:=u) (by simpa using hu) λh' st' sb =>?_
  have I1:Inv X pins σ H { s with heap:=h' }:=I.turned (t':=s.toks) (λb o hb e=>(sb.2 b hb).trans e) f0 f1 f3 f4 f5
  obtain ⟨o,e,c,d⟩:=id st'
  exact ⟨u,rfl,qB (s:={ s with heap:=h' }) e c d (by decide) ⟨x,H,I1,ru,⟨rfl,λys hy=>by rw[I.nk hy hq];exact hx⟩,st',λb hb=>(hf b hb).1⟩⟩
 done:=by
  intro X hP hw hK hc i pins s σ H E I hf st hg
  subst hP hw hK
  obtain ⟨xs,hq,hx⟩:=hg
  obtain ⟨its,rv,p,hz⟩:=I.list hq
  obtain ⟨f0,f1,f2,f3,f4,f5⟩:=hf it (by simp)
  have hl:=rv.length
  exact wpAny_pyNext_list_end (I.ok.hd hc) st p.isList (by simp;omega) λh' eb=>⟨rfl,I.turned (t':=s.toks) (λb o hb e=>eb b o hb e) f0 f1 f3 f4 f5⟩
 self:=λ_ _ _ _ _ st h=>wpAny_pyIter_listiter st h
theorem jE {P:Au}{w:AX}{K:Ab}{tg:Expr}(a it:Addr):Turn P w K tg (Itt K a) [it] it (λi h=>h.IsTupleIter it a i) where
 mem:=by simp
 obj:=λi h st b hb=>by
  have e:b=it:=by simpa using hb
  subst e
  obtain ⟨o,e,c,d⟩:=st
  exact ⟨o,e,λv z=>by rw[d] at z;cases z⟩
 keep:=λi h h' st k=>st.at λo e=>k it (by simp) o e
 item:=by
  intro X hP hw hK hc i pins s σ H E I hf st hg
  subst hP hw hK
  obtain ⟨xs,x,hq,hx⟩:=hg
  obtain ⟨its,rv,p,hz⟩:=I.tuple hq
  obtain ⟨u,hu,ru⟩:=rv.get hx
  obtain ⟨f0,f1,f2,f3,f4,f5⟩:=hf it (by simp)
  refine wpAny_pyNext_tuple_item st (show s.heap.IsTuple a its.toArray from p) (x:=u) (by simpa using hu) λh' st' sb =>?_
  have I1:Inv X pins σ H { s with heap:=h' }:=I.turned (t':=s.toks) (λb o hb e=>(sb.2 b hb).trans e) f0 f1 f3 f4 f5
  obtain ⟨o,e,c,d⟩:=id st'
  exact ⟨u,rfl,qB (s:={ s with heap:=h' }) e c d (by decide) ⟨x,H,I1,ru,⟨rfl,λys hy=>by rw[I.iK hy hq];exact hx⟩,st',λb hb=>(hf b hb).1⟩⟩
 done:=by
  intro X hP hw hK hc i pins s σ H E I hf st hg
  subst hP hw hK
  obtain ⟨xs,hq,hx⟩:=hg
  obtain ⟨its,rv,p,hz⟩:=I.tuple hq
  obtain ⟨f0,f1,f2,f3,f4,f5⟩:=hf it (by simp)
  have hl:=rv.length
  exact wpAny_pyNext_tuple_end (I.ok.hd hc) st (show s.heap.IsTuple a its.toArray from p) (by simp;omega) λh' eb=>⟨rfl,I.turned (t':=s.toks) (λb o hb e=>eb b o hb e) f0 f1 f3 f4 f5⟩
 self:=λ_ _ _ _ _ st h=>wpAny_pyIter_tupleiter st h
theorem pk {P:Au}{w:AX}{K:Ab}{tg:Expr}(it:Addr)(lo:Int)(n:Nat):Turn P w K tg (Itr lo n) [it] it (λi h=>IsRangeIter h it (lo+(i:Nat)*1) ((n:Int)-(i:Nat)) 1) where
 mem:=by simp
 obj:=λi h st b hb=>by
  have e:b=it:=by simpa using hb
  subst e
  exact ⟨_,st,λv z=>by
   have z':Data.fields _=Data.cell v:=z
   cases z'⟩
 keep:=λi h h' st k=>k it (by simp) _ st
 item:=by
  intro X hP hw hK hc i pins s σ H E I hf st hg
  subst hP hw hK
  obtain ⟨f0,f1,f2,f3,f4,f5⟩:=hf it (by simp)
  have W:=Ik (prog:=X.prog) (w:=X.w) (I.ok.hd hc) it lo 1 n
  refine W.item i s _ _ hg st λv h' tk hv st' kk =>?_
  obtain ⟨t,rfl⟩:=hv
  have I1:Inv X pins σ H { s with heap:=h',toks:=tk }:=I.turned (λb o hb e=>kk b o (by simpa using hb) e) f0 f1 f3 f4 f5
  refine ⟨_,rfl,qB (s:={ s with heap:=h',toks:=tk }) (n := "range_iterator") st' rfl rfl (by decide) ⟨.int (lo+i),H,I1,⟨t,?_⟩,⟨rfl,rfl⟩,st',λb hb=>(hf b hb).1⟩⟩
  rw[Int.mul_one]
 done:=by
  intro X hP hw hK hc i pins s σ H E I hf st hg
  subst hP hw hK
  obtain ⟨f0,f1,f2,f3,f4,f5⟩:=hf it (by simp)
  exact Fx (I.ok.hd hc) st (by have:n<=i:=hg;omega) λh' eb=>⟨rfl,I.turned (t':=s.toks) (λb o hb e=>eb b o hb e) f0 f1 f3 f4 f5⟩
 self:=λ_ _ _ _ _ st h=>Fy st h
open PySem PySem.Spec PyProof.Rows
section
variable  {X:Cx}{tg:Expr}
def zw (K:Ab)(tl:TE):TI:=λσ H R=>tl σ H λx H1=>∃a,x = .ref a/\(∃xs,SqL K H1 a xs)/\R (Itl K a) H1
def iTup (K:Ab)(tl:TE):TI:=λσ H R=>tl σ H λx H1=>∃a,x = .ref a/\(∃xs,SqT K H1 a xs)/\R (Itt K a) H1
theorem qC {l:Expr}{tl:TE}(hl:PE X l tl):PI X tg l (zw X.K tl):=by
 intro pins s σ H R I h
 refine thn (hl pins s σ H _ I h) λv s1 ⟨x,H1,I1,r1,q1⟩ =>?_
 obtain ⟨a,e,⟨xs,hq⟩,q⟩:=q1
 subst e
 cases r1
 obtain ⟨its,rv,p,hz⟩:=I1.list hq
 refine DT p.isList ?_
 refine ⟨s1.heap.objs.size,[s1.heap.objs.size],_,_,H1,rfl,I1.kept (t':=s1.toks) λb o e=>Ad _ e,kO a _,⟨_,Av _ rfl,rfl,rfl⟩,λb hb =>?_,q⟩
 have e:b=s1.heap.objs.size:=by simpa using hb
 subst e
 exact I1.rP (Ah _) (I1.hok.fresh (Ah _))
theorem cU {l:Expr}{tl:TE}(hl:PE X l tl):PI X tg l (iTup X.K tl):=by
 intro pins s σ H R I h
 refine thn (hl pins s σ H _ I h) λv s1 ⟨x,H1,I1,r1,q1⟩ =>?_
 obtain ⟨a,e,⟨xs,hq⟩,q⟩:=q1
 subst e
 cases r1
 obtain ⟨its,rv,p,hz⟩:=I1.tuple hq
 refine CM (show s1.heap.IsTuple a its.toArray from p) ?_
 refine ⟨s1.heap.objs.size,[s1.heap.objs.size],_,_,H1,rfl,I1.kept (t':=s1.toks) λb o e=>Ad _ e,jE a _,⟨_,Av _ rfl,rfl,rfl⟩,λb hb =>?_,q⟩
 have e:b=s1.heap.objs.size:=by simpa using hb
 subst e
 exact I1.rP (Ah _) (I1.hok.fresh (Ah _))
theorem t8 {pins:List (Addr×Obj)}{σ:St}{H:Hp}{s:Ag}{R:It->Hp->Prop}{E:Ae->Ag->Prop}{lo hi:Int}{t u v:Tok}{tk:Nat}(I:Inv X pins σ H s)(h1 : -(2 ^ 62)<=lo)(h2:lo<2 ^ 62)(h3 : -(2 ^ 62)<=hi)(h4:hi<2 ^ 62)
  (q:R (Itr lo (hi-lo).toNat) H):AL (AQ X.prog X.w) X.A (pyIter (.ref s.heap.objs.size)) (PIE X pins σ tg R) E { s with heap:=s.heap.push { cls :=.type "range",data :=.fields #[.int lo t,.int hi u,.int 1 v] },toks:=tk }:=by
 refine GF (Il ..) (small_one h1 h2 h3 h4) ?_
 have I1:Inv X pins σ H { s with heap:=s.heap.push { cls :=.type "range",data :=.fields #[.int lo t,.int hi u,.int 1 v] },toks:=tk }:=I.kept λb o e=>Ad _ e
 refine ⟨(s.heap.push { cls :=.type "range",data :=.fields #[.int lo t,.int hi u,.int 1 v] }).objs.size,[(s.heap.push { cls :=.type "range",data :=.fields #[.int lo t,.int hi u,.int 1 v] }).objs.size],_,_,H,rfl,
  I1.kept (t':=tk) λb o e=>Ad _ e,pk _ lo (hi-lo).toNat,?_,λb hb =>?_,q⟩
 ·have e1:lo+((0:Nat):Int)*1=lo:=by simp
  have e2:(((hi-lo).toNat:Nat):Int)-((0:Nat):Int)=Builtin.Range.rangeSize lo hi 1:=by rw[rangeSize_one];split <;> omega
  show IsRangeIter _ _ (lo+((0:Nat):Int)*1) ((((hi-lo).toNat:Nat):Int)-((0:Nat):Int)) 1
  rw[e1,e2]
  exact Av _ rfl
 ·have e:b=(s.heap.push { cls :=.type "range",data :=.fields #[.int lo t,.int hi u,.int 1 v] }).objs.size:=by simpa using hb
  subst e
  exact I1.rP (Ah _) (I1.hok.fresh (Ah _))
def zx (ta:TA):TI:=λσ H R=>ta σ H λvs H1=>∃j:Int,vs=[.int j] /\ -(2 ^ 62)<=j/\j<2 ^ 62/\R (Itr 0 j.toNat) H1
theorem bR {a:Expr}{ta:TA}{p pos:Pos}(hg:Gl X "range")(hm:X.mg "range" = none)(ha:PA X [a] ta)(hs:Bf [a] X.env=[(false,eval a X.env)]:=by rfl):PI X tg (.Call (.Name "range" p) [a] [] pos) (zx ta):=by
 intro pins s σ H R I h
 refine Call_ (iI I hg hm boot_range (Cy (thn (ha pos pins s σ H _ I h) λus s1 ⟨vs,H1,I1,r1,q1⟩ =>?_) hs rfl))
 obtain ⟨j,e,q1,q2,q⟩:=q1
 subst e
 cases r1 with
 | cons r rr =>
  cases rr
  obtain ⟨t,rfl⟩:=r
  exact call_range_1 (t8 I1 (by omega) (by omega) q1 q2 (by simpa using q))
def tFor (wi:TI)(g:TG)(tb:TS):TS:=λD σ H=>wi σ H λJ H1=>∃W:Nat->Nat->St->Hp->Prop,(∃m,W 0 m σ H1)/\∀i m σ H,W i m σ H →
 (J.stop i H/\D.nx σ H)\/(J.go i H/\∃N:St->Hp->Prop,(∀σ' H',N σ' H'->∃m',m'<m/\W (i+1) m' σ' H')/\∀x H',J.yld i H x H'->g x σ H' λσ2 H2=>tb { D with nx:=N,ct:=N,bk:=D.nx } σ2 H2)
def gH (fp:List Addr)(h:Heap):List (Addr×Obj):=fp.filterMap λb=>(h.get? b).map λo=>(b,o)
theorem dj {fp:List Addr}{h:Heap}{b:Addr}{o:Obj}(hb:b∈fp)(e:h.get? b=some o):(b,o)∈gH fp h:=C8.mpr ⟨b,hb,by rw[e];rfl⟩
theorem kP {fp:List Addr}{h:Heap}{p:Addr×Obj}(hp:p∈gH fp h):p.1∈fp/\h.get? p.1=some p.2:=by
 obtain ⟨b,hb,e⟩:=C8.mp hp
 cases q:h.get? b with
 | none=>rw[q] at e;cases e
 | some o =>
  rw[q] at e
  have e':(b,o)=p:=A1 e
  subst e'
  exact ⟨hb,q⟩
theorem Inv.pinned {pins:List (Addr×Obj)}{σ:St}{H:Hp}{s:Ag}{fp:List Addr}(I:Inv X pins σ H s)(hf:∀b∈fp,jg X pins H b)(ho:∀b∈fp,∃o,s.heap.get? b=some o/\∀v,o.data ≠ .cell v):Inv X (pins++gH fp s.heap) σ H s :=
 I.hU λp hp=>(Ax.mp hp).elim (λz=>I.pin p (AY _ z)) λz=>by
  obtain ⟨hb,e⟩:=kP z
  obtain ⟨f0,f1,f2,_⟩:=hf p.1 hb
  obtain ⟨o,e',d⟩:=ho p.1 hb
  rw[e] at e';cases e'
  exact ⟨e,f0,f1,f2,d⟩
theorem Inv.dZ {pins pl:List (Addr×Obj)}{σ:St}{H:Hp}{s:Ag}(I:Inv X (pins++pl) σ H s):Inv X pins σ H s:=I.hU λp hp=>I.pin p (AY _ (Cp _ hp))
theorem fz {iter:Expr}{body:List Stmt}{wi:TI}{g:TG}{tb:TS}{pos:Pos}(hp:PassesOwn (AQ X.prog X.w) X.A X.env X.xe)(hc:X.calm=true)(hi:PI X tg iter wi)(hg:PG X tg g)(hb:PSs X body tb)
  (hs:∀x,foldedSetIterable iter X.env x=pure x:=by intro _;rfl):PS X (.For tg iter body [] pos) (tFor wi g tb):=by
 intro pins s σ H D I h
 refine wpAny_For (thn (hi pins s σ H _ I h) λv s1 h1=>thn h1 λitv s2 h2 =>?_) hs
 obtain ⟨it,fp,tn,J,H2,e,I2,T,st2,f2,W,⟨m0,w0⟩,turn⟩:=h2
 subst e
 have stat:∀{H':Hp},(∀b∈fp,H' b=none)->∀b∈fp,jg X pins H' b:=λhn b hb=>⟨hn b hb,(f2 b hb).2⟩
 refine codeAny_forLoop_any (λn s'=>∃i σ' H',Inv X pins σ' H' s'/\tn i s'.heap/\(∀b∈fp,H' b=none)/\W i n σ' H') ?_ m0 ⟨0,σ,H2,I2,st2,λb hb=>(f2 b hb).1,w0⟩
 rintro n s3 ⟨i,σ3,H3,I3,st3,fr3,w3⟩
 rcases turn i n σ3 H3 w3 with ⟨stop,qn⟩ | ⟨go,N,hN,step⟩
 ·refine DL hp (thn (T.done X rfl rfl rfl hc i pins s3 σ3 H3 X.xe I3 (stat fr3) st3 stop) λr s4 ⟨hr,I4⟩ =>?_)
  subst hr
  exact DK ⟨σ3,H3,I4,qn⟩
 ·refine DL hp (thn (T.item X rfl rfl rfl hc i pins s3 σ3 H3 X.xe I3 (stat fr3) st3 go) λr s4 ⟨u,hr,h4⟩ =>?_)
  subst hr
  refine DL hp (thn h4 λ_ s5 ⟨x,H5,I5,r5,y5,st5,fr5⟩ =>?_)
  have I5':=I5.pinned (stat fr5) (T.obj _ _ st5)
  refine DL hp (thn (hg _ s5 σ3 H5 x u _ I5' r5 (step x H5 y5)) λ_ s6 ⟨σ6,H6,I6,q6⟩ =>?_)
  refine DL hp (thn (hb _ s6 σ6 H6 _ I6 q6) λf s7 q7 =>?_)
  have again:∀{σ7:St} {H7:Hp},Inv X (pins++gH fp s5.heap) σ7 H7 s7->N σ7 H7->∃m,m<n/\∃i σ' H',Inv X pins σ' H' s7/\tn i s7.heap/\(∀b∈fp,H' b=none)/\W i m σ' H':=λ{σ7 H7} I7 n7=>by
   obtain ⟨m',hm,w7⟩:=hN σ7 H7 n7
   refine ⟨m',hm,i+1,σ7,H7,I7.dZ,T.keep _ _ _ st5 λb hb o e=>(I7.pin (b,o) (AY _ (AY _ (dj hb e)))).1,λb hb =>?_,w7⟩
   obtain ⟨o,e,d⟩:=T.obj _ _ st5 b hb
   exact (I7.pin (b,o) (AY _ (AY _ (dj hb e)))).2.1
  cases f with
  | next=>obtain ⟨σ7,H7,I7,n7⟩:=q7;exact again I7 n7
  | cont=>obtain ⟨σ7,H7,I7,n7⟩:=q7;exact again I7 n7
  | brk=>obtain ⟨σ7,H7,I7,q7⟩:=q7;exact ⟨σ7,H7,I7.dZ,q7⟩
  | ret v=>obtain ⟨x7,σ7,H7,I7,r7,q7⟩:=q7;exact ⟨x7,σ7,H7,I7.dZ,r7,q7⟩
end
theorem t9 {K:Ab}{a:Addr}{xs:List V}{g:TG}{tb:TS}{D:Ends}{σ:St}{H:Hp}(Pv:Nat->St->Hp->Prop)(h0:Pv 0 σ H)(hl:∀i σ H,i<=xs.length->Pv i σ H->SqL K H a xs)
  (hs:∀i x σ H,xs[i]? = some x->Pv i σ H->g x σ H λσ2 H2=>tb { D with nx:=Pv (i+1),ct:=Pv (i+1),bk:=D.nx } σ2 H2) (hd:∀σ H,Pv xs.length σ H->D.nx σ H) :
  ∃W:Nat->Nat->St->Hp->Prop,(∃m,W 0 m σ H)/\∀i m σ H,W i m σ H →
   ((Itl K a).stop i H/\D.nx σ H)\/((Itl K a).go i H/\∃N:St->Hp->Prop,(∀σ' H',N σ' H'->∃m',m'<m/\W (i+1) m' σ' H')/\∀x H',(Itl K a).yld i H x H'->g x σ H' λσ2 H2=>tb { D with nx:=N,ct:=N,bk:=D.nx } σ2 H2):=by
 refine ⟨λi m σ H=>m=xs.length-i/\i<=xs.length/\Pv i σ H,⟨xs.length,by simp,A5 _,h0⟩,?_⟩
 rintro i m σ H ⟨rfl,hi,p⟩
 have q:=hl i σ H hi p
 by_cases hlt:i<xs.length
 ·refine .inr ⟨⟨xs,xs[i],q,by simp[hlt]⟩,Pv (i+1),λσ' H' p'=>⟨xs.length-(i+1),by omega,rfl,hlt,p'⟩,λx H' y =>?_⟩
  obtain ⟨e,y⟩:=y
  subst e
  exact hs i x σ _ (y xs q) p
 ·have e:i=xs.length:=by omega
  subst e
  exact .inl ⟨⟨xs,q,Ah _⟩,hd σ H p⟩
theorem cy {lo:Int}{n:Nat}{g:TG}{tb:TS}{D:Ends}{σ:St}{H:Hp}(Pv:Nat->St->Hp->Prop)(h0:Pv 0 σ H)
  (hs:∀i σ H,i<n->Pv i σ H->g (.int (lo+i)) σ H λσ2 H2=>tb { D with nx:=Pv (i+1),ct:=Pv (i+1),bk:=D.nx } σ2 H2) (hd:∀σ H,Pv n σ H->D.nx σ H) :
  ∃W:Nat->Nat->St->Hp->Prop,(∃m,W 0 m σ H)/\∀i m σ H,W i m σ H →
   ((Itr lo n).stop i H/\D.nx σ H)\/((Itr lo n).go i H/\∃N:St->Hp->Prop,(∀σ' H',N σ' H'->∃m',m'<m/\W (i+1) m' σ' H')/\∀x H',(Itr lo n).yld i H x H'->g x σ H' λσ2 H2=>tb { D with nx:=N,ct:=N,bk:=D.nx } σ2 H2):=by
 refine ⟨λi m σ H=>m=n-i/\i<=n/\Pv i σ H,⟨n,by simp,A5 _,h0⟩,?_⟩
 rintro i m σ H ⟨rfl,hi,p⟩
 by_cases hlt:i<n
 ·refine .inr ⟨hlt,Pv (i+1),λσ' H' p'=>⟨n-(i+1),by omega,rfl,hlt,p'⟩,λx H' y =>?_⟩
  obtain ⟨e,y⟩:=y
  subst e y
  exact hs i σ _ hlt p
 ·have e:i=n:=by omega
  subst e
  exact .inl ⟨Ah _,hd σ H p⟩
open PySem PySem.Spec PyProof.Rows
abbrev R2:=V->V->Hp->VK->Prop
def OpR (X:Cx)(f:Ae->Ae->Sem Ae)(r:R2):Prop :=
 ∀(pins:List (Addr×Obj)) (s:Ag) (σ:St) (H:Hp) (x y:V) (v u:Ae) (Q:VK),Inv X pins σ H s->RelV x v->RelV y u->r x y H Q →
  AL (AQ X.prog X.w) X.A (f v u) (EP X pins σ Q) X.xe s
def UnR (X:Cx)(f:Ae->Sem Ae)(r:V->Hp->VK->Prop):Prop :=
 ∀(pins:List (Addr×Obj)) (s:Ag) (σ:St) (H:Hp) (x:V) (v:Ae) (Q:VK),Inv X pins σ H s->RelV x v->r x H Q →
  AL (AQ X.prog X.w) X.A (f v) (EP X pins σ Q) X.xe s
def b8 (X:Cx)(f:Ae)(r:List V->Hp->VK->Prop):Prop :=
 ∀(pins:List (Addr×Obj)) (s:Ag) (σ:St) (H:Hp) (xs:List V) (us:List Ae) (Q:VK),Inv X pins σ H s->Vals xs us->r xs H Q →
  AL (AQ X.prog X.w) X.A (call f us) (EP X pins σ Q) X.xe s
def tOp (r:R2)(ta tb:TE):TE:=λσ H Q=>ta σ H λx H1=>tb σ H1 λy H2=>r x y H2 Q
def tUn (r:V->Hp->VK->Prop)(ta:TE):TE:=λσ H Q=>ta σ H λx H1=>r x H1 Q
def rI (C:Int->Int->Prop)(g:Int->Int->V):R2:=λx y H Q=>∃i j,x = .int i/\y = .int j/\C i j/\Q (g i j) H
def rI0 (g:Int->Int->V):R2:=λx y H Q=>∃i j,x = .int i/\y = .int j/\Q (g i j) H
def rU (g:Int->V):V->Hp->VK->Prop:=λx H Q=>∃i,x = .int i/\Q (g i) H
section
variable  {X:Cx}{a b c:Expr}{ta tb tc:TE}{pos:Pos}
theorem yg (ha:PE X a ta)(hb:PE X b tb){pins:List (Addr×Obj)}{s:Ag}{σ:St}{H:Hp}{R:V->V->Hp->Prop}(I:Inv X pins σ H s)
  (h:ta σ H λx H1=>tb σ H1 λy H2=>R x y H2) {Q:Ae->Ag->Prop} {f:Ae->Ae->Sem Ae}
  (hf:∀v u s2 x y H2,Inv X pins σ H2 s2->RelV x v->RelV y u->R x y H2->AL (AQ X.prog X.w) X.A (f v u) Q X.xe s2) :
  AL (AQ X.prog X.w) X.A (eval a X.env) (λv s₁=>AL (AQ X.prog X.w) X.A (eval b X.env) (λu s₂=>AL (AQ X.prog X.w) X.A (f v u) Q X.xe s₂) X.xe s₁) X.xe s:=by
 refine thn (ha pins s σ H _ I h) λv s1 ⟨x,H1,I1,r1,q1⟩ =>?_
 refine thn (hb pins s1 σ H1 _ I1 q1) λu s2 ⟨y,H2,I2,r2,q2⟩ =>?_
 exact hf v u s2 x y H2 I2 r1 r2 q2
theorem ba {op:Operator}{r:R2}(ho:OpR X (binaryOp op) r)(ha:PE X a ta)(hb:PE X b tb):PE X (.BinOp a op b pos) (tOp r ta tb):=by
 intro pins s σ H Q I h
 exact wpAny_BinOp (yg ha hb I h λv u s2 x y H2 I2 rx ry q=>ho pins s2 σ H2 x y v u Q I2 rx ry q)
theorem qD {op:UnaryOp}{r:V->Hp->VK->Prop}(ho:UnR X (unaryOp op) r)(ha:PE X a ta):PE X (.UnaryOp op a pos) (tUn r ta):=by
 intro pins s σ H Q I h
 exact UnaryOp_ (thn (ha pins s σ H _ I h) λv s1 ⟨x,H1,I1,r1,q1⟩=>ho pins s1 σ H1 x v Q I1 r1 q1)
theorem opI {f:Ae->Ae->Sem Ae}{C:Int->Int->Prop}{g:Int->Int->Int}
  (rule:∀(i j:Int) (t u:Tok) (s:Ag) (Q:Ae->Ag->Prop) (E:Ae->Ag->Prop),C i j->Q (.int (g i j) s.toks) { s with toks:=s.toks+1 }->AL (AQ X.prog X.w) X.A (f (.int i t) (.int j u)) Q E s) :
  OpR X f (rI C λi j =>.int (g i j)):=by
 intro pins s σ H x y v u Q I rx ry h
 obtain ⟨i,j,rfl,rfl,hc,q⟩:=h
 obtain ⟨t,rfl⟩:=rx
 obtain ⟨t',rfl⟩:=ry
 exact rule i j t t' s _ _ hc ⟨.int (g i j),H,I.tok _,⟨_,rfl⟩,q⟩
theorem zy {f:Ae->Ae->Sem Ae}{g:Int->Int->Int}
  (rule:∀(i j:Int) (t u:Tok) (s:Ag) (Q:Ae->Ag->Prop) (E:Ae->Ag->Prop),Q (.int (g i j) s.toks) { s with toks:=s.toks+1 }->AL (AQ X.prog X.w) X.A (f (.int i t) (.int j u)) Q E s) :
  OpR X f (rI0 λi j =>.int (g i j)):=by
 intro pins s σ H x y v u Q I rx ry h
 obtain ⟨i,j,rfl,rfl,q⟩:=h
 obtain ⟨t,rfl⟩:=rx
 obtain ⟨t',rfl⟩:=ry
 exact rule i j t t' s _ _ ⟨.int (g i j),H,I.tok _,⟨_,rfl⟩,q⟩
theorem vQ {f:Ae->Ae->Sem Ae}{g:Int->Int->Bool}
  (rule:∀(i j:Int) (t u:Tok) (s:Ag) (Q:Ae->Ag->Prop) (E:Ae->Ag->Prop),Q (.bool (g i j)) s->AL (AQ X.prog X.w) X.A (f (.int i t) (.int j u)) Q E s) :
  OpR X f (rI0 λi j =>.bl (g i j)):=by
 intro pins s σ H x y v u Q I rx ry h
 obtain ⟨i,j,rfl,rfl,q⟩:=h
 obtain ⟨t,rfl⟩:=rx
 obtain ⟨t',rfl⟩:=ry
 exact rule i j t t' s _ _ ⟨.bl (g i j),H,I,rfl,q⟩
def CDiv (i j:Int):Prop:=0<j/\j<1073741824
def CPow (i j:Int):Prop:=0<=j/\j<=1000000/\i.natAbs<2 ^ 64
def yh (i j:Int):Prop:=(-(2 ^ 64)<i/\i<2 ^ 64)\/(-(2 ^ 64)<j/\j<2 ^ 64)
theorem yh.ok {i j:Int}(h:yh i j):IntMulOk i j:=by
 rcases h with ⟨h1,h2⟩ | ⟨h1,h2⟩
 ·exact .of_left (intBits_le_64 h1 h2)
 ·exact .of_right (intBits_le_64 h1 h2)
theorem eL:OpR X (binaryOp .Add) (rI0 λi j =>.int (i+j)):=zy λ_ _ _ _ _ _ _ q=>add_int q
theorem yi:OpR X (binaryOp .Sub) (rI0 λi j =>.int (i-j)):=zy λ_ _ _ _ _ _ _ q=>sub_int q
theorem gI:OpR X (binaryOp .Mult) (rI yh λi j =>.int (i*j)):=opI λ_ _ _ _ _ _ _ hc q=>mul_int q hc.ok
theorem mi:OpR X (binaryOp .FloorDiv) (rI CDiv λi j =>.int (i/j)):=opI λi j _ _ _ _ _ hc q=>by
 have h1:(0:Int)<j:=hc.1
 have h2:j<1073741824:=hc.2
 exact floordiv_int (by omega) (by rw[Int.fdiv_eq_ediv_of_nonneg i (by omega)];exact q) (.inl (PyProof.noPylong_small (by omega)))
theorem gJ:OpR X (binaryOp .Mod) (rI (λ_ j=>0<j) λi j =>.int (i%j)):=opI λi j _ _ _ _ _ hc q=>by
 have h1:(0:Int)<j:=hc
 exact mod_int' (by omega) (by rw[Int.fmod_eq_emod_of_nonneg i (by omega)];exact q)
theorem iL:OpR X (binaryOp .Pow) (rI CPow λi j =>.int (i ^ j.toNat)):=opI λ_ _ _ _ _ _ _ hc q=>pow_int_small hc.1 hc.2.1 hc.2.2 q
theorem unI {f:Ae->Sem Ae}{g:Int->Int}
  (rule:∀(i:Int) (t:Tok) (s:Ag) (Q:Ae->Ag->Prop) (E:Ae->Ag->Prop),Q (.int (g i) s.toks) { s with toks:=s.toks+1 }->AL (AQ X.prog X.w) X.A (f (.int i t)) Q E s) :
  UnR X f (rU λi =>.int (g i)):=by
 intro pins s σ H x v Q I rx h
 obtain ⟨i,rfl,q⟩:=h
 obtain ⟨t,rfl⟩:=rx
 exact rule i t s _ _ ⟨.int (g i),H,I.tok _,⟨_,rfl⟩,q⟩
theorem mj:UnR X (unaryOp .USub) (rU λi =>.int (-i)):=unI λ_ _ _ _ _ q=>neg_int q
end
def zA:V->V->Bool
 | .non,.non=>true | .non,.int _=>true | .int _,.non=>true | .non,.bl _=>true | .bl _,.non=>true | .non,.str _=>true | .str _,.non=>true
 | .int _,.int _=>true | .bl _,.bl _=>true | .str _,.str _=>true | .byt _,.byt _=>true
 | .int _,.str _=>true | .str _,.int _=>true | .bl _,.str _=>true | .str _,.bl _=>true
 | _,_=>false
def rEq:R2:=λx y H Q=>zA x y=true/\Q (.bl (decide (x=y))) H
def rNe:R2:=λx y H Q=>zA x y=true/\Q (.bl (!decide (x=y))) H
theorem qF {i j:Int}:decide (V.int i=V.int j)=(i == j):=by
 rw[De]
 simp
theorem ue {i j:Bool}:decide (V.bl i=V.bl j)=(i == j):=by
 rw[De]
 simp
theorem qG {i j:Str}:decide (V.str i=V.str j)=(i == j):=by
 rw[De]
 simp
theorem qH {i j:Array UInt8}:decide (V.byt i=V.byt j)=(i.toList == j.toList):=by
 rw[De]
 cases i
 cases j
 simp
section
variable  {X:Cx}{a b c:Expr}{ta tb tc:TE}{pos:Pos}
theorem aY {pins:List (Addr×Obj)}{σ:St}{H:Hp}{s:Ag}{Q:VK}{k k':Bool}(I:Inv X pins σ H s)(q:Q (.bl k) H)(e:k=k'):EP X pins σ Q (.bool k') s:=by
 subst e
 exact ⟨.bl k,H,I,rfl,q⟩
theorem fq:OpR X (Bo .Eq) rEq:=by
 intro pins s σ H x y v u Q I rx ry h
 obtain ⟨hs,q⟩:=h
 cases x with
 | non =>
  cases rx
  cases y with
  | non=>cases ry;exact PySem.EqNone.eq_none_none (aY I q (by simp))
  | bl j=>cases ry;exact PySem.EqNone.eq_none_bool (aY I q (by simp))
  | int j=>obtain ⟨t',rfl⟩:=ry;exact PySem.EqNone.eq_none_int (aY I q (by simp))
  | str j=>obtain ⟨t',rfl⟩:=ry;exact PySem.EqNone.eq_none_str (aY I q (by simp))
  | _=>exact absurd (show false=true from hs) Ao
 | bl i =>
  cases rx
  cases y with
  | non=>cases ry;exact PySem.EqNone.eq_bool_none (aY I q (by simp))
  | bl j=>cases ry;exact eq_bool (aY I q ue)
  | str j=>obtain ⟨t',rfl⟩:=ry;exact Hz (aY I q (by simp))
  | _=>exact absurd (show false=true from hs) Ao
 | int i =>
  obtain ⟨t,rfl⟩:=rx
  cases y with
  | non=>cases ry;exact PySem.EqNone.eq_int_none (aY I q (by simp))
  | int j=>obtain ⟨t',rfl⟩:=ry;exact eq_int (aY I q qF)
  | str j=>obtain ⟨t',rfl⟩:=ry;exact HJ (aY I q (by simp))
  | _=>exact absurd (show false=true from hs) Ao
 | str i =>
  obtain ⟨t,rfl⟩:=rx
  cases y with
  | non=>cases ry;exact PySem.EqNone.eq_str_none (aY I q (by simp))
  | bl j=>cases ry;exact HA (aY I q (by simp))
  | int j=>obtain ⟨t',rfl⟩:=ry;exact HN (aY I q (by simp))
  | str j=>obtain ⟨t',rfl⟩:=ry;exact eq_str (aY I q qG)
  | _=>exact absurd (show false=true from hs) Ao
 | byt i =>
  obtain ⟨t,rfl⟩:=rx
  cases y with
  | byt j=>obtain ⟨t',rfl⟩:=ry;exact PySem.W.eq_bytes (aY I q qH)
  | _=>exact absurd (show false=true from hs) Ao
 | _=>cases y <;> exact absurd (show false=true from hs) Ao
theorem qI:OpR X (Bo .NotEq) rNe:=by
 intro pins s σ H x y v u Q I rx ry h
 obtain ⟨hs,q⟩:=h
 cases x with
 | non =>
  cases rx
  cases y with
  | non=>cases ry;exact PySem.EqNone.ne_none_none (aY I q (by simp))
  | bl j=>cases ry;exact PySem.EqNone.ne_none_bool (aY I q (by simp))
  | int j=>obtain ⟨t',rfl⟩:=ry;exact PySem.EqNone.ne_none_int (aY I q (by simp))
  | str j=>obtain ⟨t',rfl⟩:=ry;exact PySem.EqNone.ne_none_str (aY I q (by simp))
  | _=>exact absurd (show false=true from hs) Ao
 | bl i =>
  cases rx
  cases y with
  | non=>cases ry;exact PySem.EqNone.ne_bool_none (aY I q (by simp))
  | bl j=>cases ry;exact ne_bool (aY I q (congrArg not ue))
  | str j=>obtain ⟨t',rfl⟩:=ry;exact HB (aY I q (by simp))
  | _=>exact absurd (show false=true from hs) Ao
 | int i =>
  obtain ⟨t,rfl⟩:=rx
  cases y with
  | non=>cases ry;exact PySem.EqNone.ne_int_none (aY I q (by simp))
  | int j=>obtain ⟨t',rfl⟩:=ry;exact ne_int (aY I q (congrArg not qF))
  | str j=>obtain ⟨t',rfl⟩:=ry;exact HP (aY I q (by simp))
  | _=>exact absurd (show false=true from hs) Ao
 | str i =>
  obtain ⟨t,rfl⟩:=rx
  cases y with
  | non=>cases ry;exact PySem.EqNone.ne_str_none (aY I q (by simp))
  | bl j=>cases ry;exact HC (aY I q (by simp))
  | int j=>obtain ⟨t',rfl⟩:=ry;exact HS (aY I q (by simp))
  | str j=>obtain ⟨t',rfl⟩:=ry;exact ne_str (aY I q (congrArg not qG))
  | _=>exact absurd (show false=true from hs) Ao
 | byt i =>
  obtain ⟨t,rfl⟩:=rx
  cases y with
  | byt j=>obtain ⟨t',rfl⟩:=ry;exact PySem.W.ne_bytes (aY I q (congrArg not qH))
  | _=>exact absurd (show false=true from hs) Ao
 | _=>cases y <;> exact absurd (show false=true from hs) Ao
theorem nq:OpR X (Bo .Lt) (rI0 λi j =>.bl (decide (i<j))):=vQ λ_ _ _ _ _ _ _ q=>lt_int q
theorem kQ:OpR X (Bo .LtE) (rI0 λi j =>.bl (decide (i<=j))):=vQ λ_ _ _ _ _ _ _ q=>le_int q
theorem kR:OpR X (Bo .Gt) (rI0 λi j =>.bl (decide (j<i))):=vQ λ_ _ _ _ _ _ _ q=>gt_int q
theorem zB:OpR X (Bo .GtE) (rI0 λi j =>.bl (decide (j<=i))):=vQ λ_ _ _ _ _ _ _ q=>ge_int q
theorem uf:OpR X (Bo .Is) (λx y H Q=>y = .non/\Q (.bl (decide (x = .non))) H):=by
 intro pins s σ H x y v u Q I rx ry h
 obtain ⟨rfl,q⟩:=h
 cases ry
 refine is_none_gen (aY I q ?_)
 cases x <;> first
  | (cases rx;rfl)
  | (obtain ⟨t,rfl⟩:=rx;rfl)
theorem qJ:OpR X (Bo .IsNot) (λx y H Q=>y = .non/\Q (.bl (!decide (x = .non))) H):=by
 intro pins s σ H x y v u Q I rx ry h
 obtain ⟨rfl,q⟩:=h
 cases ry
 refine isnot_none_gen (aY I q ?_)
 cases x <;> first
  | (cases rx;rfl)
  | (obtain ⟨t,rfl⟩:=rx;rfl)
theorem aN (b:Expr){op:CmpOp}(h:op ≠ .In:=by decide)(h2:op ≠ .NotIn:=by decide):behindInMarks op b=false:=by
 have e1:(op == CmpOp.In)=false:=by cases op <;> first | rfl | exact absurd rfl h
 have e2:(op == CmpOp.NotIn)=false:=by cases op <;> first | rfl | exact absurd rfl h2
 cases b <;> simp[behindInMarks,e1,e2]
theorem cX {op:CmpOp}{r:R2}(ho:OpR X (Bo op) r)(ha:PE X a ta)(hb:PE X b tb)(hm:behindInMarks op b=false):PE X (.Compare a [op] [b] pos) (tOp r ta tb):=by
 intro pins s σ H Q I h
 exact wpAny_Compare1 (yg ha hb I h λv u s2 x y H2 I2 rx ry q=>ho pins s2 σ H2 x y v u Q I2 rx ry q) hm
def xH (t:TE):TT:=λσ H Q=>t σ H λx H'=>∃k,x = .bl k/\Q k H'
theorem aE {op:CmpOp}{r:R2}(ho:OpR X (Bo op) r)(ha:PE X a ta)(hb:PE X b tb)(hm:behindInMarks op b=false):PT X (.Compare a [op] [b] pos) (xH (tOp r ta tb)):=by
 intro pins s σ H Q I h
 refine FJ (thn (ha pins s σ H _ I h) λv s1 ⟨x,H1,I1,r1,q1⟩=>thn (hb pins s1 σ H1 _ I1 q1) λu s2 ⟨y,H2,I2,r2,q2⟩ =>
  thn (ho pins s2 σ H2 x y v u _ I2 r1 r2 q2) λc s3 ⟨z,H3,I3,r3,k,e,q3⟩ =>?_) hm
 subst e
 cases r3
 exact BG ⟨H3,I3,q3⟩
def ug (r r':R2)(ta tb tc:TE):TE:=λσ H Q=>ta σ H λx H1=>tb σ H1 λy H2=>r x y H2 λz H3=>∃k,z = .bl k ∧
 (if k=true then tc σ H3 λw' H4=>r' y w' H4 Q else Q (.bl false) H3)
theorem nz {op op':CmpOp}{r r':R2}(ho:OpR X (Bo op) r)(ho':OpR X (Bo op') r')(ha:PE X a ta)(hb:PE X b tb)(hc:PE X c tc)
  (hm:lastMarks [op,op'] [b,c]=false:=by with_unfolding_all rfl):PE X (.Compare a [op,op'] [b,c] pos) (ug r r' ta tb tc):=by
 intro pins s σ H Q I h
 refine Compare_chain (thn (ha pins s σ H _ I h) λv s1 ⟨x,H1,I1,r1,q1⟩=>chain_link (thn (hb pins s1 σ H1 _ I1 q1) λu s2 ⟨y,H2,I2,r2,q2⟩ =>
  thn (ho pins s2 σ H2 x y v u _ I2 r1 r2 q2) λd s3 ⟨z,H3,I3,r3,k,e,q3⟩ =>?_)) hm
 subst e
 cases r3
 refine BG ?_
 cases k with
 | false=>exact ite_ff ⟨.bl false,H3,I3,rfl,q3⟩
 | true=>exact ite_tt (chain_last (thn (hc pins s3 σ H3 _ I3 q3) λw' s4 ⟨z',H4,I4,r4,q4⟩=>ho' pins s4 σ H4 y z' u w' Q I4 r2 r4 q4))
theorem nA {op op':CmpOp}{r r':R2}(ho:OpR X (Bo op) r)(ho':OpR X (Bo op') r')(ha:PE X a ta)(hb:PE X b tb)(hc:PE X c tc)
  (hm:lastMarks [op,op'] [b,c]=false:=by with_unfolding_all rfl):PT X (.Compare a [op,op'] [b,c] pos) (xH (ug r r' ta tb tc)):=by
 intro pins s σ H Q I h
 refine isTrue_chain (thn (ha pins s σ H _ I h) λv s1 ⟨x,H1,I1,r1,q1⟩=>test_link (thn (hb pins s1 σ H1 _ I1 q1) λu s2 ⟨y,H2,I2,r2,q2⟩ =>
  thn (ho pins s2 σ H2 x y v u _ I2 r1 r2 q2) λd s3 ⟨z,H3,I3,r3,k,e,q3⟩ =>?_)) hm
 subst e
 cases r3
 refine BG ?_
 cases k with
 | false =>
  obtain ⟨k',e',q'⟩:=q3
  cases e'
  exact ite_ff ⟨H3,I3,q'⟩
 | true =>
  refine ite_tt (test_last (thn (hc pins s3 σ H3 _ I3 q3) λw' s4 ⟨z',H4,I4,r4,q4⟩=>thn (ho' pins s4 σ H4 y z' u w' _ I4 r2 r4 q4) λd' s5 ⟨z2,H5,I5,r5,k2,e2,q5⟩ =>?_))
  subst e2
  cases r5
  exact BG ⟨H5,I5,q5⟩
theorem iM:(Ai:Nat)<2 ^ 63:=by rw[Fd];decide
theorem vals1 {x:V}{us:List Ae}(r:Vals [x] us):∃u,us=[u]/\RelV x u:=by
 cases r with
 | cons r1 r2=>cases r2;exact ⟨_,rfl,r1⟩
theorem vals2 {x y:V}{us:List Ae}(r:Vals [x,y] us):∃u w',us=[u,w']/\RelV x u/\RelV y w':=by
 cases r with
 | cons r1 r2 =>
  cases r2 with
  | cons r3 r4=>cases r4;exact ⟨_,_,rfl,r1,r3⟩
theorem kS (hc:X.calm=true):b8 X (.builtin "max") (λxs H Q=>∃i j,xs=[.int i,.int j]/\Q (.int (if j>i then j else i)) H):=by
 intro pins s σ H xs us Q I r h
 obtain ⟨i,j,rfl,q⟩:=h
 obtain ⟨u,w',rfl,⟨t,rfl⟩,⟨t',rfl⟩⟩:=vals2 r
 refine max_two_ints (I.ok.hd hc) λh' tk k=>⟨_,H,I.kept k,?_,q⟩
 by_cases hj:j>i
 ·rw[if_pos hj,if_pos hj];exact ⟨_,rfl⟩
 ·rw[if_neg hj,if_neg hj];exact ⟨_,rfl⟩
theorem kU (hc:X.calm=true):b8 X (.builtin "min") (λxs H Q=>∃i j,xs=[.int i,.int j]/\Q (.int (if j<i then j else i)) H):=by
 intro pins s σ H xs us Q I r h
 obtain ⟨i,j,rfl,q⟩:=h
 obtain ⟨u,w',rfl,⟨t,rfl⟩,⟨t',rfl⟩⟩:=vals2 r
 refine min_two_ints (I.ok.hd hc) λh' tk k=>⟨_,H,I.kept k,?_,q⟩
 by_cases hj:j<i
 ·rw[if_pos hj,if_pos hj];exact ⟨_,rfl⟩
 ·rw[if_neg hj,if_neg hj];exact ⟨_,rfl⟩
theorem d7:b8 X (.type "int") (λxs H Q=>(∃i,xs=[.int i]/\Q (.int i) H)\/∃k,xs=[.bl k]/\Q (.int (if k then 1 else 0)) H):=by
 intro pins s σ H xs us Q I r h
 rcases h with ⟨i,rfl,q⟩ | ⟨k,rfl,q⟩
 ·obtain ⟨u,rfl,t,rfl⟩:=vals1 r
  exact call_int_int ⟨.int i,H,I,⟨_,rfl⟩,q⟩
 ·obtain ⟨u,rfl,r1⟩:=vals1 r
  cases r1
  exact call_int_bool ⟨.int (if k then 1 else 0),H,I.tok _,⟨_,rfl⟩,q⟩
end
open PySem PySem.Spec PyProof.Rows
structure yj (h:Heap)(x dx C:Addr)(mA:Str->Option Ae):Prop where
 obj:h.get? x=some (PySem.W.instObj C dx)
 ns:h.Ns1 dx mA
 ne:dx≠x
theorem rQ {h:Heap}{dx:Addr}{mA:Str->Option Ae}(n:h.Ns1 dx mA):∃od,h.get? dx=some od/\∀name,PySem.W.lookIn name od=some (mA name):=by
 obtain ⟨o,es,ep,ho,hd,hk,_,hm⟩:=n
 refine ⟨o,ho,λname =>?_⟩
 have e:=hm name
 unfold nsFind findBy at e
 rw[<- Array.find?_toList] at e
 unfold PySem.W.lookIn
 rw[hd]
 dsimp only
 split
 ·rename_i y q
  rw[q] at e
  exact congrArg some e
 ·rename_i q
  rw[q] at e
  have a:es.toList.any (·.refKey)=false:=by
   rw[List.any_eq_false]
   intro y hy
   obtain ⟨z,t,hkey⟩:=hk y (BH.mp hy)
   simp[DictEntry.refKey,hkey]
  have a':¬ es.toList.any (·.refKey)=true:=by rw[a];exact Ao
  rw[if_neg a']
  exact congrArg some e
theorem yj.look {h:Heap}{x dx C:Addr}{mA:Str->Option Ae}(I:yj h x dx C mA):∃od,PySem.W.InstAt h x (PySem.W.instObj C dx) C (some od)/\∀name,PySem.W.lookIn name od=some (mA name) :=
 let ⟨od,ho,hl⟩:=rQ I.ns
 ⟨od,⟨I.obj,rfl,rfl,ho⟩,hl⟩
section
variable  {prog:Au}{w:AX}{A:A7}{E:Ae->Ag->Prop}{s:Ag}{K:Ab}{x dx C f:Addr}{mA:Str->Option Ae}{name:Str}{v:Ae}
end
theorem jB.some_of {v:V}{o:Option Ae}(r:jB (some v) o):∃u,o=some u/\RelV v u:=by
 cases o with
 | none=>exact (show False from r).elim
 | some u=>exact ⟨u,rfl,r⟩
theorem rR {v:V}{u:Ae}(r:RelV v u):PySem.W.handedIn u=true:=by
 cases v with
 | non=>cases (show u=BR from r);rfl
 | bl b=>cases (show u=Value.bool b from r);rfl
 | int i=>obtain ⟨t,e⟩:=(show ∃t,u=CO i t from r);cases e;rfl
 | str x=>obtain ⟨t,e⟩:=(show ∃t,u=Value.str x t from r);cases e;rfl
 | byt b=>obtain ⟨t,e⟩:=(show ∃t,u=Value.bytes b t from r);cases e;rfl
 | flt b=>obtain ⟨t,e⟩:=(show ∃t,u=Value.float b t from r);cases e;rfl
 | ref a=>cases (show u=As a from r);rfl
 | ty n=>cases (show u=B7 n from r);rfl
section
variable  {P:Au}{w:AX}{H H':Hp}{h h':Heap}{a C dx:Addr}{fs fs':List (Str×V)}
theorem vR (hok:HOk P w H h)(e:H a=some (.ins C dx fs)):∃mA,yj h a dx C mA/\(∀f,jB (fs.lookup f) (mA f))/\PySem.Within mA (fs.map (·.1))/\fs.length<=1000/\H dx=some (.own a):=by
 obtain ⟨d,z,ne,ob,mA,n,r,q⟩:=(show bj P w H h a (.ins C dx fs) from hok a _ e)
 exact ⟨mA,⟨ob,n,ne⟩,r,q,z,d⟩
end
structure Cls (K:Ab)(C:Addr):Prop where
 pg:PySem.W.plainGet K C Str.empty=true
 hd:PySem.W.hasDictIn K C=true
 po:PySem.W.plainOver K C=true
 sa:PySem.W.findIn K (.ref C) "__setattr__" = some (some (.builtin "object.__setattr__"))
theorem Cls.get {K:Ab}{C:Addr}(c:Cls K C)(f:Str):PySem.W.plainGet K C f=true:=c.pg
section
variable  {X:Cx}{pins:List (Addr×Obj)}{σ:St}{H:Hp}{s:Ag}{a C dx:Addr}{fs:List (Str×V)}{f:Str}{v:V}{A:A7}{E:Ae->Ag->Prop}
theorem vS {prog:Au}{w:AX}{env:Env}{e:Expr}{f:Str}{pos:Pos}{s:Ag}{Q:Ae->Ag->Prop}(hb:attributeBase e f env (eval e env)=eval e env)
  (h:AL (AQ prog w) A (eval e env) (λo s₁=>AL (AQ prog w) A (getAttr o f true) Q E s₁) E s):AL (AQ prog w) A (eval (.Attribute e f pos) env) Q E s :=
 Attribute_any_ h (by rw[arm_eval_Attribute,hb])
end
section
variable  {X:Cx}{o e value:Expr}{f:Str}{pos pos' tpos:Pos}{ta tv:TE}
end
section
variable  {X:Cx}{pins:List (Addr×Obj)}{σ:St}{H:Hp}{s:Ag}{A:A7}{E:Ae->Ag->Prop}{Q:Ae->Ag->Prop}{c:Ae}{b:Bool}
inductive cw (K:Ab)(H:Hp):V->Ae->Prop where
 | non:cw K H .non (.type "NoneType")
 | bl (x:Bool):cw K H (.bl x) (.type "bool")
 | int (i:Int):cw K H (.int i) (.type "int")
 | str (x:Str):cw K H (.str x) (.type "str")
 | flt (x:UInt64):cw K H (.flt x) (.type "float")
 | lst {a:Addr} {xs:List V} (e:H a=some (.lst xs)):cw K H (.ref a) (.type "list")
 | frz {a:Addr} {o:Obj} {xs:List V} (e:H a=some (.frz o (.lst xs))):cw K H (.ref a) (.type "list")
 | tup {a:Addr} {xs:List V} (e:H a=some (.tup xs)):cw K H (.ref a) (.type "tuple")
 | dK {a:Addr} {kvs:List (Key×V)} (e:H a=some (.dK kvs)):cw K H (.ref a) (.type "dict")
 | dT {a:Addr} {kvs:List (List Key×V)} (e:H a=some (.dT kvs)):cw K H (.ref a) (.type "dict")
 | ins {a C dx:Addr} {fs:List (Str×V)} (e:H a=some (.ins C dx fs)) (cl:Cls K C) (ha:PySem.W.findIn K (.ref C) "__class__" = some (some (.builtin "object.__class__")))
   (hn:PySem.W.specialIn K (.builtin "object.__class__") "__get__" = some (some (.builtin "getset_descriptor.__get__"))) (htk:PySem.W.takesIn K (.builtin "object.__class__")=some true)
   (hm:PySem.W.mroIn K C (.type "object")=some true):cw K H (.ref a) (.ref C)
theorem rS {x:V}{u t:Ae}(I:Inv X pins σ H s)(rx:RelV x u)(ty:cw X.K H x t)(e:PySem.W.kitOne X.K t c=some b)(h:∀tk,Q (.bool b) { s with toks:=tk }) :
  AL (AQ X.prog X.w) A (call (.builtin "isinstance") [u,c]) Q E s:=by
 cases ty with
 | non=>cases (show u=BR from rx);exact BW GK I.kIn True.intro e (λz=>nomatch z) h
 | bl y=>cases (show u=Value.bool y from rx);exact BW GL I.kIn True.intro e (λz=>nomatch z) h
 | int i=>obtain ⟨t,q⟩:=(show ∃t,u=CO i t from rx);cases q;exact BW Hd I.kIn True.intro e (λz=>nomatch z) h
 | str y=>obtain ⟨t,q⟩:=(show ∃t,u=Value.str y t from rx);cases q;exact BW He I.kIn True.intro e (λz=>nomatch z) h
 | flt y=>obtain ⟨t,q⟩:=(show ∃t,u=Value.float y t from rx);cases q;exact BW Gq I.kIn True.intro e (λz=>nomatch z) h
 | @lst a xs ea =>
  cases (show u=As a from rx)
  obtain ⟨_,_,n,_,h1⟩:=(show bj X.prog X.w H s.heap a (.lst xs) from I.hok a _ ea)
  exact BW DQ I.kIn ⟨_,h1,rfl⟩ e (λz=>nomatch z) h
 | @frz a ob xs ea =>
  cases (show u=As a from rx)
  obtain ⟨_,_,_,n,_,h1⟩:=(show bj X.prog X.w H s.heap a (.frz ob (.lst xs)) from I.hok a _ ea)
  exact BW DQ I.kIn ⟨_,h1,rfl⟩ e (λz=>nomatch z) h
 | @tup a xs ea =>
  cases (show u=As a from rx)
  obtain ⟨_,_,_,p⟩:=(show bj X.prog X.w H s.heap a (.tup xs) from I.hok a _ ea)
  obtain ⟨o,h1,h2,_⟩:=p
  exact BW Gr I.kIn ⟨o,h1,h2.1⟩ e (λz=>nomatch z) h
 | @dK a kvs ea =>
  cases (show u=As a from rx)
  obtain ⟨_,_,vs,_,p⟩:=(show bj X.prog X.w H s.heap a (.dK kvs) from I.hok a _ ea)
  obtain ⟨o,es,ep,h1,h2,_⟩:=p
  exact BW DR I.kIn ⟨o,h1,h2.1⟩ e (λz=>nomatch z) h
 | @dT a kvs ea =>
  cases (show u=As a from rx)
  obtain ⟨_,_,xs,_,o,es,ep,h1,h2,_⟩:=(show bj X.prog X.w H s.heap a (.dT kvs) from I.hok a _ ea)
  exact BW DR I.kIn ⟨o,h1,h2.1⟩ e (λz=>nomatch z) h
 | @ins a C dx fs ea cl ha hn htk hm =>
  cases (show u=As a from rx)
  obtain ⟨mA,O,_⟩:=vR I.hok ea
  obtain ⟨od,J,_⟩:=O.look
  exact BW (PySem.W.kitx_own (cl.get _) cl.hd ha hn htk hm) I.kIn J e (λz=>nomatch z) h
end
open PySem PySem.Spec PyProof.Rows
structure bU (k:Nat)(A:A7):Prop where
 hd:A.handled=none
 dp:A.depth+3*k+5<recursionLimit
 un:A.units+16*k+200<cLine
theorem bU.mono {j k:Nat}{A:A7}(r:bU k A)(h:j<=k):bU j A:=⟨r.hd,by have:=r.dp;omega,by have:=r.un;omega⟩
theorem bU.deeper {k:Nat}{A:A7}(r:bU (k+1) A)(env:Env):bU k (A.deeper env) :=
 ⟨r.hd,by have:=r.dp;show A.depth+1+3*k+5<_;omega,by have:=r.un;show A.units+3+16*k+200<_;omega⟩
theorem pz {A:A7}{C:Addr}{us:List Ae}{kw:List (Str×Ae)}:(A.under (.builtin "type.__call__" ⟨.ref C :: us,kw⟩)).depth=A.depth+1:=by
 first | rfl | simp[Around.under,Code.weight,Code.isCreation,Code.isGuard,Code.isCaller,Code.frames,Code.isFrame,guardIds]
theorem pD {A:A7}{C:Addr}{us:List Ae}{kw:List (Str×Ae)}:(A.under (.builtin "type.__call__" ⟨.ref C :: us,kw⟩)).units=A.units+1:=by
 first | rfl | simp[Around.under,Code.cUnits,Code.frames,Code.isFrame]
theorem bU.make {k:Nat}{A:A7}(r:bU (k+1) A)(C:Addr)(us:List Ae)(kw:List (Str×Ae)):bU k (A.under (.builtin "type.__call__" ⟨.ref C :: us,kw⟩)) :=
 ⟨r.hd,by have:=r.dp;rw[pz];omega,by have:=r.un;rw[pD];omega⟩
theorem bU.depth {k:Nat}{A:A7}(r:bU k A):A.depth<recursionLimit:=by have:=r.dp;omega
theorem bU.units {k:Nat}{A:A7}(r:bU k A):A.units+64<cLine:=by have:=r.un;omega
def vT:TA:=λ_ H Q=>Q [] H
def nB (ta:TE)(tr:TA):TA:=λσ H Q=>ta σ H λx H1=>tr σ H1 λxs H2=>Q (x :: xs) H2
section
variable  {X:Cx}{e:Expr}{es:List Expr}{te:TE}{t:TA}{pos:Pos}
theorem ag:PA X [] vT:=λ_ _ _ _ H Q I h=>Calls.spliced_nil ⟨[],H,I,.nil,h⟩
theorem aa (ha:PE X e te)(hr:PA X es t)(hs:Bf (e :: es) X.env=(false,eval e X.env) :: Bf es X.env:=by rfl):PA X (e :: es) (nB te t):=by
 intro pos pins s σ H Q I h
 rw[hs]
 show AL _ _ (spliced ((false,eval e X.env) :: DP pos (Bf es X.env))) _ _ s
 refine Calls.spliced_cons (thn (ha pins s σ H _ I h) λu s1 ⟨x,H1,I1,r1,q1⟩ =>?_)
 exact thn (hr pos pins s1 σ H1 _ I1 q1) λus s2 ⟨xs,H2,I2,r2,q2⟩=>⟨x :: xs,H2,I2,.cons r1 r2,q2⟩
def zC (t:TA):TE:=λσ H Q=>t σ H λxs H1=>xs.length<=Ai/\∀p,H1 p=none->Q (.ref p) (upd H1 p (.tup xs))
def tLst (t:TA):TE:=λσ H Q=>t σ H λxs H1=>xs.length<=Ai/\∀p,H1 p=none->Q (.ref p) (upd H1 p (.lst xs))
theorem aF {x1}(h:PA X es t):PE X (.Tuple es x1 pos) (zC t):=by
 intro pins s σ H Q I hq
 refine wpAny_Tuple_spliced (thn (h pos pins s σ H _ I hq) λus s1 ⟨xs,H1,I1,r,z,q⟩=>⟨by rw[<- r.length];exact z,?_⟩)
 have hf:H1 s1.heap.objs.size=none:=I1.hok.fresh (Ah _)
 refine ⟨.ref s1.heap.objs.size,upd H1 s1.heap.objs.size (.tup xs),I1.laid (t':=s1.toks) (λb u e=>Ad _ e) (Ah _) ?_,rfl,q _ hf⟩
 exact ⟨z,us,r,⟨_,Av _ rfl,⟨rfl,rfl⟩,_,rfl⟩⟩
theorem dM (h:PA X es t):PE X (.List es pos) (tLst t):=by
 intro pins s σ H Q I hq
 refine wpAny_List_spliced (thn (h pos pins s σ H _ I hq) λus s1 ⟨xs,H1,I1,r,z,q⟩=>⟨by rw[<- r.length];exact z,?_⟩)
 have hf:H1 s1.heap.objs.size=none:=I1.hok.fresh (Ah _)
 refine ⟨.ref s1.heap.objs.size,upd H1 s1.heap.objs.size (.lst xs),I1.laid (t':=s1.toks) (λb u e=>Ad _ e) (Ah _) ?_,rfl,q _ hf⟩
 exact ⟨z,us,0,r,Av _ rfl⟩
end
abbrev Sp:=List V->Hp->VK->XK->Prop
abbrev CXT:=List Env->Hp->Ag->XK->Ae->Ag->Prop
structure pE (P:Au)(w:AX)(K:Ab)(mg:Str->Option Ae)(base:Heap)(A:A7)(outer:List Env)(s:Ag)(H:Hp):Prop where
 frames:A.frames=some outer
 mod:Mod K mg base
 bs:∀b o,base.get? b=some o->s.heap.get? b=some o/\H b=none
 bsz:base.objs.size<=s.heap.objs.size
 funs:s.heap.FunFrames base outer
 frf:∀b∈frs outer,H b=none
 hok:HOk P w H s.heap
 bare:AllBare s.gens
def CE (outer:List Env)(P:Au)(w:AX)(H:Hp)(s:Ag)(Q:VK)(u:Ae)(s':Ag):Prop :=
 ∃v H',s'.os=s.os/\AllBare s'.gens/\Un (frs outer) [] H H' s.heap s'.heap/\HOk P w H' s'.heap/\RelV v u/\Q v H'
def CR (CX:CXT)(outer:List Env)(P:Au)(w:AX)(H:Hp)(s:Ag)(Q:VK)(E:XK)(r:Result)(s':Ag):Prop :=
 match r with
 | .ok (.ret u)=>CE outer P w H s Q u s'
 | .ok _=>False
 | .error e=>CX outer H s E e s'
structure bC (P:Au)(w:AX)(K:Ab)(mg:Str->Option Ae)(base:Heap)(CX:CXT)(k:Nat)(f:Addr)(fd:Be)(ps:List Str)(sp:Sp):Prop where
 len:∀vs H Q E,sp vs H Q E->vs.length=ps.length
 run:∀(A:A7) (outer:List Env) (s:Ag) (H:Hp) (args:Args) (us:List Ae) (vs:List V) (Q:VK) (E:XK),bU k A->pE P w K mg base A outer s H->BindsTo s fd args (ps.zip us)->Vals vs us->sp vs H Q E →
  EN (AQ P w) A (.call (.ref f) args) (CR CX outer P w H s Q E) s
theorem pE.make {P:Au}{w:AX}{K:Ab}{mg:Str->Option Ae}{base:Heap}{A:A7}{outer:List Env}{s:Ag}{H:Hp}(e:pE P w K mg base A outer s H)(C:Addr)(us:List Ae)(kw:List (Str×Ae)) :
  pE P w K mg base (A.under (.builtin "type.__call__" ⟨.ref C :: us,kw⟩)) outer s H:=⟨by first | exact e.frames | (simpa [Around.under,Code.envs,Code.isFrame,pushEnvs] using e.frames),e.mod,e.bs,e.bsz,e.funs,e.frf,e.hok,e.bare⟩
section
variable  {X:Cx}{pins:List (Addr×Obj)}{σ:St}{H:Hp}{s s':Ag}
theorem Inv.yk (I:Inv X pins σ H s):pE X.prog X.w X.K X.mg X.base X.A X.stack s H :=
 ⟨I.ok.frames,I.ok.mod,I.bs,A8 I.ok.bsz I.sz,I.stack,I.jq,I.hok,I.bare⟩
theorem Inv.after {Q:VK}{u:Ae}(I:Inv X pins σ H s)(h:CE X.stack X.prog X.w H s Q u s'):EP X pins σ Q u s':=by
 obtain ⟨v,H',os,bare,un,hok,r,q⟩:=h
 obtain ⟨hh,g,d,t,os'⟩:=s'
 obtain rfl:os'=s.os:=os
 exact ⟨v,H',I.call (h':=hh) (g':=g) (d':=d) (t':=t) (ch:=[]) un hok bare (λb z=>absurd z (by simp)),r,q⟩
end
def uh (sp:Sp)(dvs:List V)(E:XK)(t:TA):TE:=λσ H Q=>t σ H λvs H1=>sp (vs++dvs) H1 Q E
def Binds (K:Ab)(fd:Be)(ps:List Str)(ds:List Ae):Prop :=
 ∀(s:Ag) (us:List Ae),K.In s.heap->(us++ds).length=ps.length->BindsTo s fd ⟨us,[]⟩ (ps.zip (us++ds))
theorem Binds.all {K:Ab}{fd:Be}{ps:List Str}(h:∀us:List Ae,us.length=ps.length->bindArgs fd ⟨us,[]⟩=pure (ps.zip us)):Binds K fd ps []:=λs us _ hl=>by
 rw[AZ] at hl ⊢
 exact .of_eq (h us hl)
def Passes (CX:CXT)(X:Cx)(E:XK):Prop:=∀(pins:List (Addr×Obj)) (σ:St) (H:Hp) (s:Ag) (e:Ae) (s':Ag),Inv X pins σ H s->CX X.stack H s E e s'->X.xe e s'
section
variable  {X:Cx}{CX:CXT}{k:Nat}{f C:Addr}{fd:Be}{ps:List Str}{sp:Sp}{dvs:List V}{ds:List Ae}{E:XK}{x m:Str}{p pos apos:Pos}{e o:Expr}{es:List Expr}{ta:TE}{t:TA}
theorem yl {pins:List (Addr×Obj)}{σ:St}{H:Hp}{s:Ag}{Q:VK}{us:List Ae}{vs:List V}(F:bC X.prog X.w X.K X.mg X.base CX k f fd ps sp)(hr:bU k X.A)(hb:Binds X.K fd ps ds)(hd:Vals dvs ds)(hx:Passes CX X E)
  (I:Inv X pins σ H s) (r:Vals vs us) (h:sp (vs++dvs) H Q E):AL (AQ X.prog X.w) X.A (call (.ref f) us) (EP X pins σ Q) X.xe s:=by
 have r2:Vals (vs++dvs) (us++ds):=r.append hd
 have hl:(us++ds).length=ps.length:=by rw[<- r2.length];exact F.len _ _ _ _ h
 refine Ei (CN (F.run X.A X.stack s H ⟨us,[]⟩ (us++ds) (vs++dvs) Q E hr I.yk (hb s us I.kIn hl) r2 h) λr s' hq =>?_)
 cases r with
 | error e=>exact hx pins σ H s e s' I hq
 | ok fl =>
  cases fl with
  | ret u=>exact I.after hq
  | next=>exact False.elim hq
  | brk=>exact False.elim hq
  | cont=>exact False.elim hq
theorem qK (F:bC X.prog X.w X.K X.mg X.base CX k f fd ps sp)(hr:bU k X.A)(hg:Gl X x)(hm:X.mg x=some (.ref f))(hk:PySem.W.keepIn X.K (.ref f)=true)(hb:Binds X.K fd ps ds)(hd:Vals dvs ds)(hx:Passes CX X E)
  (ha:PA X (e :: es) t) (hdb:(x == ("__debug__" : Str))=false:=by decide) (he:Bf (e :: es) X.env=(false,eval e X.env) :: Bf es X.env:=by rfl) (hpl:(DP pos (Bf es X.env)).any (·.1)=false:=by rfl) :
  PE X (.Call (.Name x p) (e :: es) [] pos) (uh sp dvs E t):=by
 intro pins s σ H Q I h
 refine Dd (eJ I hg hm ?_ hdb)
 refine Ex (h₀:=X.base) I.ok.mod.kin hk (thn (ha pos pins s σ H _ I h) λus s1 ⟨vs,H1,I1,r,q⟩=>⟨I1.kIn,?_⟩) he hpl
 exact yl F hr hb hd hx I1 r q
end
section
variable  {X:Cx}{CX:CXT}{k:Nat}{f C:Addr}{fd:Be}{ps ks:List Str}{sp:Sp}{E:XK}{x m:Str}{p pos apos kpos:Pos}{e o:Expr}{es:List Expr}{kws:List Keyword}{te ta:TE}{t tk:TA}{nm:Option Str}
variable  {g:List Ae->List Ae->List Ae}{gV:List V->List V->List V}
end
structure aP (N P:List Str)(sc:Scope):Prop where
 kind:sc.kind = .function
 co:sc.isCoroutine=false
 gen:sc.isGenerator=false
 nd:N.Nodup
 pre:N.take P.length=P
 par:∀x∈P,sc.names.lookup x=some .local\/sc.names.lookup x=some .cell
 nofree:∀y∈sc.names,y.2 ≠ .free
theorem kW {kindOf:Str->Option NameKind}{x:Str}:∀{binds:List (Str×Ae)} {m:Str->Option Ae},(∀v,(x,v)∉binds)->bindL kindOf binds m x=m x
 | [],_,_=>rfl
 | (n,v) :: r,m,h=>by
  unfold bindL
  rw[kW λw hw=>h w (AM _ hw)]
  split
  ·have:x≠n:=by rintro rfl;exact h v AU
   simp[this]
  ·rfl
theorem kX {kindOf:Str->Option NameKind}{x:Str}:∀{binds:List (Str×Ae)} {m:Str->Option Ae},(∀v,(x,v)∉binds)->bindC kindOf binds m x=m x
 | [],_,_=>rfl
 | (n,v) :: r,m,h=>by
  unfold bindC
  rw[kX λw hw=>h w (AM _ hw)]
  split
  ·rfl
  ·have:x≠n:=by rintro rfl;exact h v AU
   simp[this]
theorem kY {kindOf:Str->Option NameKind}{x:Str}{v:Ae}:∀{P:List Str} {vs:List Ae} {i:Nat} {m:Str->Option Ae},P.Nodup->P[i]? = some x->vs[i]? = some v->kindOf x=some .local →
  bindL kindOf (P.zip vs) m x=some v
 | [],_,_,_,_,h,_,_=>by simp at h
 | _ :: _,[],_,_,_,_,h,_=>by simp at h
 | p :: P,w :: vs,0,m,nd,h1,h2,hk=>by
  simp at h1 h2;subst h1;subst h2
  show bindL kindOf ((p,w) :: P.zip vs) m p=_
  unfold bindL
  rw[kW λv hv=>(CV.mp nd).1 (FA hv).1,if_pos hk]
  simp
 | p :: P,w :: vs,i+1,m,nd,h1,h2,hk=>by
  show bindL kindOf ((p,w) :: P.zip vs) m x=_
  unfold bindL
  exact kY (i:=i) (CV.mp nd).2 (by simpa using h1) (by simpa using h2) hk
theorem kZ {kindOf:Str->Option NameKind}{x:Str}{v:Ae}:∀{P:List Str} {vs:List Ae} {i:Nat} {m:Str->Option Ae},P.Nodup->P[i]? = some x->vs[i]? = some v->kindOf x≠some .local →
  bindC kindOf (P.zip vs) m x=some v
 | [],_,_,_,_,h,_,_=>by simp at h
 | _ :: _,[],_,_,_,_,h,_=>by simp at h
 | p :: P,w :: vs,0,m,nd,h1,h2,hk=>by
  simp at h1 h2;subst h1;subst h2
  show bindC kindOf ((p,w) :: P.zip vs) m p=_
  unfold bindC
  rw[kX λv hv=>(CV.mp nd).1 (FA hv).1,if_neg hk]
  simp
 | p :: P,w :: vs,i+1,m,nd,h1,h2,hk=>by
  show bindC kindOf ((p,w) :: P.zip vs) m x=_
  unfold bindC
  exact kZ (i:=i) (CV.mp nd).2 (by simpa using h1) (by simpa using h2) hk
def start (N:List Str)(vs:List V):St:=vs.map some++DZ (N.length-vs.length) none
def jh (CX:CXT)(P:Au)(w:AX)(K:Ab)(mg:Str->Option Ae)(base:Heap)(N:List Str)(qual:Str)(scope:Scope)(f:Addr)(cd:Ae)(A:A7)(outer:List Env)(s:Ag)(H:Hp)(E:XK):Cx where
 prog:=P
 w:=w
 K:=K
 mg:=mg
 base:=base
 A:=A.deeper (envOfC qual scope s.heap.objs.size f cd)
 N:=N
 s₀:=s
 H₀:=H
 env:=envOfC qual scope s.heap.objs.size f cd
 outer:=outer
 stack:=envOfC qual scope s.heap.objs.size f cd :: outer
 ex:=[]
 calm:=true
 fn:=λ_=>true
 pn:=[]
 xe:=λe s'=>AL (AQ P w) (A.deeper (envOfC qual scope s.heap.objs.size f cd)) (leaving (envOfC qual scope s.heap.objs.size f cd) e) (λ_ s''=>CX outer H s E e s'') (λe' s''=>CX outer H s E e' s'') s'
theorem nC {sc:Scope}{n:Nat}{x:Str}(h:sc.names.lookup x=some .cell):∃c,(cellsFrom n sc.names []).lookup x=some c:=by
 have q:=Fp sc.names n [] (.inl h)
 exact EO.mp q
theorem rT {CX:CXT}{P:Au}{w:AX}{K:Ab}{mg:Str->Option Ae}{base:Heap}{N ps:List Str}{qual:Str}{scope:Scope}{f:Addr}{cd:Ae}{A:A7}{outer:List Env}{s s1:Ag}{H:Hp}{E:XK}{us:List Ae}{vs:List V}
  (S:aP N ps scope) (hd:A.handled=none) (e0:pE P w K mg base A outer s H) (hl:vs.length=ps.length) (r:Vals vs us)
  (x:InCallC s s.heap.objs.size (bindL (envOfC qual scope s.heap.objs.size f cd).kindOf (ps.zip us) λ_=>none) (cellsFrom (s.heap.objs.size+1) scope.names []) (bindC (envOfC qual scope s.heap.objs.size f cd).kindOf (ps.zip us) λ_=>none) s1) :
  Inv (jh CX P w K mg base N qual scope f cd A outer s H E) [] (start N vs) H s1:=by
 have hpl:ps.length<=N.length:=by have:=congrArg List.length S.pre;rw[Bg] at this;omega
 obtain ⟨h1,tk,rfl,hk⟩:=x.done
 have noA:∀b:Addr,b∉(jh CX P w K mg base N qual scope f cd A outer s H E).ex:=λb z=>absurd (show b∈([]:List Addr) from z) (by simp)
 refine ⟨⟨e0.mod,S.kind,rfl,rfl,Ah _,λy z c h1 h2 =>?_,λy hy =>?_,λy c _ h =>?_,λ_=>hd,Around.frames_deeper e0.frames,.inr ⟨rfl,rfl⟩,λb z=>absurd z (noA b),e0.bs,e0.bsz,λb _ _=>noA b,λb z=>absurd z (noA b),e0.funs,e0.frf⟩,
  rfl,e0.bare,Un.kept hk,⟨_,x.toInCall.ns,λi y v h1 h2 h3 =>?_⟩,λy c h=>⟨_,x.cell y c h⟩,e0.hok.fresh (Ah _),λy c h =>?_,λp hp=>absurd (show p∈([]:List (Addr×Obj)) from hp) (by simp),e0.hok.kept hk,?_⟩
 ·exact name_of_addr x.apart (Cz h1) (Cz h2)
 ·have hy:scope.names.lookup y=some .cell\/scope.names.lookup y=some .free:=hy
  rcases hy with hy | hy
  ·exact nC hy
  ·exact absurd rfl (S.nofree _ (Cz hy))
 ·exact D1 (x.above y c (Cz h))
 ·have hi:i<vs.length:=by
   unfold start at h2
   by_cases hi:i<vs.length
   ·exact hi
   ·rw[Cb (by simpa using hi)] at h2
    rw[List.getElem?_replicate] at h2
    split at h2 <;> cases h2
  have ha:vs[i]? = some v:=by
   unfold start at h2
   rw[Cf (by simpa using hi),AO] at h2
   cases e:vs[i]? with
   | none=>rw[e] at h2;cases h2
   | some a=>rw[e] at h2;cases h2;rfl
  obtain ⟨u,hu,rv⟩:=r.get ha
  have hp:ps[i]? = some y:=by
   rw[<- S.pre,List.getElem?_take_of_lt (by omega)];exact h1
  have ndP:ps.Nodup:=by rw[<- S.pre];exact S.nd.sublist (BE _ _)
  refine ⟨u,rv,?_⟩
  rcases S.par y (AJ hp) with k | k
  ·exact .inl ⟨k,kY ndP hp hu k⟩
  ·obtain ⟨c,e⟩:=nC (n:=s.heap.objs.size+1) k
   refine .inr ⟨.inl k,c,e,?_⟩
   have q:=x.cell y c e
   rw[kZ ndP hp hu (by show scope.names.lookup y≠_;rw[k];decide)] at q
   exact q
 ·exact e0.hok.fresh (D1 (x.above y c (Cz h)))
 ·unfold start
  show _=N.length
  rw[Am,Ac,List.length_replicate]
  omega
theorem xI {CX:CXT}{P:Au}{w:AX}{K:Ab}{mg:Str->Option Ae}{base:Heap}{k:Nat}{f:Addr}{name qual:Str}{params:Arguments}{body:List Stmt}{scope:Scope}{dV kV doc pm cdv ct oc:Ae}{an od:Option Addr}
  {osl:Array (Option Ae)} {N ps:List Str} {sp:Sp} (lk:K.lookup f=some ⟨oc,od,.func (PySem.W.fnOf name qual params body scope dV kV doc pm an cdv ct),osl⟩) (hcd:PySem.W.codeIn K cdv qual=true) (S:aP N ps scope)
  (len:∀vs H Q E,sp vs H Q E->vs.length=ps.length)
  (hbody:∀(A:A7) (outer:List Env) (s:Ag) (H:Hp) (vs:List V) (Q:VK) (E:XK),bU k (A.deeper (envOfC qual scope s.heap.objs.size f cdv))->sp vs H Q E →
   ∃t,PSs (jh CX P w K mg base N qual scope f cdv A outer s H E) body t/\t { nx:=λ_ H'=>Q .non H',rt:=Q } (start N vs) H) :
  bC P w K mg base CX (k+1) f (PySem.W.fnOf name qual params body scope dV kV doc pm an cdv ct) ps sp:=by
 refine ⟨len,λA outer s H args us vs Q E hr e0 hb r hsp =>?_⟩
 have hl:=len _ _ _ _ hsp
 have KX:K.In s.heap:=e0.mod.kin.keeps λb o e=>(e0.bs b o e).1
 have lim:s.heap.NoLimit:=e0.mod.nolimit.keeps λb o e=>(e0.bs b o e).1
 have hkind:∀y∈ps.zip us,scope.names.lookup y.1=some .local\/(scope.names.lookup y.1=some .cell/\((cellsFrom (s.heap.objs.size+1) scope.names []).lookup y.1).isSome=true):=λ⟨n,v⟩ hy=>by
  rcases S.par n (FA hy).1 with q | q
  ·exact .inl q
  ·exact .inr ⟨q,Fp _ _ _ (.inl q)⟩
 refine codeAny_call_function hr.depth (KX _ _ lk) rfl S.co S.gen rfl (PySem.W.codeRec_of KX hcd) (hb _ _ _ _ ?_)
 refine wpAny_newFunctionEnv_cells S.kind hkind λenv he s1 x =>?_
 subst he
 refine ⟨lim.keeps x.toInCall.keep,codeAny_func ?_⟩
 obtain ⟨t,ht,hq⟩:=hbody A outer s H vs Q E (hr.deeper _) hsp
 have I:Inv (jh CX P w K mg base N qual scope f cdv A outer s H E) [] (start N vs) H s1:=rT S hr.hd e0 hl r x
 refine Bt (ht [] s1 (start N vs) H _ I hq) (λfl s' hs =>?_) λe s' hs=>hs
 have fin:∀{σ':St} {H':Hp} {v:V} {u:Ae},Inv (jh CX P w K mg base N qual scope f cdv A outer s H E) [] σ' H' s'->RelV v u->Q v H'->CE outer P w H s Q u s' :=
  λ{σ' H' v u} J rv q=>⟨v,H',J.os,J.bare,J.base,J.hok,rv,q⟩
 cases fl with
 | ret u =>
  obtain ⟨v,σ',H',J,rv,q⟩:=hs
  exact fin J rv q
 | next =>
  obtain ⟨σ',H',J,q⟩:=hs
  exact fin (v:=V.non) (u:=BR) J rfl q
 | brk =>
  obtain ⟨_,_,_,q⟩:=hs
  exact False.elim q
 | cont =>
  obtain ⟨_,_,_,q⟩:=hs
  exact False.elim q
open PySem PySem.Spec PyProof.Rows
section
variable  {X:Cx}{x:Str}{p pos:Pos}{e:Expr}{es:List Expr}{t:TA}{id T:String}{r:List V->Hp->VK->Prop}
def tCB (r:List V->Hp->VK->Prop)(t:TA):TE:=λσ H Q=>t σ H λvs H1=>r vs H1 Q
theorem aj (hc:b8 X (.builtin id) r)(hg:Gl X x)(hm:X.mg x=none)(hv:Bz x=some (.builtin id))(ha:PA X (e :: es) t)(hn:x ≠ "__name__" := by decide)(hdb:(x == ("__debug__" : Str))=false:=by decide)
  (he:Bf (e :: es) X.env=(false,eval e X.env) :: Bf es X.env:=by rfl) (hpl:(DP pos (Bf es X.env)).any (·.1)=false:=by rfl):PE X (.Call (.Name x p) (e :: es) [] pos) (tCB r t):=by
 intro pins s σ H Q I h
 refine Dd (iI I hg hm hv ?_ hn hdb)
 exact PyProof.Rows.callWith_builtin1 (thn (ha pos pins s σ H _ I h) λus s1 ⟨vs,H1,I1,r1,q1⟩=>hc pins s1 σ H1 vs us Q I1 r1 q1) he hpl
theorem aD (hc:b8 X (.type T) r)(hg:Gl X x)(hm:X.mg x=none)(hv:Bz x=some (.type T))(ha:PA X (e :: es) t)(hn:x ≠ "__name__" := by decide)(hdb:(x == ("__debug__" : Str))=false:=by decide)
  (he:Bf (e :: es) X.env=(false,eval e X.env) :: Bf es X.env:=by rfl) (hpl:(DP pos (Bf es X.env)).any (·.1)=false:=by rfl):PE X (.Call (.Name x p) (e :: es) [] pos) (tCB r t):=by
 intro pins s σ H Q I h
 refine Dd (iI I hg hm hv ?_ hn hdb)
 exact Cy (thn (ha pos pins s σ H _ I h) λus s1 ⟨vs,H1,I1,r1,q1⟩=>hc pins s1 σ H1 vs us Q I1 r1 q1) he hpl
end
end L2
namespace HT
open PySem PyProof.Rows
def lexLt:List Int->List Int->Bool
 | [],[]=>false
 | [],_ :: _=>true
 | _ :: _,[]=>false
 | x :: xs,y :: ys=>if x=y then lexLt xs ys else decide (x<y)
theorem cz (x y:Int)(xs ys:List Int):lexLt (x :: xs) (y :: ys)=if x=y then lexLt xs ys else decide (x<y):=rfl
theorem uj (A:A7)(s:Ag)(a:Int)(t:Tok)(c:Int)(u:Tok)(prog:Au)(w:AX)(E:Ae->Ag->Prop)(Q:Ae->Ag->Prop)(h:Q (.bool (decide (a<c))) s) :
  AL (AQ prog w) A (richCompare .Lt (.int a t) (.int c u)) Q E s :=
 (PyProof.Rows.lt_int h:AL (AQ prog w) A (Bo .Lt (.int a t) (.int c u)) Q E s)
section
open PySem.SeqAt
open PySem.AutoSeq1 (wpAny_loadPart')
open PySem.MeetsSeq PySem.MeetsSeq2 PySem.MeetsSeq3
end
section
variable  {prog:Au}{w:AX}{A:A7}{E:Ae->Ag->Prop}{s:Ag}
theorem vU {t b:Addr}{vs ws:List Ae}{Q:Ae->Ag->Prop}(ht:IsTup s.heap t vs.toArray)(hb:IsTup s.heap b ws.toArray)(hv:vs≠[])
  (h1:ws=[]->Q (.ref t) s) (h2:ws≠[]->Q (.ref s.heap.objs.size) { s with heap:=s.heap.push { cls :=.type "tuple",data :=.seq (vs++ws).toArray } })
  (hsz:vs.length+ws.length<=Ai):AL (AQ prog w) A (binaryOp .Add (.ref t) (.ref b)) Q E s:=by
 obtain ⟨⟨cls,dd,data,sl⟩,ho,hc,n,hd⟩:=id ht
 obtain ⟨⟨cls2,dd2,data2,sl2⟩,ho2,hc2,n2,hd2⟩:=id hb
 simp only at hc hd hc2 hd2
 subst hc hd hc2 hd2
 have e:vs.toArray++ws.toArray=(vs++ws).toArray:=by simp
 by_cases hw:ws=[]
 ·exact FK ⟨_,ho,rfl⟩ ⟨_,ho2,rfl⟩ Fm GG DN DH (DD _ _)
   (tuple_addW1 t b vs.toArray ws.toArray n n2 dd dd2 sl sl2 (by simpa using hv) (by simp[hw])) ⟨ho,ho2,h1 hw⟩
 ·refine FK ⟨_,ho,rfl⟩ ⟨_,ho2,rfl⟩ Fm GG DN DH (DD _ _)
   (tuple_addW2 t b vs.toArray ws.toArray n n2 dd dd2 sl sl2 (by simpa using hv) (by simpa using hw) (by rw[Aj,Aj];exact hsz)) ⟨ho,ho2,?_⟩
  rw[e]
  exact h2 hw
def sIx (n d:Nat):Option Int->Nat
 | none=>d
 | some v=>if v<0 then (v+(n:Int)).toNat else min v.toNat n
theorem um (n d:Nat):sIx n d none=d:=rfl
theorem vV (n d k:Nat):sIx n d (some (k:Int))=min k n:=by
 show (if (k:Int)<0 then ((k:Int)+(n:Int)).toNat else min (k:Int).toNat n)=min k n
 rw[if_neg (by omega),Bb]
end
end HT
namespace L2
open PySem PySem.Spec PyProof.Rows
abbrev TO:=St->Hp->(Option Int->Hp->Prop)->Prop
def PO (X:Cx)(e:Option Expr)(t:TO):Prop :=
 ∀(pins:List (Addr×Obj)) (s:Ag) (σ:St) (H:Hp) (Q:Option Int->Hp->Prop),Inv X pins σ H s->t σ H Q →
  AL (AQ X.prog X.w) X.A (evalPart e X.env) (λu s'=>∃o H',Inv X pins σ H' s'/\IsPart u o/\Q o H') X.xe s
def vW:TO:=λ_ H Q=>Q none H
def zD (t:TE):TO:=λσ H Q=>t σ H λx H1=>∃i,x = .int i/\Q (some i) H1
theorem intsAre_of {ns:List Int}:∀{us:List Ae},Vals (ns.map V.int) us->Ea us ns:=by
 induction ns with
 | nil=>intro us r;rw[GZ] at r;cases r;exact .nil
 | cons n ns ih =>
  intro us r
  rw[AV] at r
  cases r with
  | cons r1 r2 =>
   obtain ⟨t,e⟩:=r1
   subst e
   exact .cons n t (ih r2)
section
variable  {X:Cx}{e:Expr}{te:TE}{lo hi:Option Expr}{tl th:TO}{pos p2:Pos}
theorem vX:PO X none vW:=by
 intro pins s σ H Q I h
 rw[evalPart_none]
 exact An ⟨none,H,I,.none,h⟩
theorem vY (h:PE X e te):PO X (some e) (zD te):=by
 intro pins s σ H Q I hw
 rw[evalPart_some]
 refine thn (h pins s σ H _ I hw) λu s1 ⟨x,H1,I1,r1,q1⟩ =>?_
 obtain ⟨i,rfl,q⟩:=q1
 obtain ⟨t,rfl⟩:=r1
 exact ⟨some i,H1,I1,.int i t,q⟩
def SlR (X:Cx)(r:V->Option Int->Option Int->Hp->VK->Prop):Prop :=
 ∀(pins:List (Addr×Obj)) (s:Ag) (σ:St) (H:Hp) (x:V) (v vl vu:Ae) (lo hi:Option Int) (sl:Addr) (Q:VK),Inv X pins σ H s->RelV x v->s.heap.IsSliceOf sl vl vu .none->IsPart vl lo->IsPart vu hi->r x lo hi H Q →
  ∃T id,typeLookup (.type T) "__getitem__" = pure (some (.builtin id))/\s.TypeIs v T/\AL (AQ X.prog X.w) X.A (getItem v (.ref sl)) (EP X pins σ Q) X.xe s
def tSl (r:V->Option Int->Option Int->Hp->VK->Prop)(te:TE)(tl th:TO):TE:=λσ H Q=>te σ H λx H1=>tl σ H1 λl H2=>th σ H2 λu H3=>r x l u H3 Q
theorem uo {r:V->Option Int->Option Int->Hp->VK->Prop}(hr:SlR X r)(he:PE X e te)(hl:PO X lo tl)(hu:PO X hi th):PE X (.Subscript e (.Slice lo hi none p2) pos) (tSl r te tl th):=by
 intro pins s σ H Q I h
 refine Subscript_ (thn (he pins s σ H _ I h) λv s1 ⟨x,H1,I1,r1,q1⟩ =>?_)
 refine wpAny_Slice (thn (hl pins s1 σ H1 _ I1 q1) λvl s2 ⟨l,H2,I2,pl,q2⟩=>thn (hu pins s2 σ H2 _ I2 q2) λvu s3 ⟨u,H3,I3,pu,q3⟩ =>?_)
 rw[evalPart_none]
 refine An ?_
 have I4:Inv X pins σ H3 { s3 with heap:=s3.heap.push { cls :=.type "slice",data :=.fields #[vl,vu,.none] } }:=I3.kept (t':=s3.toks) λb ob q=>Ad _ q
 obtain ⟨T,id,hT,ht,hg⟩:=hr pins { s3 with heap:=s3.heap.push { cls :=.type "slice",data :=.fields #[vl,vu,.none] } } σ H3 x v vl vu l u s3.heap.objs.size Q I4 r1 (Ip ..) pl pu q3
 show AL (AQ X.prog X.w) X.A (subscriptTail e (.Slice lo hi none p2) v (.ref s3.heap.objs.size)) (EP X pins σ Q) X.xe { s3 with heap:=s3.heap.push { cls :=.type "slice",data :=.fields #[vl,vu,.none] } }
 exact tail_any (ops:=[.ref s3.heap.objs.size,v]) ht hT hg (by with_unfolding_all rfl)
def pF (xs:List V)(lo hi:Option Int):List V:=(xs.drop (HT.sIx xs.length 0 lo)).take (HT.sIx xs.length xs.length hi-HT.sIx xs.length 0 lo)
theorem nD (xs:List V)(lo hi:Option Int):(pF xs lo hi).length<=xs.length:=by
 unfold pF
 rw[Bg,B8]
 omega
def zE (K:Ab):R2:=λx y H Q=>∃a b xs ys,x = .ref a/\y = .ref b/\SqT K H a xs/\SqT K H b ys/\xs≠[]/\xs.length+ys.length<=Ai ∧
 (ys=[]->Q (.ref a) H)/\(ys≠[]->∀p,H p=none->Q (.ref p) (upd H p (.tup (xs++ys))))
theorem Vals.js {xs:List V}{us:List Ae}(r:Vals xs us):us=[]↔xs=[]:=by
 cases r with
 | nil=>simp
 | cons _ _=>simp
theorem vZ:OpR X (binaryOp .Add) (zE X.K):=by
 intro pins s σ H x y v u Q I rx ry h
 obtain ⟨a,b,xs,ys,rfl,rfl,ha,hb,hx,hz,q1,q2⟩:=h
 cases rx
 cases ry
 obtain ⟨its,r1,p1,_⟩:=I.tuple ha
 obtain ⟨its2,r2,p2,_⟩:=I.tuple hb
 refine HT.vU p1 p2 (λz=>hx (r1.js.mp z)) (λz=>⟨.ref a,H,I,rfl,q1 (r2.js.mp z)⟩) (λz =>?_) (by rw[<- r1.length, <- r2.length];exact hz)
 refine ⟨.ref s.heap.objs.size,_,I.laid (t':=s.toks) (o :=.tup (xs++ys)) (λb ob q=>Ad _ q) (Ah _) ?_,rfl,q2 (λw=>z (r2.js.mpr w)) _ (I.hok.fresh (Ah _))⟩
 exact ⟨by rw[Am];exact hz,_,r1.append r2,fv.new _ _⟩
end
open PySem PySem.Spec PyProof.Rows
def ixN (n:Nat)(i:Int):Option Nat:=if 0<=i then (if i<n then some i.toNat else none) else if -(n:Int)<=i then some (i+n).toNat else none
def atI {α:Type}(xs:List α)(i:Int):Option α:=(ixN xs.length i).bind λj=>xs[j]?
theorem qL {n:Nat}{i:Int}{j:Nat}(h:ixN n i=some j):seqIndex? i n=some j/\j<n /\ -(n:Int)<=i/\i<n:=by
 unfold ixN at h
 by_cases h0:0<=i
 ·rw[if_pos h0] at h
  by_cases h1:i<n
  ·rw[if_pos h1] at h
   have e:i.toNat=j:=A1 h
   exact ⟨by rw[Hx h0 h1,e],by omega,by omega,h1⟩
  ·rw[if_neg h1] at h;cases h
 ·rw[if_neg h0] at h
  by_cases h1 : -(n:Int)<=i
  ·rw[if_pos h1] at h
   have e:(i+n).toNat=j:=A1 h
   exact ⟨by rw[Hb (by omega) h1,e],by omega,h1,by omega⟩
  ·rw[if_neg h1] at h;cases h
theorem ml {α:Type}{xs:List α}{i:Int}{v:α}(h:atI xs i=some v):∃j,seqIndex? i xs.length=some j/\xs[j]? = some v/\j<xs.length /\ -(xs.length:Int)<=i/\i<xs.length:=by
 unfold atI at h
 cases e:ixN xs.length i with
 | none=>rw[e] at h;cases h
 | some j =>
  rw[e] at h
  obtain ⟨h1,h2,h3,h4⟩:=qL e
  exact ⟨j,h1,h,h2,h3,h4⟩
theorem bN {α:Type}{xs:List α}{j:Nat}{v:α}(h:xs[j]? = some v):atI xs (j:Int)=some v:=by
 have hj:j<xs.length:=(Al.mp h).1
 have e:ixN xs.length (j:Int)=some j:=by
  unfold ixN
  rw[if_pos (by omega),if_pos (by omega)];simp
 unfold atI;rw[e];exact h
def v3 (b:Expr):Prop:=∀o i,subscripted b false o i=operate [o,i] (getItem o i)
def IxR (X:Cx)(r:R2):Prop :=
 ∀(value slice:Expr) (pins:List (Addr×Obj)) (s:Ag) (σ:St) (H:Hp) (x y:V) (v u:Ae) (Q:VK),Inv X pins σ H s->RelV x v->RelV y u->r x y H Q →
  subscripted slice false v u=operate [v,u] (getItem v u)->AL (AQ X.prog X.w) X.A (subscriptTail value slice v u) (EP X pins σ Q) X.xe s
def MtR (X:Cx)(id:String)(r:V->List V->Hp->VK->Prop):Prop :=
 ∀(pins:List (Addr×Obj)) (s:Ag) (σ:St) (H:Hp) (x:V) (xs:List V) (v:Ae) (us:List Ae) (Q:VK),Inv X pins σ H s->RelV x v->Vals xs us->r x xs H Q →
  AL (AQ X.prog X.w) X.A (call (.builtin id) (v :: us)) (EP X pins σ Q) X.xe s
section
variable  {X:Cx}{a b:Expr}{ta tb:TE}{pos:Pos}
theorem IxR.or {r r':R2}(h:IxR X r)(h':IxR X r'):IxR X (λx y H Q=>r x y H Q\/r' x y H Q):=by
 intro value slice pins s σ H x y v u Q I rx ry q hs
 rcases q with q | q
 ·exact h value slice pins s σ H x y v u Q I rx ry q hs
 ·exact h' value slice pins s σ H x y v u Q I rx ry q hs
theorem aJ {r:R2}(hr:IxR X r)(ha:PE X a ta)(hb:PE X b tb)(hs:v3 b):PE X (.Subscript a b pos) (tOp r ta tb):=by
 intro pins s σ H Q I h
 exact Subscript_ (yg ha hb I h λv u s2 x y H2 I2 rx ry q=>hr a b pins s2 σ H2 x y v u Q I2 rx ry q (hs _ _))
def zF (K:Ab):R2:=λx y H Q=>∃p xs i v,x = .ref p/\y = .int i/\SqL K H p xs/\atI xs i=some v/\Q v H
def ym (K:Ab):R2:=λx y H Q=>∃p xs i v,x = .ref p/\y = .int i/\SqT K H p xs/\atI xs i=some v/\Q v H
def zG:R2:=λx y H Q=>∃z i c,x = .str z/\y = .int i/\z.length<=Ai/\atI z.cps.toList i=some c/\Q (.str ⟨#[c]⟩) H
theorem cY:IxR X (zF X.K):=by
 intro value slice pins s σ H x y v u Q I rx ry h hs
 obtain ⟨p,xs,i,z,rfl,rfl,hq,he,q⟩:=h
 cases rx
 obtain ⟨t,rfl⟩:=ry
 obtain ⟨its,r,pl,hz⟩:=I.list hq
 obtain ⟨j,h1,h2,h3,h4,h5⟩:=ml he
 obtain ⟨w,ew,rw'⟩:=r.get h2
 have hl:=r.length
 have hn:=iM
 have fin:EP X pins σ Q w s:=⟨z,H,I,rw',q⟩
 by_cases h0:0<=i
 ·have hj:i.toNat=j:=by
   rw[Hx h0 h5] at h1
   exact A1 h1
  exact item_listR pl.isList h0 (by omega) (by rw[hj];simpa using ew) fin hs
 ·have hj:(i+(its.toArray.size:Int)).toNat=j:=by
   rw[Hb (by omega) h4] at h1
   rw[Aj, <- hl]
   exact A1 h1
  exact Fz (x:=w) pl.isList.typeIs slot_list_getitem.lookup
   (wpAny_getItem_list_neg (Q:=λr s'=>r=w/\EP X pins σ Q r s') pl.isList (by omega) (by rw[Aj] <;> omega) (by omega) (by rw[hj];simpa using ew) ⟨rfl,fin⟩) hs
theorem aS:IxR X (ym X.K):=by
 intro value slice pins s σ H x y v u Q I rx ry h hs
 obtain ⟨p,xs,i,z,rfl,rfl,hq,he,q⟩:=h
 cases rx
 obtain ⟨t,rfl⟩:=ry
 obtain ⟨its,r,pl,hz⟩:=I.tuple hq
 obtain ⟨j,h1,h2,h3,h4,h5⟩:=ml he
 obtain ⟨w,ew,rw'⟩:=r.get h2
 have hl:=r.length
 have hn:=iM
 have fin:EP X pins σ Q w s:=⟨z,H,I,rw',q⟩
 exact Fz (x:=w) pl.typeIs slot_tuple_getitem.lookup
  (getItem_tuple (j:=j) (Q:=λr s'=>r=w/\EP X pins σ Q r s') pl (by omega) (by omega) (by rw[Aj, <- hl];exact h1) (by simpa using ew) ⟨rfl,fin⟩) hs
theorem yn:IxR X zG:=by
 intro value slice pins s σ H x y v u Q I rx ry h hs
 obtain ⟨z,i,c,rfl,rfl,hz,he,q⟩:=h
 obtain ⟨t,rfl⟩:=rx
 obtain ⟨t',rfl⟩:=ry
 obtain ⟨j,h1,h2,h3,h4,h5⟩:=ml he
 have hl:z.cps.toList.length=z.length:=by simp[Str.length]
 rw[hl] at h1 h4 h5
 have hn:=iM
 exact tail_any (typeIs_str s z t) slot_str_getitem.lookup (getItem_str (c:=c) (by
  have e1:decide (i < -(2 ^ 63:Int))=false:=decide_eq_false (by omega)
  have e2:decide (i≥2 ^ 63)=false:=decide_eq_false (by omega)
  rw[e1,e2,Ib]) (by rw[h1];simpa using h2) ⟨.str ⟨#[c]⟩,H,I.tok _,⟨_,rfl⟩,q⟩) hs
def rIx (K:Ab):R2:=λx y H Q=>zF K x y H Q\/ym K x y H Q\/zG x y H Q
theorem yo:IxR X (rIx X.K):=cY.or (aS.or yn)
theorem pG (its:List Ae)(n j:Nat)(u:Ae):Ce (·.setIfInBounds j u) { cls :=.type "list",data :=.seq its.toArray n }={ cls :=.type "list",data :=.seq (its.set j u).toArray n }:=by
 simp[Ce]
theorem Inv.lst {pins:List (Addr×Obj)}{σ:St}{H:Hp}{s:Ag}{p:Addr}{xs:List V}(I:Inv X pins σ H s)(h:H p=some (.lst xs)) :
  ∃(its:List Ae) (n:Nat),Vals xs its/\s.heap.get? p=some { cls :=.type "list",data :=.seq its.toArray n }/\xs.length<=Ai:=by
 obtain ⟨z,its,n,r,e⟩:=I.hok p _ h
 exact ⟨its,n,r,e,z⟩
theorem Inv.yp {pins:List (Addr×Obj)}{σ:St}{H:Hp}{s:Ag}{p:Addr}{xs ys:List V}{its its':List Ae}{n n':Nat}{f:Obj->Obj}(I:Inv X pins σ H s)(h:H p=some (.lst xs))
  (ho:s.heap.get? p=some { cls :=.type "list",data :=.seq its.toArray n }) (hf:f { cls :=.type "list",data :=.seq its.toArray n }={ cls :=.type "list",data :=.seq its'.toArray n' }) (r:Vals ys its') (hz:ys.length<=Ai) (t:Nat) :
  Inv X pins σ (upd H p (.lst ys)) { s with heap:=s.heap.update p f,toks:=t }:=by
 have e:(s.heap.update p f).get? p=some { cls :=.type "list",data :=.seq its'.toArray n' }:=by
  rw[Bj f ho (by rw[hf] <;> rfl),hf]
 refine I.write (x:=p) (e:=p) (by rw[h];trivial) (.inl rfl) (λb u hb q=>(Bl _ _ (Ca hb)).trans q) ⟨_,e⟩ ?_
 exact ⟨hz,its',n',r,e⟩
def zI:V->V->V->Hp->(Hp->Prop)->Prop:=λo i v H Q=>∃p xs k j,o = .ref p/\i = .int k/\H p=some (.lst xs)/\ixN xs.length k=some j/\Q (upd H p (.lst (xs.set j v)))
theorem set_list:zt X zI:=by
 intro pins s σ H o i v ov iv u Q I ro ri rv h
 obtain ⟨p,xs,k,j,rfl,rfl,hp,hj,q⟩:=h
 cases ro
 obtain ⟨t,rfl⟩:=ri
 obtain ⟨its,n,r,ho,hz⟩:=I.lst hp
 obtain ⟨h1,h2,h3,h4⟩:=qL hj
 have hl:=r.length
 have hn:=iM
 have I':Inv X pins σ (upd H p (.lst (xs.set j v))) { s with heap:=s.heap.update p (Ce (·.setIfInBounds j u)) } :=
  I.yp hp ho (pG its n j u) (r.set rv j) (by rw[Hl];exact hz) s.toks
 by_cases h0:0<=k
 ·have hk:k.toNat=j:=by
   rw[Hx h0 h4] at h1
   exact A1 h1
  exact PySem.W.ki_setAt ho h0 (by omega) (by rw[Aj, <- hl];exact h4) (by rw[hk];exact ⟨_,I',q⟩)
 ·have hk:(k+(its.toArray.size:Int)).toNat=j:=by
   rw[Hb (by omega) h3] at h1
   rw[Aj, <- hl]
   exact A1 h1
  exact PySem.W.ki_setBack ho (by omega) (by rw[Aj, <- hl];exact h3) (by omega) (by rw[hk];exact ⟨_,I',q⟩)
theorem mq (lo hi:Option Int)(n:Nat):(sliceBounds lo hi none n).1=((HT.sIx n 0 lo:Nat):Int)/\(sliceBounds lo hi none n).2.1=((HT.sIx n n hi:Nat):Int)/\(sliceBounds lo hi none n).2.2=1:=by
 refine ⟨?_,?_,rfl⟩
 ·cases lo with
  | none=>simp[sliceBounds,HT.sIx]
  | some i =>
   simp only[sliceBounds,HT.sIx,Hf,show (1:Int)>0 by decide,if_true]
   by_cases h:i<0
   ·simp only[h,if_true] <;> omega
   ·simp only[h,if_false] <;> omega
 ·cases hi with
  | none=>simp[sliceBounds,HT.sIx]
  | some i =>
   simp only[sliceBounds,HT.sIx,Hf,show (1:Int)>0 by decide,if_true]
   by_cases h:i<0
   ·simp only[h,if_true] <;> omega
   ·simp only[h,if_false] <;> omega
theorem ku (its:List Ae)(lo hi:Option Int):slicePick its.toArray lo hi none=((its.drop (HT.sIx its.length 0 lo)).take (HT.sIx its.length its.length hi-HT.sIx its.length 0 lo)).toArray:=by
 obtain ⟨h1,h2,h3⟩:=mq lo hi its.toArray.size
 unfold slicePick
 rw[h1,h2,h3]
 simp only[sliceRange_one,pick_run,Aj] <;> rfl
def rSlL (K:Ab):V->Option Int->Option Int->Hp->VK->Prop:=λx lo hi H Q=>∃a xs,x = .ref a/\SqL K H a xs/\∀p,H p=none->Q (.ref p) (upd H p (.lst (pF xs lo hi)))
theorem v5:SlR X (rSlL X.K):=by
 intro pins s σ H x v vl vu lo hi sl Q I rx hs pl pu h
 obtain ⟨a,xs,rfl,hx,q⟩:=h
 cases rx
 obtain ⟨its,r,ht,hz⟩:=I.list hx
 have hlen:=r.length
 refine ⟨"list",_,slot_list_getitem.lookup,ht.isList.typeIs,?_⟩
 refine wpAny_getItem_list_slice ht.isList hs pl pu .none (by simp) ?_ (by rw[Aj] <;> omega)
 rw[ku, <- hlen]
 refine ⟨.ref s.heap.objs.size,_,I.laid (t':=s.toks) (o :=.lst (pF xs lo hi)) (λb ob q=>Ad _ q) (Ah _) ?_,rfl,q _ (I.hok.fresh (Ah _))⟩
 exact ⟨A8 (nD xs lo hi) hz,_,0,(r.drop (HT.sIx xs.length 0 lo)).take (HT.sIx xs.length xs.length hi-HT.sIx xs.length 0 lo),Av _ rfl⟩
def hZ:V->Bool
 | .non=>true
 | .bl _=>true
 | .int _=>true
 | .str _=>true
 | _=>false
def eqV:V->V->Bool
 | .non,.non=>true
 | .bl a,.bl b=>a == b
 | .bl a,.int b=>(if a then 1 else 0) == b
 | .int a,.bl b=>a == (if b then 1 else 0)
 | .int a,.int b=>a == b
 | .str a,.str b=>a == b
 | _,_=>false
theorem yq {A:A7}{s:Ag}{y x:V}{u v:Ae}(ry:RelV y u)(rx:RelV x v)(fy:hZ y=true)(fx:hZ x=true):DG A s u v (eqV y x):=by
 cases y with
 | non =>
  cases ry
  cases x with
  | non=>cases rx;exact DI _
  | bl b=>cases rx;exact SeqAt.EqAt.none_bool b
  | int b=>obtain ⟨t,rfl⟩:=rx;exact SeqAt.EqAt.none_int b t
  | str b=>obtain ⟨t,rfl⟩:=rx;exact SeqAt.EqAt.none_str b t
  | _=>exact absurd (show false=true from fx) Ao
 | bl a =>
  cases ry
  cases x with
  | non=>cases rx;exact SeqAt.EqAt.bool_none a
  | bl b=>cases rx;exact FR a b
  | int b=>obtain ⟨t,rfl⟩:=rx;exact SeqAt.EqAt.bool_int a b t
  | str b=>obtain ⟨t,rfl⟩:=rx;exact SeqAt.EqAt.bool_str a b t
  | _=>exact absurd (show false=true from fx) Ao
 | int a =>
  obtain ⟨t',rfl⟩:=ry
  cases x with
  | non=>cases rx;exact SeqAt.EqAt.int_none a t'
  | bl b=>cases rx;exact SeqAt.EqAt.int_bool a t' b
  | int b=>obtain ⟨t,rfl⟩:=rx;exact C9 a t' b t
  | str b=>obtain ⟨t,rfl⟩:=rx;exact Gn a t' b t
  | _=>exact absurd (show false=true from fx) Ao
 | str a =>
  obtain ⟨t',rfl⟩:=ry
  cases x with
  | non=>cases rx;exact SeqAt.EqAt.str_none a t'
  | bl b=>cases rx;exact SeqAt.EqAt.str_bool a t' b
  | int b=>obtain ⟨t,rfl⟩:=rx;exact Gp a t' b t
  | str b=>obtain ⟨t,rfl⟩:=rx;exact Gs a t' b t
  | _=>exact absurd (show false=true from fx) Ao
 | _=>exact absurd (show false=true from fy) Ao
def eqU (x:V)(u:Ae):Bool:=match u with
 | .none=>eqV .non x
 | .bool b=>eqV (.bl b) x
 | .int i _=>eqV (.int i) x
 | .str z _=>eqV (.str z) x
 | _=>false
theorem uq {x y:V}{u:Ae}(r:RelV y u)(f:hZ y=true):eqU x u=eqV y x:=by
 cases y with
 | non=>cases r;rfl
 | bl b=>cases r;rfl
 | int i=>obtain ⟨t,rfl⟩:=r;rfl
 | str z=>obtain ⟨t,rfl⟩:=r;rfl
 | _=>exact absurd (show false=true from f) Ao
theorem mv {x:V}:∀{xs:List V} {us:List Ae},Vals xs us->xs.all hZ=true->us.any (eqU x)=xs.any λy=>eqV y x
 | _,_,.nil,_=>rfl
 | y :: xs,u :: us,.cons r t,f=>by
  rw[Ic,Bh] at f
  rw[Dp,Dp,uq r f.1,mv t f.2]
theorem jF {A:A7}{s:Ag}{x:V}{v:Ae}(rx:RelV x v)(fx:hZ x=true):∀{xs:List V} {us:List Ae},Vals xs us->xs.all hZ=true->∀u∈us,DG A s u v (eqU x u)
 | _,_,.nil,_=>λu hu=>by cases hu
 | y :: xs,u :: us,.cons r t,f=>λu' hu=>by
  rw[Ic,Bh] at f
  rcases AH.mp hu with rfl | hu
  ·rw[uq r f.1];exact yq r rx f.1 fx
  ·exact jF rx fx t f.2 u' hu
def inV (x:V)(xs:List V):Bool:=xs.any λy=>eqV y x
def rIn (K:Ab)(neg:Bool):R2:=λx y H Q=>∃p xs,y = .ref p/\(SqL K H p xs\/SqT K H p xs)/\hZ x=true/\xs.all hZ=true/\Q (.bl (if neg then !inV x xs else inV x xs)) H
theorem mw:OpR X (Bo .NotIn) (rIn X.K true):=by
 intro pins s σ H x y v u Q I rx ry h
 obtain ⟨p,xs,rfl,hq,fx,fs,q⟩:=h
 cases ry
 rcases hq with hq | hq
 ·obtain ⟨its,r,pl,hz⟩:=I.list hq
  refine Gu (eqU x) pl.isList (λw hw=>jF rx fx r fs w (by simpa using hw)) ⟨.bl _,H,I,rfl,?_⟩
  rw[show its.toArray.any (eqU x)=its.any (eqU x) by simp,mv r fs]
  exact q
 ·obtain ⟨its,r,pl,hz⟩:=I.tuple hq
  refine FZ (eqU x) pl (λw hw=>jF rx fx r fs w (by simpa using hw)) ⟨.bl _,H,I,rfl,?_⟩
  rw[show its.toArray.any (eqU x)=its.any (eqU x) by simp,mv r fs]
  exact q
theorem aO:b8 X (.builtin "len") (λxs H Q=>∃p ys,xs=[.ref p]/\(SqL X.K H p ys\/SqT X.K H p ys)/\Q (.int ys.length) H):=by
 intro pins s σ H xs us Q I r h
 obtain ⟨p,ys,rfl,hq,q⟩:=h
 obtain ⟨u,rfl,rx⟩:=vals1 r
 cases rx
 have hn:=iM
 rcases hq with hq | hq
 ·obtain ⟨its,r',pl,hz⟩:=I.list hq
  have hlen:=r'.length
  exact Calls.call_len_list pl.isList (by simp only[Aj] <;> omega) ⟨.int ys.length,H,I.tok _,⟨s.toks+1,by rw[Aj,hlen]⟩,q⟩
 ·obtain ⟨its,r',pl,hz⟩:=I.tuple hq
  have hlen:=r'.length
  exact len_tuple pl (by simp only[Aj] <;> omega) ⟨.int ys.length,H,I.tok _,⟨s.toks+1,by rw[Aj,hlen]⟩,q⟩
theorem eN:b8 X (.type "list") (λxs H Q=>∃p ys,xs=[.ref p]/\(SqL X.K H p ys\/SqT X.K H p ys)/\∀l,H l=none->Q (.ref l) (upd H l (.lst ys))):=by
 intro pins s σ H xs us Q I r h
 obtain ⟨p,ys,rfl,hq,q⟩:=h
 obtain ⟨u,rfl,rx⟩:=vals1 r
 cases rx
 have fin:∀(its:List Ae),Vals ys its->ys.length<=Ai->∀(h':Heap) (c':Nat),(∀b o',s.heap.get? b=some o'->h'.get? b=some o') →
   h'.get? s.heap.objs.size=some { cls :=.type "list",dict:=none,data :=.seq its.toArray c',slots := #[] }->EP X pins σ Q (.ref s.heap.objs.size) { s with heap:=h' }:=λits r' hz h' c' kp e =>
  ⟨.ref s.heap.objs.size,_,I.laid (t':=s.toks) kp (Ah _) (show bj X.prog X.w _ h' _ (.lst ys) from ⟨hz,its,c',r',e⟩),rfl,q _ (I.hok.fresh (Ah _))⟩
 rcases hq with hq | hq
 ·obtain ⟨its,r',pl,hz⟩:=I.list hq
  have hlen:=r'.length
  obtain ⟨o,ho,hc,n,hd⟩:=pl.isList
  exact call_list_seq p (.inl rfl) ho hc hd (λh' c' kp e=>fin its r' hz h' c' kp e) (by simp only[Aj] <;> omega)
 ·obtain ⟨its,r',pl,hz⟩:=I.tuple hq
  have hlen:=r'.length
  obtain ⟨o,ho,hc,n,hd⟩:=pl
  exact call_list_seq p (.inr rfl) ho hc hd (λh' c' kp e=>fin its r' hz h' c' kp e) (by simp only[Aj] <;> omega)
theorem az:b8 X (.type "tuple") (λxs H Q=>∃p ys,xs=[.ref p]/\((SqL X.K H p ys/\∀l,H l=none->Q (.ref l) (upd H l (.tup ys)))\/(SqT X.K H p ys/\Q (.ref p) H))):=by
 intro pins s σ H xs us Q I r h
 obtain ⟨p,ys,rfl,h⟩:=h
 obtain ⟨u,rfl,rx⟩:=vals1 r
 cases rx
 rcases h with ⟨hq,q⟩ | ⟨hq,q⟩
 ·obtain ⟨its,r',pl,hz⟩:=I.list hq
  have hlen:=r'.length
  refine call_tuple_list pl.isList (λh' kp =>?_) (by simp only[Aj] <;> omega)
  have I1:Inv X pins σ H { s with heap:=h' }:=I.kept (t':=s.toks) kp
  have I2:Inv X pins σ (upd H h'.objs.size (.tup ys)) { s with heap:=h'.push { cls :=.type "tuple",data :=.seq its.toArray } } :=
   I1.laid (t':=s.toks) (λb o e=>Ad _ e) (Ah _) (show bj X.prog X.w _ _ _ (.tup ys) from ⟨hz,its,r',fv.new _ _⟩)
  exact ⟨.ref h'.objs.size,_,I2,rfl,q _ (I1.hok.fresh (Ah _))⟩
 ·obtain ⟨its,r',pl,hz⟩:=I.tuple hq
  exact call_tuple_same pl ⟨.ref p,H,I,rfl,q⟩
def tyV (K:Ab)(T:String)(x:V)(H:Hp):Prop:=match x with
 | .str _=>T = "str"
 | .int _=>T = "int"
 | .ref p=>(T = "list" /\ ∃xs,SqL K H p xs)\/(T = "tuple" /\ ∃o,K.lookup p=some o/\o.cls = .type "tuple" /\ o.dict=none) ∨
   (T = "dict" /\ ((∃kvs,H p=some (.dK kvs))\/∃kvs,H p=some (.dT kvs)))\/(T = "set" /\ ∃S n,H p=some (.set S n))
 | _=>False
theorem yr {pins:List (Addr×Obj)}{σ:St}{H:Hp}{s:Ag}{T:String}{x:V}{v:Ae}(I:Inv X pins σ H s)(r:RelV x v)(ty:tyV X.K T x H) :
  s.TypeIs v T/\∀a,v = .ref a->∃ob,s.heap.get? a=some ob/\ob.dict=none:=by
 cases x with
 | str z =>
  obtain ⟨t,rfl⟩:=r
  cases (show T = "str" from ty)
  exact ⟨typeIs_str s z t,λ_ e=>nomatch e⟩
 | int i =>
  obtain ⟨t,rfl⟩:=r
  cases (show T = "int" from ty)
  exact ⟨typeIs_int s i t,λ_ e=>nomatch e⟩
 | ref p =>
  cases r
  rcases ty with ⟨rfl,xs,hq⟩ | ⟨rfl,o,hk,hc,hd⟩ | ⟨rfl,hk⟩ | ⟨rfl,S,n,hk⟩
  ·obtain ⟨its,_,pl,_⟩:=I.list hq
   refine ⟨pl.isList.typeIs,λa e =>?_⟩
   cases e
   obtain ⟨o,n,e,c,hd,_⟩:=pl
   exact ⟨o,e,hd⟩
  ·refine ⟨⟨o,I.kIn p o hk,hc⟩,λa e =>?_⟩
   cases e
   exact ⟨o,I.kIn _ o hk,hd⟩
  ·have z:∃o,s.heap.get? p=some o/\o.ExactDict:=by
    rcases hk with ⟨kvs,hk⟩ | ⟨kvs,hk⟩
    ·obtain ⟨_,_,_,_,o,_,_,e,ex,_⟩:=I.hok p _ hk
     exact ⟨o,e,ex⟩
    ·obtain ⟨_,_,_,_,o,_,_,e,ex,_⟩:=I.hok p _ hk
     exact ⟨o,e,ex⟩
   obtain ⟨o,e,ex⟩:=z
   refine ⟨⟨o,e,ex.1⟩,λa e2 =>?_⟩
   cases e2
   exact ⟨o,e,ex.2.1⟩
  ·obtain ⟨o,_,_,_,e,ex,_⟩:=I.hok p _ hk
   refine ⟨⟨o,e,ex.1⟩,λa e2 =>?_⟩
   cases e2
   exact ⟨o,e,ex.2.1⟩
 | _=>exact False.elim ty
def tBM (K:Ab)(T:String)(r:V->List V->Hp->VK->Prop)(to:TE)(t:TA):TE:=λσ H Q=>to σ H λx H1=>tyV K T x H1/\t σ H1 λxs H2=>r x xs H2 Q
variable  {o e:Expr}{es:List Expr}{to:TE}{t:TA}{name:Str}{apos cpos:Pos}{T id:String}{r:V->List V->Hp->VK->Prop}
theorem nE (pa:PlainAttrs T)(slot:Slot T name id)(hty:typeOf (.builtin id)=pure (.type "method_descriptor"))(hm:MtR X id r)(ho:PE X o to)(ha:PA X (e :: es) t)
  (hbase:attributeBase o name X.env (eval o X.env)=eval o X.env:=by rfl)
  (hfew:((DP cpos (Bf (e :: es) X.env)).all (λx => !x.1) && (backToKw cpos (keywordEach [] X.env)).all (λx=>x.1.isSome)
   && decide ((e :: es).length+([]:List Keyword).length+(if ([]:List Keyword).isEmpty then 0 else 1)<30))=true:=by rfl)
  (hline:(apos.endLine == cpos.line)=true:=by rfl) (hs:Bf (e :: es) X.env=(false,eval e X.env) :: Bf es X.env:=by rfl) (hplain:(DP cpos (Bf es X.env)).any (·.1)=false:=by rfl) :
  PE X (.Call (.Attribute o name apos) (e :: es) [] cpos) (tBM X.K T r to t):=by
 intro pins s σ H Q I h
 refine wpAny_Call_method_late hbase hfew hline rfl (thn (ho pins s σ H _ I h) λv s1 ⟨x,H1,I1,r1,ty,q1⟩ =>?_)
 obtain ⟨h1,h2⟩:=yr I1 r1 ty
 refine ⟨T,id,pa,slot,hty,h1,h2,?_⟩
 have hA:=ha cpos pins s1 σ H1 _ I1 q1
 rw[hs] at hA ⊢
 refine Fq (by show (false || (DP cpos (Bf es X.env)).any (·.1))=false;rw[hplain] <;> rfl) (Ec ?_)
 exact thn hA λus s2 ⟨vs,H2,I2,r2,q2⟩=>hm pins s2 σ H2 x vs v us Q I2 r1 r2 q2
end
open PySem PySem.Spec PyProof.Rows
def MtM (X:Cx)(id:String)(r:V->List V->Hp->VK->Prop):Prop :=
 ∀(pins:List (Addr×Obj)) (s:Ag) (σ:St) (H:Hp) (x:V) (xs:List V) (v:Ae) (us:List Ae) (Q:VK),Inv X pins σ H s->RelV x v->Vals xs us->r x xs H Q →
  AL (AQ X.prog X.w) X.A (call (.builtin id) (v :: us)) (EP X pins σ Q) X.xe s
theorem Vals.one:∀{x:V} {us:List Ae},Vals [x] us->∃u,us=[u]/\RelV x u
 | _,_,.cons r .nil=>⟨_,rfl,r⟩
section
variable  {X:Cx}{pins:List (Addr×Obj)}{σ:St}{H:Hp}{s:Ag}{l b:Addr}{xs ys zs:List V}
theorem Inv.zJ {its its':List Ae}{n:Nat}{f:Array Ae->Array Ae}{t':Nat}(I:Inv X pins σ H s)(hH:H l=some (.lst xs))
  (e:s.heap.get? l=some { cls :=.type "list",data :=.seq its.toArray n }) (hf:f its.toArray=its'.toArray) (hv:Vals ys its') (hz:ys.length<=Ai) :
  Inv X pins σ (upd H l (.lst ys)) { s with heap:=s.heap.update l (Ce f),toks:=t' }:=by
 have q:=PySem.IsL.update e f
 rw[hf] at q
 refine I.write (x:=l) (e:=l) (by rw[hH];exact trivial) (.inl rfl) (λb' u hb hu=>(Bl s.heap (Ce f) (Ca hb)).trans hu) ⟨_,q⟩ ?_
 exact ⟨hz,its',_,hv,q⟩
theorem Inv.lnew {its:List Ae}{t':Nat}(I:Inv X pins σ H s)(hv:Vals ys its)(hz:ys.length<=Ai) :
  Inv X pins σ (upd H s.heap.objs.size (.lst ys)) { s with heap:=s.heap.push { cls :=.type "list",data :=.seq its.toArray },toks:=t' } :=
 I.laid (λ_ _ q=>Ad _ q) (Ah _) ⟨hz,its,0,hv,Av _ rfl⟩
theorem Inv.fresh (I:Inv X pins σ H s):H s.heap.objs.size=none:=I.hok.fresh (Ah _)
theorem Inv.zK (I:Inv X pins σ H s)(hH:H l=some (.lst xs)):xs.length<=Ai/\∃(its:List Ae) (n:Nat),Vals xs its/\xs.length=its.length/\s.heap.get? l=some { cls :=.type "list",data :=.seq its.toArray n }:=by
 obtain ⟨z,its,n,r,e⟩:=I.hok l _ hH
 exact ⟨z,its,n,r,r.length,e⟩
end
section
variable  {X:Cx}
def v7:V->List V->Hp->VK->Prop:=λx vs H Q=>∃l xs y,x = .ref l/\vs=[y]/\H l=some (.lst xs)/\xs.length<Ai/\Q .non (upd H l (.lst (xs++[y])))
theorem k7:MtM X "list.append" v7:=by
 intro pins s σ H x vs v us Q I rx rv h
 obtain ⟨l,xs,y,rfl,rfl,hH,hz,q⟩:=h
 cases rx
 obtain ⟨u,rfl,ru⟩:=rv.one
 obtain ⟨z,its,n,r,hl,e⟩:=I.zK hH
 refine GX F.slot_list_append ⟨_,e,rfl⟩ F.entry_list_append (F.args_list_append_2 _ _) (PySem.list_append l its.toArray n u (by rw[Aj];omega)) ⟨e,?_⟩
 refine ⟨.non,_,I.zJ (its':=its++[u]) hH e (by simp) (r.append (.cons ru .nil)) ?_,rfl,q⟩
 rw[Am,Bw]
 omega
end
section
variable  {prog:Au}{w:AX}{A:A7}{E:Ae->Ag->Prop}{s:Ag}
end
section
variable  {X:Cx}
end
end L2
namespace Att
open PySem PySem.W PySem.Calls PyProof.Rows
theorem ji {P:Params}{h:Heap}:∀(ns:List Int) (vs:List Ae),WellAll P h vs (ns.map WData.int)->Ea vs ns:=by
 intro ns
 induction ns with
 | nil =>
  intro vs w
  rw[GZ] at w
  cases w
  exact .nil
 | cons n ns ih =>
  intro vs w
  rw[AV] at w
  cases w with
  | cons a b =>
   cases a
   exact .cons _ _ (ih _ b)
theorem rV {l:OpenLaw}{n:Nat}(hn:l.most=some n){P:Params}{h:Heap}{args:List WData}{vals:List Ae}
  (hpre:l.row.toRowW.claim.pre args=true) (hwl:WellAll P h vals args) :
  ∃a vs ns,vals=[As a]/\args=[WData.list (ns.map WData.int)]/\h.get? a=some { cls :=.type "list",data :=.seq vs.toArray }/\Ea vs ns/\ns.length<=n:=by
 have hsh:WShape.hasAll [] args [.list .int]=true:=(pre_splitW hpre).1
 have hc:l.pre.holds [] { args:=args }=true:=(pre_splitW hpre).2
 obtain ⟨d,r,rfl,h1,h2⟩:=hasAllW_cons hsh
 obtain rfl:=hasAllW_nil h2
 obtain ⟨xs,rfl,h3⟩:=hasW_list h1
 obtain ⟨ns,rfl⟩:=items_int h3
 have hlen:ns.length<=n:=by
  unfold OpenLaw.pre at hc
  have h4:(WTm.not (.lt (.lit (.int (n:Int))) (.len (.arg 0)))).holds [] { args:=[.list (ns.map .int)] }=true:=by
   have h4:=(holds_andW hc).1
   rw[hn] at h4
   exact h4
  have h5:=condW_of h4 (w_not (w_lt w_lit (w_len_list (w_arg rfl))))
  rw[Ac] at h5
  refine D4 λq =>?_
  have q':(n:Int)<((ns.length:Nat):Int):=by omega
  first
   | (rw[decide_eq_true q'] at h5;exact absurd h5 (by decide))
   | (simp at h5;omega)
 cases hwl with
 | cons w1 w2 =>
  cases w2
  cases w1 with
  | list ho hall=>exact ⟨_,_,ns,rfl,rfl,ho,ji ns _ hall,hlen⟩
theorem rW (l:OpenLaw)(args:List WData):l.row.toRowW.claim.post args (.bool true) args=true :=
 postW_of (r:=l.row.toRowW) (X:=(true == true))
  (show WShape.has [] (.bool true) .bool=true by first | rfl | decide | simp[WShape.has,WShape.arms,WShape.armsAll])
  (show (WTm.eq .res (.lit (.bool true))).value [] { args:=args,res:=some (.bool true),after:=args }=some (.bool (true == true)) from w_eq_bool (w_res rfl) w_lit) rfl
theorem nF {l:OpenLaw}{n:Nat}{q:Au}{loose:List Str}{XP:(Str->Option Ae)->Heap->Prop}{YP:AX->Heap->Prop}{d:DefRec}
  (hn:l.most=some n) (hdf:d.params.defaults=[])
  (call:∀(w:AX) (s₀ s₁:Ag) (mg mb:Str->Option Ae) (fa:Addr) (o:Obj) (pm cd doc:Ae) (a:Addr) (vs:List Ae) (ns:List Int),
   Ground q loose [] XP w s₀ mg mb s₁.heap->YP w s₁.heap →
   s₁.heap.get? fa=some o->o.data = .func (docDef d.name d.params d.body d.scope pm cd doc)->s₁.heap.CodeRec cd d.name->mg d.name=some (.ref fa) →
   s₁.heap.get? a=some { cls :=.type "list",data :=.seq vs.toArray }->Ea vs ns->ns.length<=n->s₁.gens = #[] →
   EN (AQ l.prog w) callerA (.call (.ref fa) ⟨[.ref a],[]⟩) (λr s'=>r = .ok (.ret (.bool true))/\OldK s₁.heap s'.heap/\s'.os=s₁.os/\AllBare s'.gens) s₁) :
  WalkO q loose XP YP l.row.toRowW d [] (λf vs=>PySem.call f vs):=by
 intro w s₀ s₁ mg mb G Y fa o pm cd doc dV kV ho hd hcd hD hmg hg args vals as hpre hlay hrd hwl hlo
 obtain rfl:dV = .none:=Dflts.none hD hdf
 obtain rfl:kV = .none:=Dflts.noKw hD
 obtain ⟨a,vs,ns,rfl,rfl,hobj,hints,hlen⟩:=rV hn hpre hwl
 refine enter_call (CN (call w s₀ s₁ mg mb fa o pm cd doc a vs ns G Y ho (fd_plain hd) hcd hmg hobj hints hlen hg) λr s' hq =>?_)
 obtain ⟨rfl,h2,h3,h4⟩:=hq
 exact ⟨.inl ⟨.bool true,.bool true,[],rfl,λ_=>rfl,.bool true,rW l _,λ_=>⟨List.Pairwise.nil,λ_ hm=>(nomatch hm)⟩⟩,h2,h3,h4⟩
section
variable  {prog:Au}{w:AX}{A:A7}{E:Ae->Ag->Prop}{s:Ag}{K:Frag}
def ledger (h:Heap)(L d:Addr):List (Addr×Obj):=(BL h.objs.size).filterMap λa=>if a=L\/a=d then none else (h.get? a).map λo=>(a,o)
end
end Att
namespace L2
open PySem PySem.Spec PyProof.Rows
theorem k8:∀{vs:List Ae} {ns:List Int},Ea vs ns->Vals (ns.map V.int) vs
 | _,_,.nil =>.nil
 | _,_,.cons n t h =>.cons ⟨t,rfl⟩ (k8 h)
def yt (H:Hp):Prop:=∀b,H b=none\/∃o xs,H b=some (.frz o (.lst xs))
theorem ur {P:Au}{w:AX}{K:Ab}{mg mb:Str->Option Ae}{CX:CXT}{k:Nat}{fa a:Addr}{fd:Be}{x:Str}{sp:Sp}{s₁:Ag}{vs:List Ae}{ns:List Int}
  (KX:K.In s₁.heap) (hns:s₁.heap.Ns AR mg) (hb:s₁.heap.Ns builtinsNs mb) (hbb:∀x:Str,x ≠ "__name__" -> mb x=Bz x) (hlim:s₁.heap.NoLimit) (hg:s₁.gens = #[])
  (ha:s₁.heap.get? a=some { cls :=.type "list",data :=.seq vs.toArray }) (hi:Ea vs ns) (hl:ns.length<=Ai) (hr:bU k callerA)
  (F:∀base:Heap,K.In base->base.Ns AR mg->bC P w K mg base CX k fa fd [x] sp) (hbind:∀(s:Ag) (u:Ae),BindsTo s fd ⟨[u],[]⟩ [(x,u)])
  (hsp:∀H:Hp,yt H->SqL K H a (ns.map V.int)->sp [.ref a] H (λv _=>v = .bl true) λ_ _ _=>False)
  (hCX:∀H e s',CX [] H s₁ (λ_ _ _=>False) e s'->False) :
  EN (AQ P w) callerA (.call (.ref fa) ⟨[.ref a],[]⟩) (λr s'=>r = .ok (.ret (.bool true))/\OldK s₁.heap s'.heap/\s'.os=s₁.os/\AllBare s'.gens) s₁:=by
 have rv:=k8 hi
 have lenV:=hi.length
 have core:∀H:Hp,yt H->SqL K H a (ns.map V.int)->HOk P w H s₁.heap->(∀b,H b≠none->b=a)->(H a≠none->K.lookup a=none) →
   EN (AQ P w) callerA (.call (.ref fa) ⟨[.ref a],[]⟩) (λr s'=>r = .ok (.ret (.bool true))/\OldK s₁.heap s'.heap/\s'.os=s₁.os/\AllBare s'.gens) s₁:=by
  intro H hO hS hok hA hK
  have base_of:∀{b:Addr} {o:Obj},s₁.heap.get? b=some o->H b=none->(ma s₁.heap H).get? b=some o:=λe n=>tX e n
  have noA:∀{b:Addr} {o:Obj} {es:Array DictEntry} {ep:Nat},s₁.heap.get? b=some o->o.data = .dict es ep->H b=none:=λ{b o es ep} e d=>by
   cases q:H b with
   | none=>rfl
   | some u =>
    have e':b=a:=hA b (by rw[q];simp)
    subst e'
    rw[ha] at e;cases e
    have d':Data.seq vs.toArray _=Data.dict es ep:=d
    cases d'
  have nsK:∀{b:Addr} {m:Str->Option Ae},s₁.heap.Ns b m->(ma s₁.heap H).Ns b m:=λ{b m} ⟨o,es,ep,e,d,r⟩=>⟨o,es,ep,base_of e (noA e d),d,r⟩
  have hKb:K.In (ma s₁.heap H):=λb o e=>base_of (KX b o e) (by
   cases q:H b with
   | none=>rfl
   | some u =>
    have e':b=a:=hA b (by rw[q];simp)
    subst e'
    rw[hK (by rw[q];simp)] at e;cases e)
  have hM:Mod K mg (ma s₁.heap H):=⟨hKb,nsK hns,⟨mb,nsK hb,hbb⟩,let ⟨mc,h1,h2⟩:=hlim;⟨mc,nsK h1,h2⟩⟩
  have e0:pE P w K mg (ma s₁.heap H) callerA [] s₁ H:=⟨rfl,hM,λb o e=>vO e,Nat.le_of_eq (rN _ _),trivial,λb hb=>absurd (show b∈([]:List Addr) from hb) (by simp),hok,.of_eq hg⟩
  refine CN ((F _ hKb (nsK hns)).run callerA [] s₁ H ⟨[.ref a],[]⟩ [.ref a] [.ref a] _ _ hr e0 (hbind s₁ (.ref a)) (.cons rfl .nil) (hsp H hO hS)) λr s' h =>?_
  cases r with
  | error e=>exact (hCX H e s' h).elim
  | ok fl =>
   cases fl with
   | next=>exact False.elim h
   | brk=>exact False.elim h
   | cont=>exact False.elim h
   | ret u =>
    obtain ⟨v,H',os,bare,un,hok',r',q⟩:=h
    have q':v = .bl true:=q
    subst q'
    obtain rfl:u=Value.bool true:=r'
    refine ⟨rfl,OldK.of_keep λb o e =>?_,os,bare⟩
    cases q:H b with
    | none=>exact un.keep b o e q (by intro z;exact absurd (show b∈([]:List Addr) from z) (by simp)) (by simp)
    | some u =>
     rcases hO b with z | ⟨ob,xs,z⟩
     ·rw[q] at z;cases z
     ·have z2:=un.frzs b ob _ z
      obtain ⟨e1,_⟩:=hok b _ z
      obtain ⟨e2,_⟩:=hok' b _ z2
      rw[e] at e1;cases e1
      exact e2
 cases hk:K.lookup a with
 | some o =>
  have e:=KX a o hk
  rw[ha] at e
  cases e
  refine core (λ_=>none) (λ_ =>.inl rfl) (.inr ⟨_,vs.toArray,_,hk,rfl,rfl,rfl,by rw[Aj,lenV];exact hl,by simpa using rv⟩) (λb u z=>by have z':(none:Option HO)=some u:=z;cases z') (λb z=>absurd rfl z) λz=>absurd rfl z
 | none =>
  refine core (λb=>if b=a then some (.frz { cls :=.type "list",data :=.seq vs.toArray } (.lst (ns.map V.int))) else none) (λb =>?_) (.inl (.inr ⟨{ cls :=.type "list",data :=.seq vs.toArray },if_pos rfl⟩)) (λb u z =>?_) (λb z =>?_) λ_=>hk
  ·by_cases hb:b=a
   ·exact .inr ⟨_,_,if_pos hb⟩
   ·exact .inl (if_neg hb)
  ·by_cases hb:b=a
   ·have z':=(if_pos hb).symm.trans z
    cases z'
    subst hb
    exact ⟨ha,by rw[Ac];exact hl,vs,_,rv,ha⟩
   ·have z':=(if_neg hb).symm.trans z
    cases z'
  ·by_cases hb:b=a
   ·exact hb
   ·exact absurd (if_neg hb) z
open PySem PySem.Spec PyProof.Rows
theorem v8 {l:PySem.W.OpenLaw}{n k:Nat}{q:Au}{loose:List Str}{XP:(Str->Option Ae)->Heap->Prop}{YP:AX->Heap->Prop}{d:DefRec}{K:Params->Ab}{CX:AX->CXT}{sp:AX->Sp}{x:Str}
  (hn:l.most=some n) (hn2:n<=Ai) (hdf:d.params.defaults=[]) (hr:bU k callerA)
  (hY:∀(w:AX) (h:Heap),YP w h->(K w.params).In h)
  (F:∀(w:AX) (mg:Str->Option Ae) (fa:Addr) (h:Heap),(K w.params).In h->h.Ns AR mg->mg d.name=some (.ref fa) →
   ∃fd:Be,(∀(s:Ag) (u:Ae),BindsTo s fd ⟨[u],[]⟩ [(x,u)]) ∧
    ∀base:Heap,(K w.params).In base->base.Ns AR mg->bC l.prog w (K w.params) mg base (CX w) k fa fd [x] (sp w))
  (hsp:∀(w:AX) (H:Hp) (a:Addr) (ns:List Int),ns.length<=n->yt H->SqL (K w.params) H a (ns.map V.int)->sp w [.ref a] H (λv _=>v = .bl true) λ_ _ _=>False)
  (hCX:∀(w:AX) (H:Hp) (s:Ag) (e:Ae) (s':Ag),CX w [] H s (λ_ _ _=>False) e s'->False) :
  PySem.W.WalkO q loose XP YP l.row.toRowW d [] (λf vs=>PySem.call f vs):=by
 refine Att.nF hn hdf λw s₀ s₁ mg mb fa o pm cd doc a vs ns G Y ho hd hcd hmg hobj hints hlen hg =>?_
 have KX:=hY w _ Y
 obtain ⟨fd,hb,hF⟩:=F w mg fa _ KX G.T.g hmg
 exact ur KX G.T.g G.T.b G.T.builtins G.T.nolimit hg hobj hints (A8 hlen hn2) hr hF hb (λH hO hS=>hsp w H a ns hlen hO hS) λH e s'=>hCX w H s₁ e s'
open PySem PySem.Spec PyProof.Rows
def cg (s:Stmt):Arguments:=match s with
 | .FunctionDef _ a _ _ _ _ _ _ _ _=>a
 | _=>{ posonlyargs:=[],args:=[],vararg:=none,kwonlyargs:=[],kw_defaults:=[],kwarg:=none,defaults:=[] }
def bG (s:Stmt):List Stmt:=match s with
 | .FunctionDef _ _ b _ _ _ _ _ _ _=>b
 | _=>[]
def aq (s:Stmt):Scope:=match s with
 | .FunctionDef _ _ _ _ _ _ sc _ _ _=>sc
 | _=>{ kind :=.function,names:=[],isGenerator:=false,isCoroutine:=false }
abbrev CX0:CXT:=λ_ _ _ _ _ _=>False
abbrev E0:XK:=λ_ _ _=>False
theorem zL {X:Cx}:Passes CX0 X E0:=λ_ _ _ _ _ _ _ h=>h.elim
structure Fun (K:Ab)(x qual:Str)(st:Stmt)(f:Addr)(fd:Be):Prop where
 ex:∃(oc:Ae) (od:Option Addr) (kV doc pm:Ae) (an:Option Addr) (cdv ct:Ae) (osl:Array (Option Ae)),
  fd=PySem.W.fnOf x qual (cg st) (bG st) (aq st) .none kV doc pm an cdv ct/\K.lookup f=some ⟨oc,od,.func fd,osl⟩/\PySem.W.codeIn K cdv qual=true
 kp:PySem.W.keepIn K (.ref f)=true
section
variable  {P:Au}{w:AX}{K:Ab}{mg:Str->Option Ae}{base:Heap}
theorem Fun.ok {x qual:Str}{st:Stmt}{f:Addr}{fd:Be}{N ps:List Str}{k:Nat}{sp:Sp}(F:Fun K x qual st f fd)(S:aP N ps (aq st))(len:∀vs H Q E,sp vs H Q E->vs.length=ps.length)
  (hbody:∀(cdv:Ae) (A:A7) (outer:List Env) (s:Ag) (H:Hp) (vs:List V) (Q:VK) (E:XK),bU k (A.deeper (envOfC qual (aq st) s.heap.objs.size f cdv))->sp vs H Q E →
   ∃t,PSs (jh CX0 P w K mg base N qual (aq st) f cdv A outer s H E).nox (bG st) t/\t { nx:=λ_ H'=>Q .non H',rt:=Q } (start N vs) H):bC P w K mg base CX0 (k+1) f fd ps sp:=by
 obtain ⟨oc,od,kV,doc,pm,an,cdv,ct,osl,rfl,lk,hcd⟩:=F.ex
 refine xI lk hcd S len λA outer s H vs Q E hr hsp =>?_
 obtain ⟨t,h,q⟩:=hbody cdv A outer s H vs Q E hr hsp
 exact ⟨t,h.nox,q⟩
theorem Fun.binds {x qual:Str}{st:Stmt}{f:Addr}{fd:Be}{ps:List Str}(F:Fun K x qual st f fd)
  (h:∀(kV doc pm:Ae) (an:Option Addr) (cdv ct:Ae) (us:List Ae),us.length=ps.length->bindArgs (PySem.W.fnOf x qual (cg st) (bG st) (aq st) .none kV doc pm an cdv ct) ⟨us,[]⟩=pure (ps.zip us)):Binds K fd ps []:=by
 obtain ⟨oc,od,kV,doc,pm,an,cdv,ct,osl,rfl,lk,hcd⟩:=F.ex
 exact .all (h kV doc pm an cdv ct)
theorem my {x qual:Str}{st:Stmt}{f:Addr}{oc:Ae}{od an:Option Addr}{osl:Array (Option Ae)}{kV doc pm cdv ct:Ae}(l:K.lookup f=some ⟨oc,od,.func (PySem.W.fnOf x qual (cg st) (bG st) (aq st) .none kV doc pm an cdv ct),osl⟩)
  (c:PySem.W.codeIn K cdv qual=true) (k:PySem.W.keepIn K (.ref f)=true):Fun K x qual st f (PySem.W.fnOf x qual (cg st) (bG st) (aq st) .none kV doc pm an cdv ct):=⟨⟨oc,od,kV,doc,pm,an,cdv,ct,osl,rfl,l,c⟩,k⟩
end
theorem zM {A:A7}{k:Nat}(hr:bU k A):A.units+1<cLine:=DJ (CA (by decide:1<=64) _) hr.units
theorem cp {n:Nat}(h:n<=1000):n<Ai:=DJ h (by decide)
section
variable  {X:Cx}
theorem pv (i:Nat){x:Str}{pos:Pos}(hN:X.N[i]? = some x:=by rfl)(hv:Vis X.env.scope x:=by first | exact Or.inl rfl | exact Or.inr (Or.inl rfl) | exact Or.inr (Or.inr rfl))(hd:(x == ("__debug__" : Str))=false:=by decide)
  (hcd:(x == ("__classdict__" : Str))=false:=by decide):PE X (.Name x pos) (tY i):=x9 hN hv hd hcd
end
theorem aH {A B:Prop}(h:B):if false=true then A else B:=by
 rw[if_neg Ao]
 exact h
theorem aR {A B:Prop}(h:A):if true=true then A else B:=by
 rw[if_pos rfl]
 exact h
theorem uu {c A B:Prop}[Decidable c](h1:c->A)(h2:¬ c->B):if c then A else B:=by
 by_cases h:c
 ·rw[if_pos h]
  exact h1 h
 ·rw[if_neg h]
  exact h2 h
theorem xJ {c A B:Prop}[Decidable c](hc:c)(h:B):if (!decide c)=true then A else B:=by
 rw[decide_eq_true hc]
 exact aH h
def ay (H H':Hp):Prop:=∀b o,H b=some o->H' b=some o
theorem ay.refl (H:Hp):ay H H:=λ_ _ h=>h
theorem ay.trans {H H1 H2:Hp}(a:ay H H1)(b:ay H1 H2):ay H H2:=λc o h=>b c o (a c o h)
theorem ay.seq {K:Ab}{H H':Hp}{a:Addr}{xs:List V}(e:ay H H')(h:SqL K H a xs):SqL K H' a xs:=by
 rcases h with (h | ⟨o,h⟩) | h
 ·exact .inl (.inl (e _ _ h))
 ·exact .inl (.inr ⟨o,e _ _ h⟩)
 ·exact .inr h
end L2
set_option maxHeartbeats 4000000
namespace L2
open PySem PySem.Spec PyProof.Rows
def nG (on:List (Str×NameKind))(N:List Str)(sc:Scope)(N':List Str)(ix:List (Option Nat)):Bool :=
 decide (sc.kind = .function) &&
 sc.names.all (λy=>match y.2 with
  | .local=>decide (sc.names.lookup y.1=some .local)
  | .cell=>false
  | .free=>decide (on.lookup y.1=some .cell) || decide (on.lookup y.1=some .free)
  | _=>true) &&
 decide (ix.length=N'.length) &&
 (ix.zip N').all (λp=>match p.1 with
  | none=>true
  | some j=>decide (N[j]? = some p.2) && decide (sc.names.lookup p.2=some .free))
theorem i4 {ns:List (Str×NameKind)}{y:Str}{k:NameKind}(h:ns.lookup y=some k):(y,k)∈ns:=Cz h
structure jG (on:List (Str×NameKind))(N:List Str)(sc:Scope)(N':List Str)(ix:List (Option Nat)):Prop where
 kind:sc.kind = .function
 locs:∀y∈sc.names,y.2 = .local->sc.names.lookup y.1=some .local
 nocell:∀y∈sc.names,y.2 ≠ .cell
 frees:∀y∈sc.names,y.2 = .free->on.lookup y.1=some .cell\/on.lookup y.1=some .free
 len:ix.length=N'.length
 slot:∀(i j:Nat) (y:Str),ix[i]? = some (some j)->N'[i]? = some y->N[j]? = some y/\sc.names.lookup y=some .free
theorem jG.of {on:List (Str×NameKind)}{N:List Str}{sc:Scope}{N':List Str}{ix:List (Option Nat)}(h:nG on N sc N' ix=true):jG on N sc N' ix:=by
 unfold nG at h
 rw[Bh,Bh,Bh] at h
 obtain ⟨⟨⟨h1,h2⟩,h3⟩,h4⟩:=h
 rw[Cn] at h2 h4
 refine ⟨of_decide_eq_true h1,λy hy e =>?_,λy hy e =>?_,λy hy e =>?_,of_decide_eq_true h3,λi j y e1 e2 =>?_⟩
 ·have q:=h2 y hy
  rw[e] at q
  exact of_decide_eq_true q
 ·have q:=h2 y hy
  rw[e] at q
  cases q
 ·have q:=h2 y hy
  rw[e] at q
  exact ((Bool.or_eq_true _ _).mp q).imp of_decide_eq_true of_decide_eq_true
 ·have q:=h4 (some j,y) (AJ (i:=i) (by rw[EF];exact ⟨e1,e2⟩))
  dsimp only at q
  rw[Bh] at q
  exact ⟨of_decide_eq_true q.1,of_decide_eq_true q.2⟩
theorem i5 {α β:Type}(f:α -> β -> β)(b:α -> β -> Sem (ForInStep β)):∀(l:List α) (c:β),(∀x∈l,∀d,b x d=pure (.yield (f x d)))->forIn l c b=pure (l.foldl (λd x=>f x d) c)
 | [],c,_=>rfl
 | x :: l,c,h=>by
  rw[List.forIn_cons,h x AU,pure_bind]
  exact i5 f b l (f x c) λy hy=>h y (AM _ hy)
def aZ (env:Env)(l:List (Str×NameKind))(c:List (Str×Addr)):List (Str×Addr) :=
 l.foldl (λd y=>if y.2 = .free then (y.1,(env.cells.lookup y.1).getD 0) :: d else d) c
theorem pH {sc:Scope}{env:Env}(h:∀y∈sc.names,y.2 = .free->∃c,env.cells.lookup y.1=some c):closureFor sc env=pure (aZ env sc.names []):=by
 simp only[closureFor]
 unfold aZ
 rw[i5 (λy d=>if y.2 = .free then (y.1,(env.cells.lookup y.1).getD 0) :: d else d)]
 ·rfl
 ·rintro ⟨n,k⟩ hy d
  by_cases hk:k = .free
  ·subst hk
   obtain ⟨c,e⟩:=h _ hy rfl
   have e':env.cells.lookup n=some c:=e
   simp only[beq_self_eq_true,if_true,cellOf,e',Option.getD_some]
   rfl
  ·have hb:(k == NameKind.free)=false:=by simpa using hk
   simp only[hb,AE,if_false,hk]
theorem cZ {env:Env}{y:Str}{c:Addr}:∀(l:List (Str×NameKind)) (d:List (Str×Addr)),(∀z∈l,z.2 = .free->∃c,env.cells.lookup z.1=some c)->(aZ env l d).lookup y=some c →
  d.lookup y=some c\/env.cells.lookup y=some c
 | [],d,_,h =>.inl h
 | (n,k) :: l,d,hf,h=>by
  have h':(aZ env l (if k = .free then (n,(env.cells.lookup n).getD 0) :: d else d)).lookup y=some c:=h
  have ih:=cZ l _ (λz hz=>hf z (AM _ hz)) h'
  by_cases hk:k = .free
  ·subst hk
   rw[if_pos rfl] at ih
   rcases ih with q | q
   ·rw[Dx] at q
    cases hx:(y == n) with
    | true =>
     rw[hx] at q
     obtain ⟨c',e⟩:=hf (n,.free) AU rfl
     have e':env.cells.lookup n=some c':=e
     have q':some ((env.cells.lookup n).getD 0)=some c:=q
     rw[e'] at q'
     have en:y=n:=eq_of_beq hx
     rw[en,e']
     exact .inr q'
    | false =>
     rw[hx] at q
     exact .inl q
   ·exact .inr q
  ·rw[if_neg hk] at ih
   exact ih
theorem eO {env:Env}{y:Str}:∀(l:List (Str×NameKind)) (d:List (Str×Addr)),((y,NameKind.free)∈l\/∃c,d.lookup y=some c)->∃c,(aZ env l d).lookup y=some c
 | [],d,h=>by
  rcases h with h | h
  ·cases h
  ·exact h
 | (n,k) :: l,d,h=>by
  show ∃c,(aZ env l (if k = .free then (n,(env.cells.lookup n).getD 0) :: d else d)).lookup y=some c
  refine eO l _ ?_
  have old:(∃c,d.lookup y=some c)->∃c,(if k = .free then (n,(env.cells.lookup n).getD 0) :: d else d).lookup y=some c:=λ⟨c,e⟩=>by
   by_cases hk:k = .free
   ·rw[if_pos hk,Dx]
    cases hx:(y == n) with
    | true=>exact ⟨_,rfl⟩
    | false=>exact ⟨c,e⟩
   ·rw[if_neg hk];exact ⟨c,e⟩
  rcases h with h | h
  ·rcases AH.mp h with q | q
   ·cases q
    rw[if_pos rfl,Dx,beq_self_eq_true]
    exact .inr ⟨_,rfl⟩
   ·exact .inl q
  ·exact .inr (old h)
theorem jH {c:Str->NameKind->Bool}{y:Str}:∀l:List (Str×NameKind),(l.map λz=>if c z.1 z.2=true then (z.1,NameKind.cell) else (z.1,z.2)).lookup y=(l.lookup y).map λk=>if c y k=true then NameKind.cell else k
 | []=>rfl
 | (n,k) :: l=>by
  have ih:=jH (c:=c) (y:=y) l
  rw[AV]
  have e:(if c n k=true then (n,NameKind.cell) else (n,k))=(n,if c n k=true then NameKind.cell else k):=by split <;> rfl
  show List.lookup y ((if c n k=true then (n,NameKind.cell) else (n,k)) :: _)=_
  rw[e,Dx,Dx]
  cases hx:(y == n) with
  | true =>
   have en:y=n:=eq_of_beq hx
   subst en
   rfl
  | false=>exact ih
def blk (X:Cx)(sc:Scope)(cl:List (Str×Addr))(C:Addr)(N':List Str)(s:Ag)(H:Hp)(fp:List Addr):Cx :=
 { X with N:=N',s₀:=s,H₀:=H,env:=compEnvC sc cl C X.env,outer:=X.stack,ex:=fp,fn:=λ_=>false,pn:=[],xe:=λ_ _=>False }
def PF (X:Cx)(ifs:List Expr)(t:TT):Prop :=
  ∀(pins:List (Addr×Obj)) (s:Ag) (σ:St) (H:Hp) (Q:Bool->Hp->Prop),Inv X pins σ H s->t σ H Q →
    AL (AQ X.prog X.w) X.A (forIn ifs true λc r=>if r=true then do let ok ← isTrue c X.env (eval c X.env);pure (ForInStep.yield ok) else pure (ForInStep.yield r)) (TP X pins σ Q) X.xe s
theorem dN {X:Cx}:PF X [] (λ_ H Q=>Q true H):=λ_ _ _ H _ I h=>wpAny_tests_nil ⟨H,I,h⟩
theorem eQ {X:Cx}{c:Expr}{t:TT}(h:PT X c t):PF X [c] t:=λpins s σ H Q I q=>wpAny_tests_one (h pins s σ H Q I q)
def inner (ix:List (Option Nat))(σ:St):St:=ix.map λo=>match o with | none=>none | some j=>(σ[j]?).join
def jI (J:It)(g:TG)(tc:TT)(te:TE)(τ:St)(Q:VK)(H1:Hp):Prop:=∃W:Nat->Nat->St->List V->Hp->Prop,(∃m,W 0 m τ [] H1)/\∀i m τ ys H,W i m τ ys H →
 (J.stop i H/\ys.length<=Ai/\∀l,H l=none->Q (.ref l) (upd H l (.lst ys))) ∨
 (J.go i H/\∀x H',J.yld i H x H'->g x τ H' λτ2 H2=>tc τ2 H2 λb H3=>if b=true then te τ2 H3 λy H4=>ys.length<Ai/\∃m',m'<m/\W (i+1) m' τ2 (ys++[y]) H4 else ∃m',m'<m/\W (i+1) m' τ2 ys H3)
def uv (ix:List (Option Nat))(wi:TI)(g:TG)(tc:TT)(te:TE):TE:=λσ H Q=>wi σ H λJ H1=>jI J g tc te (inner ix σ) Q H1
section
variable  {X:Cx}{sc:Scope}{N':List Str}{ix:List (Option Nat)}{pins:List (Addr×Obj)}{σ:St}{H:Hp}{s:Ag}
theorem yu (I:Inv X pins σ H s)(K:jG X.env.scope.names X.N sc N' ix){C:Addr}{fp:List Addr}(hC:s.heap.objs.size<=C)(f:∀b∈fp,jg X pins H b)(fl:∀b∈fp,b<s.heap.objs.size) :
  (blk X sc (aZ X.env sc.names []) C N' s H fp).Ok:=by
 have hcl:∀y∈sc.names,y.2 = .free->∃c,X.env.cells.lookup y.1=some c:=λy hy e=>I.ok.has y.1 (K.frees y hy e)
 have up:∀y c,(aZ X.env sc.names []).lookup y=some c->X.env.cells.lookup y=some c:=λy c e=>by
  rcases cZ sc.names [] hcl e with q | q
  ·cases q
  ·exact q
 have nfs:∀b∈fp,b∉frs X.stack:=λb hb z=>by
  rcases AH.mp (I.mf b z) with q | q
  ·exact (f b hb).2.1 q
  ·exact (f b hb).2.2.1 q
 refine ⟨I.ok.mod,K.kind,I.ok.glob,I.ok.blt,hC,λy z c h1 h2=>I.ok.inj y z c (up _ _ h1) (up _ _ h2),λy hy =>?_,(λy c h=>nomatch h),I.ok.hd,I.ok.frames,.inl rfl,λb hb =>?_,λb o e=>I.bs b o e,A8 I.ok.bsz I.sz,λb o e hb =>?_,nfs,I.stack,I.jq⟩
 ·have hy':(relabel sc X.env).names.lookup y=some .cell\/(relabel sc X.env).names.lookup y=some .free:=hy
  have em:=jH (c:=λn k=>k == .free && X.env.scope.kind == .function && X.env.kindOf n == some .cell) (y:=y) sc.names
  have em':(relabel sc X.env).names.lookup y=_:=em
  rw[em'] at hy'
  cases hq:sc.names.lookup y with
  | none=>rw[hq] at hy';rcases hy' with q | q <;> cases q
  | some k =>
   have km:=i4 hq
   have hk:k = .free:=by
    rw[hq] at hy'
    simp only[FC,Option.some.injEq] at hy'
    by_cases hc:(k == .free && X.env.scope.kind == .function && X.env.kindOf y == some .cell)=true
    ·rw[Bh,Bh] at hc
     exact by simpa using hc.1.1
    ·rw[if_neg hc] at hy'
     rcases hy' with q | q
     ·exact absurd q (K.nocell _ km)
     ·exact q
   subst hk
   exact eO sc.names [] (.inl km)
 ·exact ⟨AI (Ay (fl b hb) hC),λy c e=>(f b hb).2.2.2.2.1 y c (up y c e)⟩
 ·rcases (f b hb).2.2.2.1 with q | q
  ·exact I.ok.noex b o e q
  ·exact absurd (Ay (Ar e) (A8 I.ok.bsz q)) (Bn _)
theorem v9 (I:Inv X pins σ H s)(K:jG X.env.scope.names X.N sc N' ix){C:Addr}{fp:List Addr}(hC:s.heap.objs.size<=C)(f:∀b∈fp,jg X pins H b)(fl:∀b∈fp,b<s.heap.objs.size)
  {h1:Heap} {t:Nat} {m:Str->Option Ae} (k:∀b o,s.heap.get? b=some o->h1.get? b=some o) (ns:h1.Ns C m) :
  Inv (blk X sc (aZ X.env sc.names []) C N' s H fp) [] (inner ix σ) H { s with heap:=h1,toks:=t }:=by
 have hcl:∀y∈sc.names,y.2 = .free->∃c,X.env.cells.lookup y.1=some c:=λy hy e=>I.ok.has y.1 (K.frees y hy e)
 have up:∀y c,(aZ X.env sc.names []).lookup y=some c->X.env.cells.lookup y=some c:=λy c e=>by
  rcases cZ sc.names [] hcl e with q | q
  ·cases q
  ·exact q
 refine ⟨yu I K hC f fl,rfl,I.bare,Un.kept k,⟨m,ns,λi y v e1 e2 e3 =>?_⟩,λy c e =>?_,I.hok.fresh hC,λy c e=>I.freeC y c (up y c e),(λp hp=>nomatch hp),I.hok.kept k,?_⟩
 ·have e2':(ix.map λo=>match o with | none=>none | some j=>(σ[j]?).join)[i]? = some (some v):=e2
  rw[AO] at e2'
  cases hi:ix[i]? with
  | none=>rw[hi] at e2';cases e2'
  | some o =>
   cases o with
   | none=>rw[hi] at e2';cases e2'
   | some j =>
    rw[hi] at e2'
    have e4:(σ[j]?).join=some v:=A1 e2'
    have e5:σ[j]? = some (some v):=by
     cases hj:σ[j]? with
     | none=>rw[hj] at e4;cases e4
     | some z=>rw[hj] at e4;rw[show z=some v from e4]
    obtain ⟨n1,n2⟩:=K.slot i j y hi e1
    have mem:=i4 n2
    have kc:X.env.kindOf y=some .cell\/X.env.kindOf y=some .free:=K.frees _ mem rfl
    obtain ⟨m',_,hl⟩:=I.loc
    obtain ⟨u,r,l⟩:=hl j y v n1 e5 (.inr kc)
    refine ⟨u,r,?_⟩
    rcases l with ⟨q,_⟩ | ⟨_,c,q,z⟩
    ·rcases kc with kc | kc <;> (rw[kc] at q;cases q)
    ·obtain ⟨c',hc'⟩:=eO (env:=X.env) (y:=y) sc.names [] (.inl mem)
     have:=up y c' hc'
     rw[q] at this
     cases this
     refine .inr ⟨?_,c,hc',z.keeps k⟩
     have em:=jH (c:=λn k=>k == .free && X.env.scope.kind == .function && X.env.kindOf n == some .cell) (y:=y) sc.names
     have em':(relabel sc X.env).names.lookup y=_:=em
     rcases kc with kc | kc
     ·left
      show (relabel sc X.env).names.lookup y=some .cell
      rw[em',n2]
      simp only[FC,kc,I.ok.kind]
      rfl
     ·right
      show (relabel sc X.env).names.lookup y=some .free
      rw[em',n2]
      simp only[FC,kc,I.ok.kind]
      rfl
 ·obtain ⟨v,z⟩:=I.cell y c (up y c e)
  exact ⟨v,z.keeps k⟩
 ·show (ix.map _).length=N'.length
  rw[Ac]
  exact K.len
end
open PySem PySem.Spec PyProof.Rows
theorem pI {prog:Au}{w:AX}{A:A7}{R:Result->Ag->Prop}{s:Ag}{elt target iter:Expr}{ifs:List Expr}{sc:Scope}{pos:Pos}{it acc:Ae}{env:Env}(J:Nat->Ag->Prop)
    (turn:∀n s,J n s->AL (AQ prog w) A (pyNext it) (λr s1=>match r with
      | none=>R (.ok .next) s1
      | some v=>AL (AQ prog w) A (letOwnedTupleGo target it v) (λ_ s2=>AL (AQ prog w) A (assign target env v) (λ_ s3 =>
          AL (AQ prog w) A (forIn ifs true λc r=>if r=true then do let ok ← isTrue c env (eval c env);pure (ForInStep.yield ok) else pure (ForInStep.yield r)) (λok s4 =>
            if ok=true then AL (AQ prog w) A (eval elt env) (λx s5=>AL (AQ prog w) A (call (.builtin "list.append") [acc,x]) (λ_ s6=>∃m,m<n/\J m s6) (λ_ _=>False) s5) (λ_ _=>False) s4
            else ∃m,m<n/\J m s4) (λ_ _=>False) s3) (λ_ _=>False) s2) (λ_ _=>False) s1) (λ_ _=>False) s)
    (n:Nat) (h:J n s):EN (AQ prog w) A (.compLoop (.ListComp elt [⟨target,iter,ifs,0⟩] sc pos) 0 it acc env) R s:=by
  refine codeAny_loop rfl J (λk t q =>?_) n h
  show AL _ A (Sem.onRaise (compTurn (.ListComp elt [⟨target,iter,ifs,0⟩] sc pos) 0 it acc env) (λx=>do noteFrame x env;theTreesLotGoes x)) _ _ t
  refine wpAny_noted ?_
  rw[compTurn_list]
  have no:∀{E:Ae->Ag->Prop} (x:Ae) (t:Ag),False->E x t:=λ_ _ z=>z.elim
  refine Af (Eg (Af (Bt (turn k t q) (λr s1 h1 =>?_) no)))
  cases r with
  | none=>exact An h1
  | some v =>
    refine Af (Bt h1 (λ_ s2 h2=>Af (Bt h2 (λ_ s3 h3=>Af (Bt h3 (λok s4 h4 =>?_) no)) no)) no)
    cases ok with
    | false=>exact An ⟨rfl,h4⟩
    | true=>exact Af (Af (Bt h4 (λx s5 h5=>Af (Bt h5 (λ_ s6 h6=>An (An ⟨rfl,h6⟩)) no)) no))
section
variable  {X:Cx}
def wa (X:Cx)(pins:List (Addr×Obj))(σ:St)(Q:VK)(use:Option (Ae->Sem Unit))(Q2:Ae->Ag->Prop):Prop :=
 ∀(s4:Ag) (H3:Hp) (acc C:Addr) (ys:List V) (oC:Obj),Inv X (pins++[(C,oC)]) σ (upd H3 acc (.lst ys)) s4->(∃m,s4.heap.Ns C m)->X.s₀.heap.objs.size<=C->(∀x c,X.env.cells.lookup x=some c->c≠C)->(∀p∈X.pn++pins,p.1≠C)->Q (.ref acc) (upd H3 acc (.lst ys)) →
  compPost (AQ X.prog X.w) X.A X.xe use Q2 (.ref acc) C (.ok .next) s4
theorem k9 {elt target iter:Expr}{ifs:List Expr}{sc:Scope}{pos ps:Pos}{wi:TI}{g:TG}{tc:TT}{te:TE}{N':List Str}{ix:List (Option Nat)}{use:Option (Ae->Sem Unit)}{Q2:Ae->Ag->Prop}
  {pins:List (Addr×Obj)} {s:Ag} {σ:St} {H:Hp} {Q:VK}
  (hcalm:X.calm=true) (hi:PI X target iter wi) (hk:nG X.env.scope.names X.N sc N' ix=true)
  (hg:∀cl C s H fp,PG (blk X sc cl C N' s H fp) target g) (hc:∀cl C s H fp,PF (blk X sc cl C N' s H fp) ifs tc) (he:∀cl C s H fp,PE (blk X sc cl C N' s H fp) elt te)
  (hs:∀x,foldedSetIterable iter X.env x=pure x) (fin:wa X pins σ Q use Q2) (I:Inv X pins σ H s) (h:uv ix wi g tc te σ H Q) :
  AL (AQ X.prog X.w) X.A (comprehension (.ListComp elt [⟨target,iter,ifs,0⟩] sc pos) sc X.env ps (newList []) false (eval iter X.env) use) Q2 X.xe s:=by
 have K:=jG.of hk
 have hcl:∀y∈sc.names,y.2 = .free->∃c,X.env.cells.lookup y.1=some c:=λy hy e=>I.ok.has y.1 (K.frees y hy e)
 refine wpAny_comprehension_free rfl hs (pH hcl) K.kind K.locs (thn (hi pins s σ H _ I h) λv s1 h1=>thn h1 λitv s2 h2 =>?_)
 obtain ⟨it,fp,tn,J,H2,e,I2,T,st2,f2,W,⟨m0,w0⟩,turn⟩:=h2
 subst e
 refine Cv (wpAny_newFunctionEnv K.nocell (by intro y hy;simp at hy) (λh1 ns1 sb1 =>?_) K.kind)
 dsimp only at ns1 sb1 ⊢
 generalize hP:s2.heap.push { cls :=.type "list",dict:=none,data :=.seq ([]:List Ae).toArray }=G at ns1 sb1 ⊢
 have sG:G.objs.size=s2.heap.objs.size+1:=by rw[<- hP,CP]
 have fl:∀b∈fp,b<s2.heap.objs.size:=λb hb=>by
  obtain ⟨o,e,_⟩:=T.obj _ _ st2 b hb
  exact Ar e
 have hC:s2.heap.objs.size<=G.objs.size:=by rw[sG];exact Ej _
 have aC:s2.heap.objs.size≠G.objs.size:=by rw[sG];exact AI (CI _)
 have old:∀b o,s2.heap.get? b=some o->h1.get? b=some o:=λb o e=>by
  have lt:=Ar e
  have ne:b≠G.objs.size:=AI (Ay lt hC)
  rw[sb1.2 b ne]
  exact Ad _ (hP ▸ Ad _ e)
 have accO:h1.PlainList s2.heap.objs.size #[]:=⟨_,by
  rw[sb1.2 _ aC]
  exact Ad _ (hP ▸ Av _ rfl)⟩
 have IB:=v9 (t:=s2.toks+([]:List (Str×Ae)).length) I2 K hC f2 fl old ns1
 have up:∀y c,(aZ X.env sc.names []).lookup y=some c->X.env.cells.lookup y=some c:=λy c e=>by
  rcases cZ sc.names [] hcl e with q | q
  ·cases q
  ·exact q
 have accNotCell:∀y c,(aZ X.env sc.names []).lookup y=some c->c≠s2.heap.objs.size:=λy c e z=>by
  obtain ⟨v,q⟩:=I2.cell y c (up y c e)
  exact absurd q.lt (by rw[z];exact Bn _)
 have accFs:s2.heap.objs.size∉frs X.stack:=λz=>by
  rcases AH.mp (I2.mf _ z) with q | q
  ·exact absurd I2.lt (by rw[<- q];exact Bn _)
  ·exact I2.x8 (Ah _) q
 have accFp:s2.heap.objs.size∉fp:=λz=>absurd (fl _ z) (Bn _)
 have stat:∀{H':Hp} {ob:Obj},(∀b∈fp,H' b=none)->∀b∈fp,jg (blk X sc (aZ X.env sc.names []) G.objs.size N' s2 H2 fp) [(s2.heap.objs.size,ob)] H' b:=λ{H' ob} hn b hb=>by
  refine ⟨hn b hb,AI (Ay (fl b hb) hC),IB.ok.exfs b hb,.inl hb,λy c e=>(f2 b hb).2.2.2.2.1 y c (up y c e),λp hp z =>?_⟩
  have ep:p=(s2.heap.objs.size,ob):=by simpa [blk] using hp
  subst ep
  exact accFp (by rw[show s2.heap.objs.size=b from z];exact hb)
 have accPin:∀{pl:List (Addr×Obj)} {σ':St} {H':Hp} {s':Ag} {its:Array Ae} {n:Nat},Inv (blk X sc (aZ X.env sc.names []) G.objs.size N' s2 H2 fp) pl σ' H' s'->s'.heap.get? s2.heap.objs.size=some { cls :=.type "list",data :=.seq its n } →
   H' s2.heap.objs.size=none->Inv (blk X sc (aZ X.env sc.names []) G.objs.size N' s2 H2 fp) [(s2.heap.objs.size,{ cls :=.type "list",data :=.seq its n })] σ' H' s':=λ{pl σ' H' s' its n} J' e nn=>J'.hU λp hp=>by
  have ep:p=(s2.heap.objs.size,({ cls :=.type "list",data :=.seq its n }:Obj)):=by simpa [blk] using hp
  subst ep
  exact ⟨e,nn,aC,accFs,λv z=>nomatch z⟩
 have loop:EN (AQ X.prog X.w) X.A (.compLoop (.ListComp elt [⟨target,iter,ifs,0⟩] sc pos) 0 (.ref it) (.ref s2.heap.objs.size) (compEnvC sc (aZ X.env sc.names []) G.objs.size X.env))
   (compPost (AQ X.prog X.w) X.A X.xe use Q2 (.ref s2.heap.objs.size) G.objs.size) { s2 with heap:=h1,toks:=s2.toks+([]:List (Str×Ae)).length }:=by
  refine pI (λn s'=>∃i ys its nn σ' H',Inv (blk X sc (aZ X.env sc.names []) G.objs.size N' s2 H2 fp) [(s2.heap.objs.size,{ cls :=.type "list",data :=.seq its nn })] σ' H' s'/\Vals ys its.toList/\tn i s'.heap/\(∀b∈fp,H' b=none)/\W i n σ' ys H')
   (λn s3 h3 =>?_) m0 ?_
  ·obtain ⟨i,ys,its,nn,σ3,H3,I3,r3,st3,fr3,w3⟩:=h3
   obtain ⟨e3,a3,_,_,_⟩:=I3.pin (s2.heap.objs.size,{ cls :=.type "list",data :=.seq its nn }) (by simp[blk])
   rcases turn i n σ3 ys H3 w3 with ⟨stop,zl,q3⟩ | ⟨go,step⟩
   ·refine thn (T.done (blk X sc (aZ X.env sc.names []) G.objs.size N' s2 H2 fp) rfl rfl rfl hcalm i _ s3 σ3 H3 _ I3 (stat fr3) st3 stop) λr s4 ⟨hr,I4⟩ =>?_
    subst hr
    obtain ⟨e4,a4,_,_,_⟩:=I4.pin (s2.heap.objs.size,{ cls :=.type "list",data :=.seq its nn }) (by simp[blk])
    obtain ⟨m4,n4,_⟩:=I4.loc
    obtain ⟨oC,es4,ep4,c4,d4,r4⟩:=id n4
    have ltA:∀b o,s2.heap.get? b=some o->b≠s2.heap.objs.size:=λb o e=>AI (Ar e)
    have B:=I4.base
    have hok:HOk X.prog X.w (upd H3 s2.heap.objs.size (.lst ys)) s4.heap:=λb o e=>by
     by_cases hb:b=s2.heap.objs.size
     ·subst hb
      rw[ae] at e
      cases e
      exact ⟨zl,its.toList,nn,r3,e4⟩
     ·rw[au hb] at e
      refine (I4.hok b o e).cx (λc u hc q=>q) (λc q =>?_) (λc xs q =>?_)
      ·rw[au (aA q a4)];exact q
      ·rw[au (aA q a4)];exact q
    have I5:Inv X pins σ (upd H3 s2.heap.objs.size (.lst ys)) s4:=by
     refine I2.xG (ch:=fp) I4.os ⟨λb o e n hb hx=>B.keep b o e n hb hx,λb o e n hb hx=>B.slot b o e n hb hx,λb o e n hx =>?_,λb o e hx=>B.there b o e hx,λb xs e =>?_,λb o u e =>?_,λb ps e =>?_⟩ hok I4.bare (λb hb =>?_)
     ·rw[au (ltA b o e)];exact B.free b o e n hx
     ·have q:=B.tups b xs e
      rw[au (aA q a4)];exact q
     ·have q:=B.frzs b o u e
      rw[au (aA q a4)];exact q
     ·obtain ⟨more,q⟩:=B.tbls b ps e
      exact ⟨more,by rw[au (aA q a4)];exact q⟩
     ·obtain ⟨g0,g1,g2,g3,g4,g5⟩:=f2 b hb
      exact ⟨g3,g1,g4,g5⟩
    have cL:G.objs.size≠X.env.locals:=CZ (Ay I2.lt hC)
    have I6:Inv X (pins++[(G.objs.size,oC)]) σ (upd H3 s2.heap.objs.size (.lst ys)) s4:=I5.hU λp hp=>by
     rcases Ax.mp hp with q | q
     ·exact I5.pin p (AY _ q)
     ·have ep:p=(G.objs.size,oC):=by simpa using q
      subst ep
      exact ⟨c4,by rw[au (Ca aC)];exact I4.free,cL,I2.x8 hC,λv z=>by rw[d4] at z;cases z⟩
    refine fin s4 H3 s2.heap.objs.size G.objs.size ys oC I6 ⟨m4,n4⟩ (A8 I2.sz hC) (λy c e z =>?_) (λp hp z =>?_) (q3 _ a4)
    ·obtain ⟨v,q⟩:=I2.cell y c e
     exact absurd (Ay q.lt hC) (by rw[z];exact Bn _)
    ·exact absurd (Ay (Ar (I2.pin p hp).1) hC) (by rw[z];exact Bn _)
   ·refine thn (T.item (blk X sc (aZ X.env sc.names []) G.objs.size N' s2 H2 fp) rfl rfl rfl hcalm i _ s3 σ3 H3 _ I3 (stat fr3) st3 go) λr s4 ⟨u,hr,h4⟩ =>?_
    subst hr
    refine thn h4 λ_ s5 ⟨x,H5,I5,r5,y5,st5,fr5⟩ =>?_
    have I5':=I5.pinned (stat fr5) (T.obj _ _ st5)
    refine thn (hg _ _ _ _ _ _ s5 σ3 H5 x u _ I5' r5 (step x H5 y5)) λ_ s6 ⟨σ6,H6,I6,q6⟩ =>?_
    refine thn (hc _ _ _ _ _ _ s6 σ6 H6 _ I6 q6) λok s7 ⟨H7,I7,q7⟩ =>?_
    have back:∀{σ7:St} {H7:Hp} {s7:Ag},Inv (blk X sc (aZ X.env sc.names []) G.objs.size N' s2 H2 fp) ([(s2.heap.objs.size,{ cls :=.type "list",data :=.seq its nn })]++gH fp s5.heap) σ7 H7 s7->tn (i+1) s7.heap/\∀b∈fp,H7 b=none:=λJ7 =>
     ⟨T.keep _ _ _ st5 λb hb o e=>(J7.pin (b,o) (AY _ (AY _ (dj hb e)))).1,λb hb=>by
      obtain ⟨o,e,d⟩:=T.obj _ _ st5 b hb
      exact (J7.pin (b,o) (AY _ (AY _ (dj hb e)))).2.1⟩
    cases ok with
    | false =>
     rw[if_neg (by decide)] at q7
     obtain ⟨m',lm,w7⟩:=q7
     show ∃m,m<n/\_
     exact ⟨m',lm,i+1,ys,its,nn,σ6,H7,I7.dZ,r3,(back I7).1,(back I7).2,w7⟩
    | true =>
     rw[if_pos rfl] at q7
     refine thn (he _ _ _ _ _ _ s7 σ6 H7 _ I7 q7) λz s8 ⟨y,H8,I8,r8,lz,m',lm,w8⟩ =>?_
     obtain ⟨e8,a8,_,_,_⟩:=I8.pin (s2.heap.objs.size,{ cls :=.type "list",data :=.seq its nn }) (by simp[blk])
     have sz:its.size<=Ai:=by
      have l:ys.length=its.size:=r3.length.trans Ak
      rw[<- l]
      exact D1 lz
     refine wpAny_list_append_plain ⟨nn,e8⟩ (λh' pl' sb' =>?_) sz
     obtain ⟨n9,e9⟩:=pl'
     have I8p:Inv (blk X sc (aZ X.env sc.names []) G.objs.size N' s2 H2 fp) (gH fp s5.heap) σ6 H8 s8:=I8.hU λp hp=>I8.pin p (AY _ (AY _ hp))
     have I9:=I8p.turned (it:=s2.heap.objs.size) (h':=h') (t':=s8.toks) (λb o ne e=>by rw[sb'.2 b ne];exact e) a8 aC (.inr (Ah _)) (λy c e=>accNotCell y c e) (λp hp z=>by
      have hp':p∈gH fp s5.heap:=by simpa [blk] using hp
      exact accFp (by rw[<- z];exact (kP hp').1))
     have b9:tn (i+1) h'/\∀b∈fp,H8 b=none :=
      ⟨T.keep _ _ _ st5 λb hb o e=>(I9.pin (b,o) (AY _ (dj hb e))).1,(back I8).2⟩
     exact ⟨m',lm,i+1,ys++[y],its.push z,n9,σ6,H8,accPin I9 e9 a8,by rw[BX];exact r3.append (.cons r8 .nil),b9.1,b9.2,w8⟩
  ·obtain ⟨n0,e0⟩:=accO
   exact ⟨0,[], #[],n0,_,H2,accPin IB e0 (I2.hok.fresh (Ah _)),.nil,T.keep _ _ _ st2 λb hb o e=>old b o e,λb hb=>(f2 b hb).1,w0⟩
 exact codeAny_compStart_list loop (T.self _ 0 _ _ _ (T.keep _ _ _ st2 λb hb o e=>old b o e) loop)
theorem bO {elt target iter:Expr}{ifs:List Expr}{sc:Scope}{pos:Pos}{wi:TI}{g:TG}{tc:TT}{te:TE}(N':List Str)(ix:List (Option Nat))
  (hcalm:X.calm=true) (hi:PI X target iter wi) (hk:nG X.env.scope.names X.N sc N' ix=true)
  (hg:∀cl C s H fp,PG (blk X sc cl C N' s H fp) target g) (hc:∀cl C s H fp,PF (blk X sc cl C N' s H fp) ifs tc) (he:∀cl C s H fp,PE (blk X sc cl C N' s H fp) elt te)
  (hs:∀x,foldedSetIterable iter X.env x=pure x:=by intro _;rfl):PE X (.ListComp elt [⟨target,iter,ifs,0⟩] sc pos) (uv ix wi g tc te):=by
 intro pins s σ H Q I h
 rw[eval_ListComp]
 refine k9 hcalm hi hk hg hc he hs (λs4 H3 acc C ys oC I4 ns hC hc hp q =>?_) I h
 obtain ⟨m,ns⟩:=ns
 refine ⟨m,ns,λh' sb=>⟨.ref acc,_,?_,rfl,q⟩⟩
 obtain ⟨_,n0,n1,n2,_⟩:=I4.pin (C,oC) (by simp)
 exact (I4.dZ).turned (it:=C) (h':=h') (t':=s4.toks) (λb o ne e=>by rw[sb.2 b ne];exact e) n0 n1 (.inr hC) hc hp
theorem eS {elt target iter:Expr}{ifs:List Expr}{sc:Scope}{pos pos' spos:Pos}{wi:TI}{g:TG}{tc:TT}{te:TE}{i:Nat}{x:Str}(N':List Str)(ix:List (Option Nat))
    (hcalm:X.calm=true) (hN:X.N.Nodup) (hx:X.N[i]? = some x) (hl:X.env.scope.names.lookup x=some .local)
    (hi:PI X target iter wi) (hk:nG X.env.scope.names X.N sc N' ix=true)
    (hg:∀cl C s H fp,PG (blk X sc cl C N' s H fp) target g) (hc:∀cl C s H fp,PF (blk X sc cl C N' s H fp) ifs tc) (he:∀cl C s H fp,PE (blk X sc cl C N' s H fp) elt te)
    (hsw:swapsWith (.ListComp elt [⟨target,iter,ifs,0⟩] sc pos) (some (.Name x pos')) spos.line X.env=pure true:=by rfl)
    (hs:∀x,foldedSetIterable iter X.env x=pure x:=by intro _;rfl):PS X (.Assign [.Name x pos'] (.ListComp elt [⟨target,iter,ifs,0⟩] sc pos) spos) (yf (uv ix wi g tc te) (gu i)):=by
  intro pins s σ H D I h
  rw[exec_Assign_Name_used _ _ _ _ hsw]
  refine Af (Eg (Af ?_))
  show AL _ X.A (do let _ ← comprehension (.ListComp elt [⟨target,iter,ifs,0⟩] sc pos) sc X.env _ (newList []) false (eval iter X.env) (some (assign (.Name x pos') X.env))) _ _ s
  refine Af (Bt (k9 (Q:=λv H1=>D.nx (σ.set i (some v)) H1) (Q2:=λ_ s'=>SP X pins D .next s') hcalm hi hk hg hc he hs (λs4 H3 acc C ys oC I4 ns hC hc hp q =>?_) I h) (λ_ s' q=>An (An q)) λ_ _ e=>e)
  obtain ⟨m,ns⟩:=ns
  obtain ⟨e0,n0,n1,n2,_⟩:=I4.pin (C,oC) (by simp)
  show AL _ X.A (assign (.Name x pos') X.env (.ref acc)) _ _ s4
  refine thn ((aQ (i:=i) hN hx (.inl hl) (.inr hl)) (pins++[(C,oC)]) s4 σ _ (.ref acc) (.ref acc) _ I4 rfl q) λ_ s5 ⟨σ5,H5,I5,q5⟩ =>?_
  obtain ⟨e5,k0,k1,k2,_⟩:=I5.pin (C,oC) (by simp)
  obtain ⟨o',es',ep',c',r'⟩:=ns
  have e':=e0.symm.trans c'
  cases e'
  refine ⟨m,⟨_,es',ep',e5,r'⟩,λh' sb=>⟨σ5,H5,?_,q5⟩⟩
  exact (I5.dZ).turned (it:=C) (h':=h') (t':=s5.toks) (λb o ne e=>by rw[sb.2 b ne];exact e) k0 k1 (.inr hC) hc hp
end
open PySem PySem.Spec PyProof.Rows
section
variable  {X:Cx}
def zN (K:Ab):R2:=λx y H Q=>∃l b xs zs,x = .ref l/\y = .ref b/\SqL K H l xs/\SqL K H b zs/\xs.length+zs.length<=Ai/\∀p,H p=none->Q (.ref p) (upd H p (.lst (xs++zs)))
theorem mz:OpR X (binaryOp .Add) (zN X.K):=by
 intro pins s σ H x y v u Q I rx ry h
 obtain ⟨l,b,xs,zs,rfl,rfl,hH,hB,hz,q⟩:=h
 cases rx
 cases ry
 obtain ⟨its,r,e,z⟩:=I.list hH
 obtain ⟨its2,r2,e2,z2⟩:=I.list hB
 obtain ⟨⟨c1,d1,da1,sl1⟩,n,e,k1,k2,k3⟩:=e
 obtain ⟨⟨c2,d2,da2,sl2⟩,n2,e2,g1,g2,g3⟩:=e2
 simp only at k1 k3 g1 g3
 subst k1 k3 g1 g3
 have l1:=r.length
 have l2:=r2.length
 have ea:its.toArray++its2.toArray=(its++its2).toArray:=by simp
 refine FK ⟨_,e,rfl⟩ ⟨_,e2,rfl⟩ noFill_list_add seq_list_add PySem.F.slot_list_add PySem.F.entry_list_add
  (PySem.F.args_list_add_2 _ _) (list_addW l b its.toArray its2.toArray n n2 d1 d2 sl1 sl2 (by rw[Aj,Aj];omega)) ⟨e,e2,?_⟩
 rw[ea]
 exact ⟨.ref _,_,I.lnew (t':=s.toks) (r.append r2) (by rw[Am];omega),rfl,q _ I.fresh⟩
theorem bV:b8 X (.builtin "isinstance") (λxs H Q=>∃x T t b,xs=[x,.ty T]/\cw X.K H x t/\PySem.W.kitOne X.K t (.type T)=some b/\Q (.bl b) H):=by
 intro pins s σ H xs us Q I r h
 obtain ⟨x,T,t,b,rfl,ty,e,q⟩:=h
 obtain ⟨u,w',rfl,ru,rw'⟩:=vals2 r
 cases (show w'=B7 T from rw')
 exact rS I ru ty e λtk=>⟨.bl b,H,I.tok tk,rfl,q⟩
end
def qM (k:Nat)(tc:TT)(te:TE)(τ:St)(Pv:Nat->List V->Hp->Prop)(i:Nat)(x:V)(ys:List V)(H:Hp):Prop :=
 ∀(R1:V->Hp->Prop) (R0:Hp->Prop),(∀y H4,Pv (i+1) (ys++[y]) H4->R1 y H4)->(∀H3,Pv (i+1) ys H3->R0 H3)->tc (τ.set k (some x)) H λb H3=>if b=true then te (τ.set k (some x)) H3 R1 else R0 H3
theorem jJ {K:Ab}{a:Addr}{xs:List V}{k:Nat}{tc:TT}{te:TE}{τ:St}{H:Hp}{Q:VK}(Pv:Nat->List V->Hp->Prop)(h0:Pv 0 [] H)(hz:xs.length<=Ai)
  (hl:∀i ys H,i<=xs.length->Pv i ys H->SqL K H a xs) (hs:∀i x ys H,xs[i]? = some x->ys.length<=i->Pv i ys H->qM k tc te τ Pv i x ys H)
  (hd:∀ys H,ys.length<=xs.length->Pv xs.length ys H->∀l,H l=none->Q (.ref l) (upd H l (.lst ys))) :
  jI (Itl K a) (gu k) tc te τ Q H:=by
 refine ⟨λi m σ ys H=>m=xs.length-i/\i<=xs.length/\(∀x,σ.set k (some x)=τ.set k (some x))/\ys.length<=i/\Pv i ys H,⟨xs.length,by simp,A5 _,λ_=>rfl,Ah _,h0⟩,?_⟩
 rintro i m σ ys H ⟨rfl,hi,hτ,hy,p⟩
 have q:=hl i ys H hi p
 by_cases hlt:i<xs.length
 ·refine .inr ⟨⟨xs,xs[i],q,by simp[hlt]⟩,λx H' y =>?_⟩
  obtain ⟨e,y⟩:=y
  subst e
  show tc (σ.set k (some x)) _ _
  rw[hτ x]
  have hσ:∀z,(τ.set k (some x)).set k (some z)=τ.set k (some z):=λz=>by rw[Ey]
  refine hs i x ys _ (y xs q) hy p _ _ (λy4 H4 p4=>⟨by omega,xs.length-(i+1),by omega,rfl,hlt,hσ,by rw[Am,Bw];omega,p4⟩) λH3 p3=>⟨xs.length-(i+1),by omega,rfl,hlt,hσ,by omega,p3⟩
 ·have e:i=xs.length:=by omega
  subst e
  exact .inl ⟨⟨xs,q,Ah _⟩,by omega,hd ys H hy p⟩
theorem bS {K:Ab}{a:Addr}{xs:List V}{k:Nat}{tc:TT}{te:TE}{τ:St}{H:Hp}{Q:VK}(Pv:Nat->List V->Hp->Prop)(h0:Pv 0 [] H)(hz:xs.length<=Ai)
  (hl:∀i ys H,i<=xs.length->Pv i ys H->SqT K H a xs) (hs:∀i x ys H,xs[i]? = some x->ys.length<=i->Pv i ys H->qM k tc te τ Pv i x ys H)
  (hd:∀ys H,ys.length<=xs.length->Pv xs.length ys H->∀l,H l=none->Q (.ref l) (upd H l (.lst ys))) :
  jI (Itt K a) (gu k) tc te τ Q H:=by
 refine ⟨λi m σ ys H=>m=xs.length-i/\i<=xs.length/\(∀x,σ.set k (some x)=τ.set k (some x))/\ys.length<=i/\Pv i ys H,⟨xs.length,by simp,A5 _,λ_=>rfl,Ah _,h0⟩,?_⟩
 rintro i m σ ys H ⟨rfl,hi,hτ,hy,p⟩
 have q:=hl i ys H hi p
 by_cases hlt:i<xs.length
 ·refine .inr ⟨⟨xs,xs[i],q,by simp[hlt]⟩,λx H' y =>?_⟩
  obtain ⟨e,y⟩:=y
  subst e
  show tc (σ.set k (some x)) _ _
  rw[hτ x]
  have hσ:∀z,(τ.set k (some x)).set k (some z)=τ.set k (some z):=λz=>by rw[Ey]
  refine hs i x ys _ (y xs q) hy p _ _ (λy4 H4 p4=>⟨by omega,xs.length-(i+1),by omega,rfl,hlt,hσ,by rw[Am,Bw];omega,p4⟩) λH3 p3=>⟨xs.length-(i+1),by omega,rfl,hlt,hσ,by omega,p3⟩
 ·have e:i=xs.length:=by omega
  subst e
  exact .inl ⟨⟨xs,q,Ah _⟩,by omega,hd ys H hy p⟩
theorem cK {lo:Int}{n:Nat}{k:Nat}{tc:TT}{te:TE}{τ:St}{H:Hp}{Q:VK}(Pv:Nat->List V->Hp->Prop)(h0:Pv 0 [] H)(hz:n<=Ai)
  (hs:∀i ys H,i<n->ys.length<=i->Pv i ys H->qM k tc te τ Pv i (.int (lo+i)) ys H)
  (hd:∀ys H,ys.length<=n->Pv n ys H->∀l,H l=none->Q (.ref l) (upd H l (.lst ys))) :
  jI (Itr lo n) (gu k) tc te τ Q H:=by
 refine ⟨λi m σ ys H=>m=n-i/\i<=n/\(∀x,σ.set k (some x)=τ.set k (some x))/\ys.length<=i/\Pv i ys H,⟨n,by simp,A5 _,λ_=>rfl,Ah _,h0⟩,?_⟩
 rintro i m σ ys H ⟨rfl,hi,hτ,hy,p⟩
 by_cases hlt:i<n
 ·refine .inr ⟨hlt,λx H' y =>?_⟩
  obtain ⟨e,y⟩:=y
  subst e y
  show tc (σ.set k (some (.int (lo+i)))) _ _
  rw[hτ]
  have hσ:∀z,(τ.set k (some (.int (lo+i)))).set k (some z)=τ.set k (some z):=λz=>by rw[Ey]
  refine hs i ys _ hlt hy p _ _ (λy4 H4 p4=>⟨by omega,n-(i+1),by omega,rfl,hlt,hσ,by rw[Am,Bw];omega,p4⟩) λH3 p3=>⟨n-(i+1),by omega,rfl,hlt,hσ,by omega,p3⟩
 ·have e:i=n:=by omega
  subst e
  exact .inl ⟨Ah _,by omega,hd ys H hy p⟩
structure Cal (P:Au)(w:AX)(K:Ab)(mg:Str->Option Ae)(base:Heap)(k:Nat)(x:Str)(ps:List Str)(sp:Sp):Prop where
 ex:∃f fd,bC P w K mg base CX0 k f fd ps sp/\mg x=some (.ref f)/\PySem.W.keepIn K (.ref f)=true/\Binds K fd ps []
theorem aG {X:Cx}{j k:Nat}{x:Str}{ps:List Str}{sp:Sp}{e:Expr}{es:List Expr}{t:TA}{p pos:Pos}(C:Cal X.prog X.w X.K X.mg X.base k x ps sp)(hr:bU j X.A)(hj:k<=j)(hg:Gl X x)(ha:PA X (e :: es) t)
  (hdb:(x == ("__debug__" : Str))=false:=by decide) (he:Bf (e :: es) X.env=(false,eval e X.env) :: Bf es X.env:=by rfl) (hpl:(DP pos (Bf es X.env)).any (·.1)=false:=by rfl) :
  PE X (.Call (.Name x p) (e :: es) [] pos) (uh sp [] E0 t):=by
 obtain ⟨f,fd,F,m,kp,b⟩:=C.ex
 exact qK F (hr.mono hj) hg m kp b .nil zL ha hdb he hpl
theorem af {H:Hp}{p:Addr}(h:H p=none)(o:HO):ay H (upd H p o):=λb u q=>by rw[au (aA q h)];exact q
theorem small {n:Nat}(h:n<=1000):n<=Ai:=D1 (cp h)
open PySem PySem.Spec PyProof.Rows
section
variable  {X:Cx}
theorem nH {its:List Ae}{bs:List Bool}(h:Vals (bs.map V.bl) its){prog:Au}{w:AX}{A:A7}:TruthOf prog w A (λi v=>its.toArray[i]? = some v) (λi=>bs.getD i false):=by
 intro i v s Q E hv q
 have l:=h.length
 rw[Ac] at l
 have hi:i<its.length:=by
  rw[Bk] at hv
  exact (Al.mp hv).1
 have e:(bs.map V.bl)[i]? = some (.bl (bs.getD i false)):=by
  rw[AO,BS,Aw (by omega)]
  rfl
 obtain ⟨u,e1,e2⟩:=h.get e
 rw[Bk,e1] at hv
 have ev:u=v:=A1 hv
 subst ev
 cases (show u=Value.bool _ from e2)
 exact BG q
theorem all_range (bs:List Bool):((BL bs.length).all λi=>bs.getD i false)=bs.all id:=by
 rw[De,Cn,Cn]
 constructor
 ·intro h x hx
  obtain ⟨i,e⟩:=A3.mp hx
  have hi:i<bs.length:=(Al.mp e).1
  have q:=h i (Bp.mpr hi)
  rw[BS,e] at q
  exact q
 ·intro h i hi
  have hi':=Bp.mp hi
  rw[BS,Aw hi']
  exact h _ (CJ hi')
theorem nI (hc:X.calm=true):b8 X (.builtin "all") (λxs H Q=>∃(p:Addr) (bs:List Bool),xs=[.ref p]/\SqL X.K H p (bs.map V.bl)/\Q (.bl (bs.all id)) H):=by
 intro pins s σ H xs us Q I r h
 obtain ⟨p,bs,rfl,hs,q⟩:=h
 obtain ⟨u,rfl,ru⟩:=vals1 r
 cases (show u=As p from ru)
 obtain ⟨its,rv,pl,hz⟩:=I.list hs
 have l:=rv.length
 rw[Ac] at l
 have hpl:p<s.heap.objs.size:=by obtain ⟨o,_,e,_⟩:=pl;exact Ar e
 refine call_all_walk (DT pl.isList ?_)
 have hd:X.A.in1.handled=none:=I.ok.hd hc
 refine ⟨s.heap.objs.size,_,_,_,_,_,_,rfl,Walks.list hd s.heap.objs.size p (AI hpl) its.toArray,⟨⟨_,Av _ rfl,rfl,rfl⟩,?_⟩,nH rv,λh' tk k =>?_⟩
 ·exact pl.isList.at λo e=>Ad _ e
 ·have e:((BL its.toArray.size).all λi=>bs.getD i false)=bs.all id:=by rw[Aj, <- l,all_range]
  rw[e]
  refine ⟨.bl (bs.all id),H,I.kept (t':=tk) (λb o eb=>k b o ?_ (Ad _ eb)),rfl,q⟩
  intro hb
  have:b=s.heap.objs.size:=by simpa using hb
  exact absurd (Ar eb) (by rw[this];exact Bn _)
def wb:V->List V->Hp->VK->Prop:=λx vs H Q=>∃(l:Addr) (xs:List V) (i:Int) (y:V),x = .ref l/\vs=[.int i,y]/\H l=some (.lst xs)/\0<=i/\i<=xs.length/\xs.length<Ai/\Q .non (upd H l (.lst (xs.take i.toNat++y :: xs.drop i.toNat)))
theorem lh:MtM X "list.insert" wb:=by
 intro pins s σ H x vs v us Q I rx rv h
 obtain ⟨l,xs,i,y,rfl,rfl,hH,h0,h1,hz,q⟩:=h
 cases rx
 obtain ⟨ui,uy,rfl,⟨t,rfl⟩,ry⟩:=vals2 rv
 obtain ⟨z,its,n,r,hl,e⟩:=I.zK hH
 have zl:=iM
 have fits:¬ (!Builtin.List.listFitsIndex i)=true:=by
  have:Builtin.List.listFitsIndex i=true:=by
   unfold Builtin.List.listFitsIndex
   simp only[Bh,decide_eq_true_eq]
   omega
  rw[this];simp
 refine GX F.slot_list_insert ⟨_,e,rfl⟩ F.entry_list_insert (F.args_list_insert_3 _ _ _) (Fi l its.toArray n i t uy fits (by rw[Aj];omega)) ⟨e,?_⟩
 refine ⟨.non,_,I.zJ (its':=its.take i.toNat++uy :: its.drop i.toNat) hH e ?_ ((r.take _).append (.cons ry (r.drop _))) ?_,rfl,q⟩
 ·have ek:min i.toNat its.toArray.size=i.toNat:=by rw[Aj];omega
  dsimp only
  rw[if_neg (by omega),ek]
  apply Fj.mp
  rw[A2,BX,BU,BU,Bq,Bq]
  simp
  rw[AA (by rw[B8];omega)]
 ·rw[Am,Ba,Bg,B8]
  omega
theorem cw.kit {pins:List (Addr×Obj)}{σ:St}{H:Hp}{s:Ag}{x:V}{u t:Ae}(I:Inv X pins σ H s)(rx:RelV x u)(ty:cw X.K H x t)(hn:∀a C dx fs,H a=some (.ins C dx fs)->x ≠ .ref a) :
  ∃P:Heap->Prop,PySem.W.KitX X.K u t P/\P s.heap/\u ≠ .builtin "__main__.__loader__#opaque" := by
 cases ty with
 | non=>cases (show u=BR from rx);exact ⟨_,GK,True.intro,λz=>nomatch z⟩
 | bl y=>cases (show u=Value.bool y from rx);exact ⟨_,GL,True.intro,λz=>nomatch z⟩
 | int i=>obtain ⟨t,q⟩:=(show ∃t,u=CO i t from rx);cases q;exact ⟨_,Hd,True.intro,λz=>nomatch z⟩
 | str y=>obtain ⟨t,q⟩:=(show ∃t,u=Value.str y t from rx);cases q;exact ⟨_,He,True.intro,λz=>nomatch z⟩
 | flt y=>obtain ⟨t,q⟩:=(show ∃t,u=Value.float y t from rx);cases q;exact ⟨_,Gq,True.intro,λz=>nomatch z⟩
 | @lst a xs ea =>
  cases (show u=As a from rx)
  obtain ⟨_,_,n,_,h1⟩:=(show bj X.prog X.w H s.heap a (.lst xs) from I.hok a _ ea)
  exact ⟨_,DQ,⟨_,h1,rfl⟩,λz=>nomatch z⟩
 | @frz a ob xs ea =>
  cases (show u=As a from rx)
  obtain ⟨_,_,_,n,_,h1⟩:=(show bj X.prog X.w H s.heap a (.frz ob (.lst xs)) from I.hok a _ ea)
  exact ⟨_,DQ,⟨_,h1,rfl⟩,λz=>nomatch z⟩
 | @tup a xs ea =>
  cases (show u=As a from rx)
  obtain ⟨_,_,_,p⟩:=(show bj X.prog X.w H s.heap a (.tup xs) from I.hok a _ ea)
  obtain ⟨o,h1,h2,_⟩:=p
  exact ⟨_,Gr,⟨o,h1,h2.1⟩,λz=>nomatch z⟩
 | @dK a kvs ea =>
  cases (show u=As a from rx)
  obtain ⟨_,_,vs,_,p⟩:=(show bj X.prog X.w H s.heap a (.dK kvs) from I.hok a _ ea)
  obtain ⟨o,es,ep,h1,h2,_⟩:=p
  exact ⟨_,DR,⟨o,h1,h2.1⟩,λz=>nomatch z⟩
 | @dT a kvs ea =>
  cases (show u=As a from rx)
  obtain ⟨_,_,xs,_,o,es,ep,h1,h2,_⟩:=(show bj X.prog X.w H s.heap a (.dT kvs) from I.hok a _ ea)
  exact ⟨_,DR,⟨o,h1,h2.1⟩,λz=>nomatch z⟩
 | @ins a C dx fs ea cl ha hn' htk hm=>exact absurd rfl (hn a C dx fs ea)
theorem nJ:∀{Ts:List String} {us:List Ae},Vals (Ts.map V.ty) us->us=Ts.map B7
 | [],_,r=>by cases r;rfl
 | T :: Ts,_,r=>by
  cases r with
  | cons h t=>rw[AV, <- nJ t,show _=B7 T from h]
theorem c0:b8 X (.builtin "isinstance") (λxs H Q=>∃(x:V) (p:Addr) (Ts:List String) (t:Ae) (b:Bool),xs=[x,.ref p]/\SqT X.K H p (Ts.map V.ty)/\cw X.K H x t/\(∀a C dx fs,H a=some (.ins C dx fs)->x ≠ .ref a) ∧
  PySem.W.kitAny X.K t (Ts.map B7)=some b/\Q (.bl b) H):=by
 intro pins s σ H xs us Q I r h
 obtain ⟨x,p,Ts,t,b,rfl,hs,ty,hn,e,q⟩:=h
 obtain ⟨u,w',rfl,ru,rw'⟩:=vals2 r
 cases (show w'=As p from rw')
 obtain ⟨its,rv,⟨⟨c,dd,da,sl⟩,eo,ec,n,ed⟩,_⟩:=I.tuple hs
 have ei:=nJ rv
 simp only at ec ed
 subst ec ed
 obtain ⟨P,Z,hP,hne⟩:=cw.kit I ru ty hn
 rw[<- ei] at e
 exact PySem.W.kia_tup Z I.kIn hP eo e hne λtk=>⟨.bl b,H,I.tok tk,rfl,q⟩
theorem lq {α β:Type}{F:α -> β -> Prop}:∀{l:List α} {m:List β} {i:Nat} {x:α} {y:β},Paired F l m->l[i]? = some x->m[i]? = some y->F x y
 | _,_,0,_,_,.cons h _,e1,e2=>by simp at e1 e2;subst e1 e2;exact h
 | _,_,i+1,_,_,.cons _ t,e1,e2=>lq (i:=i) t (by simpa using e1) (by simpa using e2)
 | _,_,_,_,_,.nil,e1,_=>by simp at e1
theorem all_true (n:Nat):((BL n).all λ_=>true)=true:=by simp
end
open PySem PySem.Spec PyProof.Rows
def xK (K:Ab)(k l:Nat):TG:=zv K 2 (t6 (gu k) (t6 (gu l) zu))
def zO (k l:Nat)(tc:TT)(te:TE)(τ:St)(Pv:Nat->List V->Hp->Prop)(i:Nat)(a b:V)(ys:List V)(H:Hp):Prop :=
 ∀(R1:V->Hp->Prop) (R0:Hp->Prop),(∀y H4,Pv (i+1) (ys++[y]) H4->R1 y H4)->(∀H3,Pv (i+1) ys H3->R0 H3)->tc ((τ.set k (some a)).set l (some b)) H λc H3=>if c=true then te ((τ.set k (some a)).set l (some b)) H3 R1 else R0 H3
open PySem PySem.Spec PyProof.Rows
section
variable  {X:Cx}{K:Ab}
theorem de (h:X.K=K:=by rfl):IxR X (rIx K):=by subst h;exact yo
theorem cF (h:X.K=K:=by rfl):IxR X (ym K):=by subst h;exact aS
theorem fW (h:X.K=K:=by rfl):OpR X (Bo .NotIn) (rIn K true):=by subst h;exact mw
end
open PySem PySem.Spec PyProof.Rows
theorem Inv.jK {X:Cx}{pins:List (Addr×Obj)}{σ:St}{H:Hp}{s:Ag}{h':Heap}{t':Nat}{ch:List Addr}{T:Addr}{o:HO}(I:Inv X pins σ H s)(f:∀b∈ch,jg X pins H b)
  (k:∀b ob,b∉ch->s.heap.get? b=some ob->h'.get? b=some ob) (th:∀b∈ch,∃ob,h'.get? b=some ob) (hT:s.heap.objs.size<=T) (new:bj X.prog X.w (upd H T o) h' T o):Inv X pins σ (upd H T o) { s with heap:=h',toks:=t' }:=by
 have hn:H T=none:=I.hok.fresh hT
 have nT:∀b ob,s.heap.get? b=some ob->b≠T:=λb ob e=>AI (Ay (Ar e) hT)
 refine I.step (g':=s.gens) (d':=s.drawn) (ch:=ch) (λb hb =>?_) (λb ob _ _ hc e _=>k b ob hc e) (λb ob _ _ hc e _=>⟨ob.slots,k b ob hc e⟩) (λb ob _ e n=>by rw[au (nT b ob e)];exact n)
  (λb ob hc e=>⟨ob,k b ob hc e⟩) (λb xs e=>by rw[au (aA e hn)];exact e) (λb ob u e=>by rw[au (aA e hn)];exact e) (λb ps e=>⟨#[],by rw[au (aA e hn),e];simp⟩) (λm hm =>?_) (λb u e =>?_) I.bare
 ·obtain ⟨g0,g1,g2,g3,g4,g5⟩:=f b hb
  exact ⟨g3,g1,g4,g5⟩
 ·obtain ⟨ob,es,ep,ho,r⟩:=hm
  exact ⟨ob,es,ep,k _ ob (λz=>(f _ z).2.1 rfl) ho,r⟩
 ·by_cases hb:b=T
  ·subst hb
   rw[ae] at e
   cases e
   exact new
  ·rw[au hb] at e
   refine (I.hok b u e).cx (λc v hc q=>k c v ?_ q) (λc q=>by rw[au (aA q hn)];exact q) λc xs q=>by rw[au (aA q hn)];exact q
   intro z
   have n0:=(f c z).1
   rcases hc with hc | hc
   ·rw[hc,e] at n0;cases n0
   ·rw[hc] at n0;cases n0
def Ite (K:Ab)(a:Addr):It :=
 ⟨λi H=>∃xs v,SqL K H a xs/\xs[i]? = some v,λi H x H'=>∃T v,H T=none/\x = .ref T/\H'=upd H T (.tup [.int i,v])/\∀xs,SqL K H a xs->xs[i]? = some v,λi H=>∃xs,SqL K H a xs/\xs.length<=i⟩
theorem rX {P:Au}{w:AX}{K:Ab}{elts:List Expr}{k:Nat}{pos:Pos}(a e it:Addr)(hne:e≠it):Turn P w K (.Tuple elts k pos) (Ite K a) [e,it] e (λi h=>(∃old,IsEnum h e it i old)/\h.IsListIter it a i) where
 mem:=by simp
 obj:=λi h ⟨⟨old,h1⟩,h2⟩ b hb=>by
  rcases AH.mp hb with q | q
  ·subst q
   exact ⟨_,h1,λv z=>nomatch z⟩
  ·have q':b=it:=by simpa using q
   subst q'
   obtain ⟨o,ho,_,hd⟩:=h2
   exact ⟨o,ho,λv z=>by rw[hd] at z;cases z⟩
 keep:=λi h h' ⟨⟨old,h1⟩,h2⟩ kp=>⟨⟨old,kp e (by simp) _ h1⟩,h2.at λo x=>kp it (by simp) o x⟩
 item:=λX eP eW eK hcalm i pins s σ H E I f ⟨⟨old,h1⟩,h2⟩ go=>by
  subst eP eW eK
  obtain ⟨xs,v,hs,hv⟩:=go
  obtain ⟨its,r,pl,hz⟩:=I.list hs
  obtain ⟨u,eu,ru⟩:=r.get hv
  refine wpAny_pyNext_enum_item h1 h2 pl.isList (x:=u) (by rw[Bk];exact eu) hne λh' o1 o2 o3 o4 kp =>?_
  refine ⟨_,rfl,?_⟩
  refine Eu o1 λh2' e2 sb =>?_
  have eT:e≠s.heap.objs.size:=AI (Ar h1)
  have kp2:∀b ob,b∉[e,it]->s.heap.get? b=some ob->h2'.get? b=some ob:=λb ob hb eb=>by
   have n1:b≠e:=λz=>hb (by simp[z])
   have n2:b≠it:=λz=>hb (by simp[z])
   rw[sb.2 b n1]
   exact kp b ob n1 n2 eb
  have li:h2'.IsListIter it a (i+1):=o2.at λob eb=>by rw[sb.2 it (Ca hne)];exact eb
  have tp:h2'.get? s.heap.objs.size=some { cls :=.type "tuple",data :=.seq #[.int i s.toks,u] }:=by rw[sb.2 _ (Ca eT)];exact o3
  refine ⟨.ref s.heap.objs.size,upd H s.heap.objs.size (.tup [.int i,v]),I.jK (ch:=[e,it]) f kp2 (λb hb =>?_) (Ah _) ?_,rfl,⟨s.heap.objs.size,v,I.hok.fresh (Ah _),rfl,rfl,λys hy =>?_⟩,⟨⟨_,e2⟩,li⟩,λb hb =>?_⟩
  ·rcases AH.mp hb with q | q
   ·subst q;exact ⟨_,e2⟩
   ·have q':b=it:=by simpa using q
    subst q'
    obtain ⟨ob,ho,_⟩:=li
    exact ⟨ob,ho⟩
  ·refine ⟨(by show 2<=Ai;decide),[.int i s.toks,u],.cons ⟨_,rfl⟩ (.cons ru .nil),_,tp,⟨rfl,rfl⟩,_,rfl⟩
  ·rw[I.nk hy hs];exact hv
  ·have ne:b≠s.heap.objs.size:=by
    rcases AH.mp hb with q | q
    ·rw[q];exact eT
    ·have q':b=it:=by simpa using q
     rw[q']
     obtain ⟨ob,ho,_⟩:=h2
     exact AI (Ar ho)
   rw[au ne]
   exact (f b hb).1
 done:=λX eP eW eK hcalm i pins s σ H E I f ⟨⟨old,h1⟩,h2⟩ stop=>by
  subst eP eW eK
  obtain ⟨xs,hs,hl⟩:=stop
  obtain ⟨its,r,pl,hz⟩:=I.list hs
  have l:=r.length
  refine wpAny_pyNext_enum_end (I.ok.hd hcalm) h1 h2 pl.isList (by rw[Bk];exact CQ.mpr (by omega)) λh' ex=>⟨rfl,?_⟩
  obtain ⟨g0,g1,g2,g3,g4,g5⟩:=f it (by simp)
  exact I.turned (it:=it) (h':=h') (t':=s.toks) (λb o ne eb=>ex b o ne eb) g0 g1 g3 g4 g5
 self:=λA i s Q E ⟨⟨old,h1⟩,_⟩ q=>by
  refine DU ⟨_,h1,rfl⟩ Df (BC Df ⟨_,h1,rfl⟩ Fs ?_ (E7 _))
  show AL _ _ (ret (.ref e)) _ _ s
  exact An ⟨_,rfl, "enumerate",_,⟨_,h1,rfl⟩,Dg.lookup,q⟩
open PySem PySem.Spec PyProof.Rows
open PySem.AutoSeq1 (wpAny_loadPart')
section
variable  {prog:Au}{w:AX}{A:A7}{E:Ae->Ag->Prop}{s:Ag}
theorem pJ {it t:Addr}{i:Nat}{items:Array Ae}{x:Ae}{Q:Ae->Ag->Prop}(hi:s.heap.IsTupleIter it t i)(hl:s.heap.IsTuple t items)(hx:items[i]? = some x)
  (q:∀h',h'.IsTupleIter it t (i+1)->Heap.SameBut it s.heap h'->Q x { s with heap:=h' }):AL (AQ prog w) A (Builtin.SmallTypes.nextOf (.ref it)) Q E s:=by
 obtain ⟨o,eo,oc,od⟩:=id hi
 obtain ⟨ol,el,_,nl,dl⟩:=hl
 unfold Builtin.SmallTypes.nextOf
 refine Af (B5 (name:=Str.ofString "__next__") hi.typeIs CH (BC CH hi.typeIs Ek ?_ (Ef _)))
 show AL _ _ (field (.ref it) 0 >>= _) _ _ s;refine Af (Fe eo od (x :=.ref t) rfl ?_)
 show AL _ _ (if (As t == BR)=true then _ else _) _ _ s;rw[if_neg (show ¬ ((As t == BR)=true) from Ao)]
 show AL _ _ (field (.ref it) 1 >>= _) _ _ s;refine Af (Fe eo od (x :=.int i 0) rfl ?_)
 show AL _ _ (seqItems? (.ref t) >>= _) _ _ s;refine Af (EL el dl ?_)
 simp only[Bb,hx];refine Af (FX eo od (by simp) (An ⟨x,rfl,An (q _ ?_ (Dz ..))⟩))
 exact ⟨_,Bj _ eo (Obj.isFreed_of_fields (Ez od _)),(Obj.cls_mapFields ..).trans oc,by rw[Ez od];simp[EE]⟩
theorem fA {it t:Addr}{i:Nat}{items:Array Ae}{Q:Ae->Ag->Prop}(hh:A.handled=none)(hi:s.heap.IsTupleIter it t i)(hl:s.heap.IsTuple t items)(hx:items[i]? = none)
  (q:∀h' e,Heap.ExtBut it s.heap h'->(∃o,h'.get? e=some o/\o.cls = .type "StopIteration")->E (.ref e) { s with heap:=h' }):AL (AQ prog w) A (Builtin.SmallTypes.nextOf (.ref it)) Q E s:=by
 obtain ⟨o,eo,oc,od⟩:=id hi
 obtain ⟨ol,el,_,nl,dl⟩:=hl
 unfold Builtin.SmallTypes.nextOf
 refine Af (B5 (name:=Str.ofString "__next__") hi.typeIs CH (BC CH hi.typeIs Ek ?_ (Ef _)))
 show AL _ _ (field (.ref it) 0 >>= _) _ _ s;refine Af (Fe eo od (x :=.ref t) rfl ?_)
 show AL _ _ (if (As t == BR)=true then _ else _) _ _ s;rw[if_neg (show ¬ ((As t == BR)=true) from Ao)]
 show AL _ _ (field (.ref it) 1 >>= _) _ _ s;refine Af (Fe eo od (x :=.int i 0) rfl ?_)
 show AL _ _ (seqItems? (.ref t) >>= _) _ _ s;refine Af (EL el dl ?_)
 simp only[Bb,hx];refine Af (DV (Af (FX eo od (by simp) ?_)))
 show AL _ _ (newExc (.type "StopIteration") [] >>= _) _ _ _;refine Af ?_
 simp only[newExc,newTuple];refine Af (Cv ?_ (by size_fits))
 refine Af (m:=firstArgMember _ _) (Hy (a:=BR) (by first | rfl | (simp only[firstArgMember];rfl)) ?_);refine Cv ?_ (by size_fits)
 simp only[raiseNew];refine Af (wpAny_handled ?_)
 first | (rw[show A.in1.handled=none from hh]) | (rw[hh])
 refine Af (An (wpAny_throw ?_));exact q _ _ (((Dz ..).extBut.push _).push _) ⟨_,Av _ rfl,rfl⟩
theorem rY (hh:A.handled=none)(it l:Addr)(hne:l≠it)(items:Array Ae) :
  Draws prog w A it [it,l] items.size (λi v=>items[i]? = some v) (λi h=>h.IsTupleIter it l i/\h.IsTuple l items) where
 live:=λ_ _ st=>by obtain ⟨o,ho,_⟩:=st.1;exact ⟨o,ho⟩
 frame:=λ_ _ _ st hk=>⟨st.1.at λo e=>hk it (by simp) o e,by obtain ⟨o,e,r⟩:=st.2;exact ⟨o,hk l (by simp) o e,r⟩⟩
 item:=λi s Q E hi st hQ=>by
  refine pJ st.1 st.2 (x:=items[i]) (by simp[hi]) λh' hit' hs' =>?_
  obtain ⟨o,e,r⟩:=st.2
  exact hQ _ h' s.toks (by simp[hi]) ⟨hit',o,by rw[hs'.2 l hne];exact e,r⟩ hs'
 done:=λs Q E st hE=>fA hh st.1 st.2 (by simp) hE
theorem mD (l:Addr)(items:Array Ae)(n:Nat)(dct:Option Addr)(sl:Array (Option Ae)) :
  Meets (Builtin.«enumerate.__new__» ⟨[.type "enumerate",.ref l],[]⟩) (λ_ R s=>s.heap.get? l=some { cls :=.type "tuple",dict:=dct,data :=.seq items n,slots:=sl } ∧
   R (.ok (.ret (.ref (s.heap.push { cls :=.type "tuple_iterator",data :=.fields #[.ref l,.int 0 0] }).objs.size)))
    { s with heap:=(s.heap.push { cls :=.type "tuple_iterator",data :=.fields #[.ref l,.int 0 0] }).push { cls :=.type "enumerate",data :=.fields #[.none,.bool false,.ref s.heap.objs.size,EE 0,.none,.none] } }) :=
 .of_wp λprog w A R s h=>by
  obtain ⟨hp,g,d,tk,os⟩:=s;obtain ⟨hl,h⟩:=h
  have hsub:=sub_enumerate
  have hT:Heap.IsTuple (Shared.heap ⟨hp,g,d,tk,os⟩) l items:=⟨_,hl,rfl,n,rfl⟩
  wp_walk using wpAny_loadPart' hl
  refine wpAny_stack_any λst=>An ?_
  split
  ·rename_i c _ _ _ _ _
   cases (c == B7 "enumerate") <;> (wp_walk using wpAny_loadPart' hl,CM hT;exact ⟨_,rfl,h⟩)
  ·wp_walk using wpAny_loadPart' hl,CM hT;exact ⟨_,rfl,h⟩
theorem kz {l:Addr}{items:Array Ae}{Q:Ae->Ag->Prop}(hL:s.heap.IsTuple l items)
  (h:∀h',IsEnum h' (s.heap.objs.size+1) s.heap.objs.size 0 .none->h'.IsTupleIter s.heap.objs.size l 0->h'.objs.size=s.heap.objs.size+2->(∀b o,s.heap.get? b=some o->h'.get? b=some o)->Q (.ref (s.heap.objs.size+1)) { s with heap:=h' }) :
  AL (AQ prog w) A (call (.type "enumerate") [.ref l]) Q E s:=by
 obtain ⟨⟨c,dct,dt,sl⟩,hl,hc,n,hd⟩:=hL
 replace hc:c = .type "tuple" := hc
 replace hd:dt = .seq items n:=hd
 subst hc hd
 refine callType_new F.called_enumerate (by decide) (F.typeCall_enumerate_1 _) (F.newCall_enumerate_1 _) (λobj=>F.args_object_init_2 obj _) F.entry_enumerate_new (mD l items n dct sl) ⟨hl,?_⟩
 have hz:(s.heap.push { cls :=.type "tuple_iterator",data :=.fields #[.ref l,.int 0 0] }).objs.size=s.heap.objs.size+1:=CP ..
 show _/\_
 rw[hz]
 have he:IsEnum ((s.heap.push { cls :=.type "tuple_iterator",data :=.fields #[.ref l,.int 0 0] }).push { cls :=.type "enumerate",data :=.fields #[.none,.bool false,.ref s.heap.objs.size,EE 0,.none,.none] }) (s.heap.objs.size+1) s.heap.objs.size 0 .none:=by
  have:=Av (s.heap.push { cls :=.type "tuple_iterator",data :=.fields #[.ref l,.int 0 0] }) (o:={ cls :=.type "enumerate",data :=.fields #[.none,.bool false,.ref s.heap.objs.size,EE 0,.none,.none] }) rfl
  rw[hz] at this;exact this
 exact ⟨⟨_,he,rfl⟩,h _ he ⟨_,Ad _ (Av _ rfl),rfl,rfl⟩ (by rw[CP,hz]) λb o x=>Ad _ (Ad _ x)⟩
end
theorem eU {prog:Au}{w:AX}{A:A7}{E:Ae->Ag->Prop}{s:Ag}{e it t:Addr}{i:Nat}{items:Array Ae}{old:Ae}{Q:Option Ae->Ag->Prop}(hh:A.in1.handled=none)(he:IsEnum s.heap e it i old)(hi:s.heap.IsTupleIter it t i)
  (hl:s.heap.IsTuple t items) (hx:items[i]? = none) (q:∀h',Heap.ExtBut it s.heap h'->Q none { s with heap:=h' }):AL (AQ prog w) A (pyNext (.ref e)) Q E s:=by
 have hT:s.TypeIs (.ref e) "enumerate" :=⟨_,he,rfl⟩
 unfold pyNext
 refine Af (Eh (B5 (name:=Str.ofString "__next__") hT Dg (BC Dg hT F.entry_enumerate_next ?_ (F.args_enumerate_next_1 _))))
 show AL _ _ (field (.ref e) 2 >>= _) _ _ _;refine Af (Fe he rfl (x :=.ref it) rfl ?_)
 refine Af (fA hh hi hl hx λh' x he' hx' =>?_)
 obtain ⟨o,ho,hc⟩:=hx'
 refine Af (D8 (T := "StopIteration") (b:=true) ⟨o,ho,hc⟩ FY ?_);exact An (q _ he')
def ItE (K:Ab)(a:Addr):It :=
 ⟨λi H=>∃xs v,SqT K H a xs/\xs[i]? = some v,λi H x H'=>∃T v,H T=none/\x = .ref T/\H'=upd H T (.tup [.int i,v])/\∀xs,SqT K H a xs->xs[i]? = some v,λi H=>∃xs,SqT K H a xs/\xs.length<=i⟩
theorem pK {P:Au}{w:AX}{K:Ab}{elts:List Expr}{k:Nat}{pos:Pos}(a e it:Addr)(hne:e≠it)(hai:a≠it)(hae:a≠e):Turn P w K (.Tuple elts k pos) (ItE K a) [e,it] e (λi h=>(∃old,IsEnum h e it i old)/\h.IsTupleIter it a i) where
 mem:=by simp
 obj:=λi h ⟨⟨old,h1⟩,h2⟩ b hb=>by
  rcases AH.mp hb with q | q
  ·subst q
   exact ⟨_,h1,λv z=>nomatch z⟩
  ·have q':b=it:=by simpa using q
   subst q'
   obtain ⟨o,ho,_,hd⟩:=h2
   exact ⟨o,ho,λv z=>by rw[hd] at z;cases z⟩
 keep:=λi h h' ⟨⟨old,h1⟩,h2⟩ kp=>⟨⟨old,kp e (by simp) _ h1⟩,h2.at λo x=>kp it (by simp) o x⟩
 item:=λX eP eW eK hcalm i pins s σ H E I f ⟨⟨old,h1⟩,h2⟩ go=>by
  subst eP eW eK
  obtain ⟨xs,v,hs,hv⟩:=go
  obtain ⟨its,r,pl,hz⟩:=I.tuple hs
  obtain ⟨u,eu,ru⟩:=r.get hv
  have hi:i<its.toArray.size:=by rw[Aj];exact (Al.mp eu).1
  have hd:X.A.in1.handled=none:=I.ok.hd hcalm
  refine wpAny_pyNext_enum_itemD (rY hd it a hai its.toArray) h1 ⟨h2,(show s.heap.IsTuple a its.toArray from pl)⟩ hi hne (by simp[hne,Ca hae]) λx h' tk px o1 o2 o3 o4 kp =>?_
  rw[Bk,eu] at px
  have px':u=x:=A1 px
  subst px'
  refine ⟨_,rfl,?_⟩
  refine Eu o1 λh2' e2 sb =>?_
  have eT:e≠s.heap.objs.size:=AI (Ar h1)
  have kp2:∀b ob,b∉[e,it]->s.heap.get? b=some ob->h2'.get? b=some ob:=λb ob hb eb=>by
   have n1:b≠e:=λz=>hb (by simp[z])
   have n2:b≠it:=λz=>hb (by simp[z])
   rw[sb.2 b n1]
   exact kp b ob n1 n2 eb
  have li:h2'.IsTupleIter it a (i+1):=o2.1.at λob eb=>by rw[sb.2 it (Ca hne)];exact eb
  have tp:h2'.get? s.heap.objs.size=some { cls :=.type "tuple",data :=.seq #[.int i tk,u] }:=by rw[sb.2 _ (Ca eT)];exact o3
  refine ⟨.ref s.heap.objs.size,upd H s.heap.objs.size (.tup [.int i,v]),I.jK (ch:=[e,it]) f kp2 (λb hb =>?_) (Ah _) ?_,rfl,⟨s.heap.objs.size,v,I.hok.fresh (Ah _),rfl,rfl,λys hy =>?_⟩,⟨⟨_,e2⟩,li⟩,λb hb =>?_⟩
  ·rcases AH.mp hb with q | q
   ·subst q;exact ⟨_,e2⟩
   ·have q':b=it:=by simpa using q
    subst q'
    obtain ⟨ob,ho,_⟩:=li
    exact ⟨ob,ho⟩
  ·refine ⟨(by show 2<=Ai;decide),[.int i tk,u],.cons ⟨_,rfl⟩ (.cons ru .nil),_,tp,⟨rfl,rfl⟩,_,rfl⟩
  ·rw[I.iK hy hs];exact hv
  ·have ne:b≠s.heap.objs.size:=by
    rcases AH.mp hb with q | q
    ·rw[q];exact eT
    ·have q':b=it:=by simpa using q
     rw[q']
     obtain ⟨ob,ho,_⟩:=h2
     exact AI (Ar ho)
   rw[au ne]
   exact (f b hb).1
 done:=λX eP eW eK hcalm i pins s σ H E I f ⟨⟨old,h1⟩,h2⟩ stop=>by
  subst eP eW eK
  obtain ⟨xs,hs,hl⟩:=stop
  obtain ⟨its,r,pl,hz⟩:=I.tuple hs
  have l:=r.length
  have hd:X.A.in1.handled=none:=I.ok.hd hcalm
  refine eU (A:=X.A) hd h1 h2 (show s.heap.IsTuple a its.toArray from pl) (by rw[Bk];exact CQ.mpr (by omega)) λh' ex=>⟨rfl,?_⟩
  obtain ⟨g0,g1,g2,g3,g4,g5⟩:=f it (by simp)
  exact I.turned (it:=it) (h':=h') (t':=s.toks) (λb o ne eb=>ex b o ne eb) g0 g1 g3 g4 g5
 self:=λA i s Q E ⟨⟨old,h1⟩,_⟩ q=>by
  refine DU ⟨_,h1,rfl⟩ Df (BC Df ⟨_,h1,rfl⟩ Fs ?_ (E7 _))
  show AL _ _ (ret (.ref e)) _ _ s
  exact An ⟨_,rfl, "enumerate",_,⟨_,h1,rfl⟩,Dg.lookup,q⟩
open PySem PySem.Spec PyProof.Rows
def zP (K:Ab)(ta:TA):TI:=λσ H R=>ta σ H λvs H1=>∃a,vs=[.ref a]/\(((∃xs,SqL K H1 a xs)/\R (Ite K a) H1)\/((∃xs,SqT K H1 a xs)/\R (ItE K a) H1))
section
variable  {X:Cx}
theorem wc {a:Expr}{ta:TA}{p pos pos':Pos}{elts:List Expr}{k:Nat}(hg:Gl X "enumerate")(hm:X.mg "enumerate" = none)(ha:PA X [a] ta)(hs:Bf [a] X.env=[(false,eval a X.env)]:=by rfl) :
  PI X (.Tuple elts k pos') (.Call (.Name "enumerate" p) [a] [] pos) (zP X.K ta):=by
 intro pins s σ H R I h
 refine Call_ (iI I hg hm boot_enumerate (Cy (thn (ha pos pins s σ H _ I h) λus s1 ⟨vs,H1,I1,r1,q1⟩ =>?_) hs rfl))
 obtain ⟨l,e,q1⟩:=q1
 subst e
 obtain ⟨u,rfl,ru⟩:=vals1 r1
 cases (show u=As l from ru)
 have fp:∀b∈[s1.heap.objs.size+1,s1.heap.objs.size],jg X pins H1 b:=λb hb=>by
  have ge:s1.heap.objs.size<=b:=by
   rcases AH.mp hb with q | q
   ·rw[q];exact Ej _
   ·have q':b=s1.heap.objs.size:=by simpa using q
    rw[q'];exact Ah _
  exact I1.rP ge (I1.hok.fresh ge)
 have ne:s1.heap.objs.size+1≠s1.heap.objs.size:=CZ (CI _)
 rcases q1 with ⟨⟨xs,hq⟩,q⟩ | ⟨⟨xs,hq⟩,q⟩
 ·obtain ⟨its,rv,pl,hz⟩:=I1.list hq
  refine call_enumerate_list pl.isList λh' he li _ kp =>?_
  have T:=rX (P:=X.prog) (w:=X.w) (K:=X.K) (elts:=elts) (k:=k) (pos:=pos') l _ _ ne
  refine T.self _ 0 _ _ _ ⟨⟨_,he⟩,li⟩ ?_
  exact ⟨_,_,_,_,H1,rfl,I1.kept (t':=s1.toks) kp,T,⟨⟨_,he⟩,li⟩,fp,q⟩
 ·obtain ⟨its,rv,pl,hz⟩:=I1.tuple hq
  have lt:l<s1.heap.objs.size:=by obtain ⟨o,e,_⟩:=pl;exact Ar e
  refine kz (show s1.heap.IsTuple l its.toArray from pl) λh' he li _ kp =>?_
  have T:=pK (P:=X.prog) (w:=X.w) (K:=X.K) (elts:=elts) (k:=k) (pos:=pos') l _ _ ne (AI lt) (AI (BP lt))
  refine T.self _ 0 _ _ _ ⟨⟨_,he⟩,li⟩ ?_
  exact ⟨_,_,_,_,H1,rfl,I1.kept (t':=s1.toks) kp,T,⟨⟨_,he⟩,li⟩,fp,q⟩
end
def wd (J:It)(g:TG)(tb:TS)(D:Ends)(σ:St)(H:Hp):Prop:=∃W:Nat->Nat->St->Hp->Prop,(∃m,W 0 m σ H)/\∀i m σ H,W i m σ H →
 (J.stop i H/\D.nx σ H)\/(J.go i H/\∃N:St->Hp->Prop,(∀σ' H',N σ' H'->∃m',m'<m/\W (i+1) m' σ' H')/\∀x H',J.yld i H x H'->g x σ H' λσ2 H2=>tb { D with nx:=N,ct:=N,bk:=D.nx } σ2 H2)
theorem rZ {K:Ab}{a:Addr}{xs:List V}{g:TG}{tb:TS}{D:Ends}{σ:St}{H:Hp}(Pv:Nat->St->Hp->Prop)(h0:Pv 0 σ H)(hl:∀i σ H,i<=xs.length->Pv i σ H->SqL K H a xs)
  (hs:∀i x σ H T,xs[i]? = some x->H T=none->Pv i σ H->g (.ref T) σ (upd H T (.tup [.int i,x])) λσ2 H2=>tb { D with nx:=Pv (i+1),ct:=Pv (i+1),bk:=D.nx } σ2 H2) (hd:∀σ H,Pv xs.length σ H->D.nx σ H):wd (Ite K a) g tb D σ H:=by
 refine ⟨λi m σ H=>m=xs.length-i/\i<=xs.length/\Pv i σ H,⟨xs.length,by simp,A5 _,h0⟩,?_⟩
 rintro i m σ H ⟨rfl,hi,p⟩
 have q:=hl i σ H hi p
 by_cases hlt:i<xs.length
 ·refine .inr ⟨⟨xs,xs[i],q,by simp[hlt]⟩,Pv (i+1),λσ' H' p'=>⟨xs.length-(i+1),by omega,rfl,hlt,p'⟩,λx H' y =>?_⟩
  obtain ⟨T,v,hT,ex,eH,hv⟩:=y
  subst ex eH
  exact hs i v σ H T (hv xs q) hT p
 ·have e:i=xs.length:=by omega
  subst e
  exact .inl ⟨⟨xs,q,Ah _⟩,hd σ H p⟩
theorem r6 {K:Ab}{a:Addr}{xs:List V}{g:TG}{tb:TS}{D:Ends}{σ:St}{H:Hp}(Pv:Nat->St->Hp->Prop)(h0:Pv 0 σ H)(hl:∀i σ H,i<=xs.length->Pv i σ H->SqT K H a xs)
  (hs:∀i x σ H T,xs[i]? = some x->H T=none->Pv i σ H->g (.ref T) σ (upd H T (.tup [.int i,x])) λσ2 H2=>tb { D with nx:=Pv (i+1),ct:=Pv (i+1),bk:=D.nx } σ2 H2) (hd:∀σ H,Pv xs.length σ H->D.nx σ H):wd (ItE K a) g tb D σ H:=by
 refine ⟨λi m σ H=>m=xs.length-i/\i<=xs.length/\Pv i σ H,⟨xs.length,by simp,A5 _,h0⟩,?_⟩
 rintro i m σ H ⟨rfl,hi,p⟩
 have q:=hl i σ H hi p
 by_cases hlt:i<xs.length
 ·refine .inr ⟨⟨xs,xs[i],q,by simp[hlt]⟩,Pv (i+1),λσ' H' p'=>⟨xs.length-(i+1),by omega,rfl,hlt,p'⟩,λx H' y =>?_⟩
  obtain ⟨T,v,hT,ex,eH,hv⟩:=y
  subst ex eH
  exact hs i v σ H T (hv xs q) hT p
 ·have e:i=xs.length:=by omega
  subst e
  exact .inl ⟨⟨xs,q,Ah _⟩,hd σ H p⟩
end L2
namespace Srt
open PySem PyProof.Rows
def gal:Bool->AD->Array AD->Nat->Nat->Nat->StateT A0 Sem (Option Nat):=sortPriv% PySem.Builtin.gallop
def mLo:Array AD->Array AD->StateT A0 Sem (Array AD):=sortPriv% PySem.Builtin.mergeLo
def mHi:Array AD->Array AD->StateT A0 Sem (Array AD):=sortPriv% PySem.Builtin.mergeHi
def mAt:Nat->StateT A0 Sem Bool:=sortPriv% PySem.Builtin.mergeAt
def xM:StateT A0 Sem Unit:=sortPriv% PySem.Builtin.sortRuns
def yv:Nat->Nat->StateT A0 Sem (Option Nat):=sortPriv% PySem.Builtin.countRun
def uw:Nat->Nat->Nat->StateT A0 Sem Bool:=sortPriv% PySem.Builtin.binarySort
theorem yw (lf:Bool)(ky:AD)(ar:Array AD)(bs n ht:Nat):gal lf ky ar bs n ht=(do
    let far (i:Nat):StateT A0 Sem (Option Bool):=do
      let z ← elem' ar (bs+i)
      if lf then lt' z ky else return (← lt' ky z).map (!·)
    let mut la:=0;let mut of:=1
    let mut lo:=0;let mut hi:=0
    let some rt ← far ht | return none
    if rt then
      let mx:=n-ht
      for _ in [0:n] do
        if of≥mx then break
        let some mo ← far (ht+of)
          | return none
        if !mo then break
        la:=of;of:=2*of+1
      lo:=ht+la+1;hi:=ht+min of mx
    else
      let mx:=ht+1
      for _ in [0:n] do
        if of≥mx then break
        let some fd ← far (ht-of)
          | return none
        if fd then break
        la:=of;of:=2*of+1
      lo:=ht+1-min of mx;hi:=ht-la
    for _ in [0:n] do
      if lo≥hi then break
      let md:=lo+(hi-lo)/2
      let some mo ← far md | return none
      if mo then lo:=md+1 else hi:=md
    return some hi):=rfl
section
variable  {prog:Au}{w:AX}{A:A7}{E:Ae->Ag->Prop}{s:Ag}
theorem ux {lf:Bool}{ky:AD}{ar:Array AD}{bs n ht:Nat}{st:A0}{Q:Option Nat->A0->Prop}(p:Nat->Bool)
    (hf:∀i,i<n->∀(Q:Option Bool->A0->Prop),Q (some (p i)) st->wpS (AQ prog w) A E s (do let z ← elem' ar (bs+i);if lf then lt' z ky else return (← lt' ky z).map (!·)) Q st)
    (hp:∀i j,i<=j->j<n->p j=true->p i=true) (hh:ht<n)
    (h:∀k,k<=n->(∀i,i<k->p i=true)->(∀i,k<=i->i<n->p i=false)->Q (some k) st):wpS (AQ prog w) A E s (gal lf ky ar bs n ht) Q st:=by
  rw[yw]
  dsimp only
  refine Az (hf ht hh _ ?_)
  dsimp only
  cases hr:p ht with
  | true =>
    rw[if_pos rfl]
    refine Az (Cg (Bx (I:=λx c st'=>st=st'/\∃la of,c=(none,la,of)/\la<of/\x+1<=of/\ht+la<n/\p (ht+la)=true)
      (Q:=λc st'=>st=st'/\∃la of,c=(none,la,of)/\la<of/\ht+la<n/\p (ht+la)=true/\(n-ht<=of\/(ht+of<n/\p (ht+of)=false))) ?step ?fin ⟨rfl,0,1,rfl,by omega,by omega,by omega,by simpa using hr⟩) ?post)
    case fin =>
      rintro c st' ⟨rfl,la,of,rfl,b1,b2,b3,b4⟩
      exact ⟨rfl,la,of,rfl,b1,b3,b4,.inl (by omega)⟩
    case step =>
      rintro x c st' _ hx ⟨rfl,la,of,rfl,b1,b2,b3,b4⟩
      dsimp only
      by_cases hge:of≥n-ht
      · rw[if_pos hge]
        exact AF ⟨rfl,la,of,rfl,b1,b3,b4,.inl hge⟩
      · rw[if_neg hge]
        refine Az (hf _ (by omega) _ ?_)
        dsimp only
        cases hm:p (ht+of) with
        | true =>
          simp only[BQ,AE,if_false]
          exact AF ⟨rfl,of,2*of+1,rfl,by omega,by omega,by omega,hm⟩
        | false =>
          simp only[FV,if_true]
          exact AF ⟨rfl,la,of,rfl,b1,b3,b4,.inr ⟨by omega,hm⟩⟩
    case post =>
      rintro c st' ⟨rfl,la,of,rfl,b1,b3,b4,b5⟩
      have h1:(ht+la+1)<=(ht+min of (n-ht)):=by omega
      have h2:(ht+min of (n-ht))<=n:=by omega
      have h3:∀i,i<(ht+la+1)->p i=true:=λi hi=>hp i (ht+la) (by omega) b3 b4
      have h4:∀i,(ht+min of (n-ht))<=i->i<n->p i=false:=λi hi hn=>by
        rcases b5 with b5 | ⟨b5,b6⟩
        · omega
        · cases hpi:p i with
          | false=>rfl
          | true=>rw[hp (ht+of) i (by omega) hn hpi] at b6;cases b6
      dsimp only
      refine Az (Cg (Bx (I:=λx c st'=>st=st'/\∃lo hi,c=(none,lo,hi)/\lo<=hi/\hi<=n/\hi-lo<=n-x/\(∀i,i<lo->p i=true)/\(∀i,hi<=i->i<n->p i=false))
        (Q:=λc st'=>st=st'/\∃k,c=(none,k,k)/\k<=n/\(∀i,i<k->p i=true)/\(∀i,k<=i->i<n->p i=false)) ?step ?fin ⟨rfl,(ht+la+1),(ht+min of (n-ht)),rfl,h1,h2,by omega,h3,h4⟩) ?post)
      case fin =>
        rintro c st' ⟨rfl,lo,hi,rfl,a1,a2,a3,a4,a5⟩
        have e:lo=hi:=by omega
        subst e
        exact ⟨rfl,lo,rfl,a2,a4,a5⟩
      case post =>
        rintro c st' ⟨rfl,k,rfl,a2,a4,a5⟩
        exact AF (h k a2 a4 a5)
      case step =>
        rintro x c st' _ hx ⟨rfl,lo,hi,rfl,a1,a2,a3,a4,a5⟩
        dsimp only
        by_cases hge:lo≥hi
        · rw[if_pos hge]
          have e:lo=hi:=by omega
          subst e
          exact AF ⟨rfl,lo,rfl,a2,a4,a5⟩
        · rw[if_neg hge]
          refine Az (hf _ (by omega) _ ?_)
          dsimp only
          cases hm:p (lo+(hi-lo)/2) with
          | true =>
            rw[if_pos rfl]
            exact AF ⟨rfl,_,_,rfl,by omega,a2,by omega,λi hi'=>hp i _ (by omega) (by omega) hm,a5⟩
          | false =>
            rw[if_neg (by simp)]
            refine AF ⟨rfl,_,_,rfl,by omega,by omega,by omega,a4,λi hi' hn =>?_⟩
            cases hpi:p i with
            | false=>rfl
            | true=>rw[hp _ i hi' hn hpi] at hm;cases hm
  | false =>
    rw[if_neg (by simp)]
    refine Az (Cg (Bx (I:=λx c st'=>st=st'/\∃la of,c=(none,la,of)/\la<of/\x+1<=of/\la<=ht/\p (ht-la)=false)
      (Q:=λc st'=>st=st'/\∃la of,c=(none,la,of)/\la<of/\la<=ht/\p (ht-la)=false/\(ht+1<=of\/(of<=ht/\p (ht-of)=true))) ?step ?fin ⟨rfl,0,1,rfl,by omega,by omega,by omega,by simpa using hr⟩) ?post)
    case fin =>
      rintro c st' ⟨rfl,la,of,rfl,b1,b2,b3,b4⟩
      exact ⟨rfl,la,of,rfl,b1,b3,b4,.inl (by omega)⟩
    case step =>
      rintro x c st' _ hx ⟨rfl,la,of,rfl,b1,b2,b3,b4⟩
      dsimp only
      by_cases hge:of≥ht+1
      · rw[if_pos hge]
        exact AF ⟨rfl,la,of,rfl,b1,b3,b4,.inl hge⟩
      · rw[if_neg hge]
        refine Az (hf _ (by omega) _ ?_)
        dsimp only
        cases hm:p (ht-of) with
        | true =>
          rw[if_pos rfl]
          exact AF ⟨rfl,la,of,rfl,b1,b3,b4,.inr ⟨by omega,hm⟩⟩
        | false =>
          rw[if_neg (by simp)]
          exact AF ⟨rfl,of,2*of+1,rfl,by omega,by omega,by omega,hm⟩
    case post =>
      rintro c st' ⟨rfl,la,of,rfl,b1,b3,b4,b5⟩
      have h1:(ht+1-min of (ht+1))<=(ht-la):=by omega
      have h2:(ht-la)<=n:=by omega
      have h3:∀i,i<(ht+1-min of (ht+1))->p i=true:=λi hi=>by
        rcases b5 with b5 | ⟨b5,b6⟩
        · omega
        · exact hp i (ht-of) (by omega) (by omega) b6
      have h4:∀i,(ht-la)<=i->i<n->p i=false:=λi hi hn=>by
        cases hpi:p i with
        | false=>rfl
        | true=>rw[hp (ht-la) i hi hn hpi] at b4;cases b4
      dsimp only
      refine Az (Cg (Bx (I:=λx c st'=>st=st'/\∃lo hi,c=(none,lo,hi)/\lo<=hi/\hi<=n/\hi-lo<=n-x/\(∀i,i<lo->p i=true)/\(∀i,hi<=i->i<n->p i=false))
        (Q:=λc st'=>st=st'/\∃k,c=(none,k,k)/\k<=n/\(∀i,i<k->p i=true)/\(∀i,k<=i->i<n->p i=false)) ?step ?fin ⟨rfl,(ht+1-min of (ht+1)),(ht-la),rfl,h1,h2,by omega,h3,h4⟩) ?post)
      case fin =>
        rintro c st' ⟨rfl,lo,hi,rfl,a1,a2,a3,a4,a5⟩
        have e:lo=hi:=by omega
        subst e
        exact ⟨rfl,lo,rfl,a2,a4,a5⟩
      case post =>
        rintro c st' ⟨rfl,k,rfl,a2,a4,a5⟩
        exact AF (h k a2 a4 a5)
      case step =>
        rintro x c st' _ hx ⟨rfl,lo,hi,rfl,a1,a2,a3,a4,a5⟩
        dsimp only
        by_cases hge:lo≥hi
        · rw[if_pos hge]
          have e:lo=hi:=by omega
          subst e
          exact AF ⟨rfl,lo,rfl,a2,a4,a5⟩
        · rw[if_neg hge]
          refine Az (hf _ (by omega) _ ?_)
          dsimp only
          cases hm:p (lo+(hi-lo)/2) with
          | true =>
            rw[if_pos rfl]
            exact AF ⟨rfl,_,_,rfl,by omega,a2,by omega,λi hi'=>hp i _ (by omega) (by omega) hm,a5⟩
          | false =>
            rw[if_neg (by simp)]
            refine AF ⟨rfl,_,_,rfl,by omega,by omega,by omega,a4,λi hi' hn =>?_⟩
            cases hpi:p i with
            | false=>rfl
            | true=>rw[hp _ i hi' hn hpi] at hm;cases hm
end
open PySem PyProof.Rows
structure Cmp (prog:Au)(w:AX)(A:A7)(s:Ag)(O:Ee)(key:AD->O.α)(U:AD->Prop)(κ:SortKind):Prop where
 lt:∀(E:Ae->Ag->Prop) (st:A0) (x y:AD) (Q:Option Bool->A0->Prop),kindOf st=κ -> U x->U y->Q (some (O.blt (key x) (key y))) st->wpS (AQ prog w) A E s (lt' x y) Q st
section
variable  {prog:Au}{w:AX}{A:A7}{E:Ae->Ag->Prop}{s:Ag}{O:Ee}{key:AD->O.α}{U:AD->Prop}{κ:SortKind}
theorem bh {ar:Array AD}{i:Nat}{z:AD}{st:A0}{Q:AD->A0->Prop}(h:ar[i]? = some z)(hq:Q z st):wpS (AQ prog w) A E s (elem' ar i) Q st:=by
 rw[elem'_eq,h]
 exact AF hq
theorem yx (C:Cmp prog w A s O key U κ){ky:AD}{ar:Array AD}{bs n ht:Nat}{st:A0}{Q:Option Nat->A0->Prop}(g:Nat->AD)(hk:kindOf st=κ)(uk:U ky)
  (hg:∀i,i<n->ar[bs+i]? = some (g i)) (hu:∀i,i<n->U (g i)) (hs:∀i j,i<=j->j<n->O.kle (key (g i)) (key (g j))) (hh:ht<n)
  (h:∀k,k<=n->(∀i,i<k->O.kle (key (g i)) (key ky))->(∀i,k<=i->i<n->O.klt (key ky) (key (g i)))->Q (some k) st):wpS (AQ prog w) A E s (gal false ky ar bs n ht) Q st:=by
 refine ux (λi => !O.blt (key ky) (key (g i))) (λi hi R hr =>?_) (λi j hij hj hp =>?_) hh (λk hk' h1 h2=>h k hk' (λi hi =>?_) λi hi hn =>?_)
 ·refine Az (bh (hg i hi) ?_)
  rw[if_neg (by simp)]
  exact Az (C.lt _ st ky (g i) _ hk uk (hu i hi) (AF hr))
 ·have a1:O.blt (key ky) (key (g j))=false:=by simpa using hp
  have a2:O.kle (key (g i)) (key ky):=A6 (hs i j hij hj) a1
  have a3:O.blt (key ky) (key (g i))=false:=a2
  simp[a3]
 ·have a1:=h1 i hi
  exact (by simpa using a1:O.blt (key ky) (key (g i))=false)
 ·have a1:=h2 i hi hn
  exact (by simpa using a1:O.blt (key ky) (key (g i))=true)
theorem yy (C:Cmp prog w A s O key U κ){ky:AD}{ar:Array AD}{bs n ht:Nat}{st:A0}{Q:Option Nat->A0->Prop}(g:Nat->AD)(hk:kindOf st=κ)(uk:U ky)
  (hg:∀i,i<n->ar[bs+i]? = some (g i)) (hu:∀i,i<n->U (g i)) (hs:∀i j,i<=j->j<n->O.kle (key (g i)) (key (g j))) (hh:ht<n)
  (h:∀k,k<=n->(∀i,i<k->O.klt (key (g i)) (key ky))->(∀i,k<=i->i<n->O.kle (key ky) (key (g i)))->Q (some k) st):wpS (AQ prog w) A E s (gal true ky ar bs n ht) Q st:=by
 refine ux (λi=>O.blt (key (g i)) (key ky)) (λi hi R hr =>?_) (λi j hij hj hp =>?_) hh (λk hk' h1 h2=>h k hk' (λi hi=>h1 i hi) λi hi hn=>h2 i hi hn)
 ·refine Az (bh (hg i hi) ?_)
  rw[if_pos rfl]
  exact C.lt _ st (g i) ky _ hk (hu i hi) uk hr
 ·exact KeyOrd.klt_of_kle_of_klt (hs i j hij hj) hp
end
open PySem PyProof.Rows
section
variable  {O:Ee}(key:AD->O.α)
def Le (p q:AD):Prop:=O.kle (key p) (key q)
structure MW (a b o:Array AD)(x y:Nat):Prop where
 hx:x<=a.size
 hy:y<=b.size
 perm:(o.toList++(a.toList.drop x++b.toList.drop y)).Perm (a.toList++b.toList)
 sorted:o.toList.Pairwise (Le key)
 below:∀p∈o.toList,∀z∈a.toList.drop x++b.toList.drop y,Le key p z
def dO (a b r:Array AD):Prop:=r.toList.Perm (a.toList++b.toList)/\r.toList.Pairwise (Le key)
variable  {key}
theorem MW.fin {a b o:Array AD}{x y:Nat}(m:MW key a b o x y){t:List AD}{r:Array AD}(hr:r.toList=o.toList++t)(ht:t.Perm (a.toList.drop x++b.toList.drop y))(hs:t.Pairwise (Le key)):dO key a b r:=by
 unfold dO
 rw[hr]
 exact ⟨(BZ _ ht).trans m.perm,BI.mpr ⟨m.sorted,hs,λp hp q hq=>m.below p hp q (ht.mem_iff.mp hq)⟩⟩
theorem MW.take {a b o:Array AD}{x y x' y':Nat}(m:MW key a b o x y){t:List AD}{r:Array AD}(hr:r.toList=o.toList++t)(hx:x'<=a.size)(hy:y'<=b.size)
  (ht:(t++(a.toList.drop x'++b.toList.drop y')).Perm (a.toList.drop x++b.toList.drop y)) (hs:t.Pairwise (Le key)) (hb:∀p∈t,∀z∈a.toList.drop x'++b.toList.drop y',Le key p z):MW key a b r x' y':=by
 have sub:∀z,z∈t\/z∈a.toList.drop x'++b.toList.drop y'->z∈a.toList.drop x++b.toList.drop y:=λz hz=>ht.mem_iff.mp (Ax.mpr hz)
 refine ⟨hx,hy,?_,?_,?_⟩
 ·rw[hr,A9]
  exact (BZ _ ht).trans m.perm
 ·rw[hr]
  exact BI.mpr ⟨m.sorted,hs,λp hp q hq=>m.below p hp q (sub q (.inl hq))⟩
 ·rw[hr]
  intro p hp z hz
  rcases Ax.mp hp with h | h
  ·exact m.below p h z (sub z (.inr hz))
  ·exact hb p h z hz
theorem drop_cons {α:Type}{l:List α}{i:Nat}{z:α}(h:l[i]? = some z):l.drop i=z :: l.drop (i+1):=by
 obtain ⟨hi,e⟩:=Al.mp h
 rw[List.drop_eq_getElem_cons hi,e]
theorem drop_take {α:Type}(l:List α)(i k:Nat):l.drop i=(l.drop i).take k++l.drop (i+k):=by
 rw[<- HH,Ci]
theorem aI {a:Array AD}{i:Nat}{z:AD}(h:a[i]? = some z):a.toList[i]? = some z:=by rw[Aq];exact h
theorem MW.i6 {a b o:Array AD}{x y:Nat}{z:AD}(m:MW key a b o x y)(h:a[x]? = some z)(ha:a.toList.Pairwise (Le key))(hb:∀t∈b.toList.drop y,Le key z t):MW key a b (o.push z) (x+1) y:=by
 have e:=drop_cons (aI h)
 have hx:x<a.size:=(Cc.mp h).1
 have pa:(z :: a.toList.drop (x+1)).Pairwise (Le key):=by rw[<- e];exact ha.sublist (Bs _ _)
 refine m.take (t:=[z]) (by rw[BX]) hx m.hy (by rw[e];exact CS _) (Cs _ _) λp hp t ht =>?_
 have ep:p=z:=by simpa using hp
 subst ep
 rcases Ax.mp ht with q | q
 ·exact (CK.mp pa).1 t q
 ·exact hb t q
theorem MW.lA {a b o:Array AD}{x y:Nat}{z:AD}(m:MW key a b o x y)(h:b[y]? = some z)(hb:b.toList.Pairwise (Le key))(ha:∀t∈a.toList.drop x,Le key z t):MW key a b (o.push z) x (y+1):=by
 have e:=drop_cons (aI h)
 have hy:y<b.size:=(Cc.mp h).1
 have pb:(z :: b.toList.drop (y+1)).Pairwise (Le key):=by rw[<- e];exact hb.sublist (Bs _ _)
 refine m.take (t:=[z]) (by rw[BX]) m.hx hy (by rw[e,List.singleton_append];exact Hg.symm) (Cs _ _) λp hp t ht =>?_
 have ep:p=z:=by simpa using hp
 subst ep
 rcases Ax.mp ht with q | q
 ·exact ha t q
 ·exact (CK.mp pb).1 t q
theorem ext_toList (a:Array AD)(x k:Nat):(a.extract x (x+k)).toList=(a.toList.drop x).take k:=by
 rw[BU,Bq,C2]
theorem fX (a:Array AD)(x:Nat):(a.extract x a.size).toList=a.toList.drop x:=by
 rw[BU,Bq]
 exact AA (by rw[B8,Ak];exact Ah _)
theorem aK {l:List AD}(h:l.Pairwise (Le key)){i j:Nat}{p q:AD}(hi:l[i]? = some p)(hj:l[j]? = some q)(hij:i<=j):Le key p q:=by
 by_cases e:i=j
 ·subst e
  rw[hi] at hj
  cases hj
  exact B0 _
 ·obtain ⟨h1,e1⟩:=Al.mp hi
  obtain ⟨h2,e2⟩:=Al.mp hj
  have:=Du.mp h i j h1 h2 (by omega)
  rw[e1,e2] at this
  exact this
theorem bg {l:List AD}{i:Nat}{t:AD}(h:t∈l.drop i):∃j,i<=j/\l[j]? = some t:=by
 obtain ⟨n,e⟩:=A3.mp h
 rw[Dc] at e
 exact ⟨i+n,by omega,e⟩
theorem i7 {l:List AD}{i k:Nat}{t:AD}(h:t∈(l.drop i).take k):∃j,j<k/\l[i+j]? = some t:=by
 obtain ⟨n,e⟩:=A3.mp h
 rw[BK] at e
 split at e
 ·rw[Dc] at e
  exact ⟨n,by omega,e⟩
 ·cases e
theorem MW.uz {a b o:Array AD}{x y k:Nat}(m:MW key a b o x y)(hk:x+k<=a.size)(ha:a.toList.Pairwise (Le key))(hb:∀j p,j<k->a.toList[x+j]? = some p->∀t∈b.toList.drop y,Le key p t):MW key a b (o++a.extract x (x+k)) (x+k) y:=by
 refine m.take (t:=(a.toList.drop x).take k) (by rw[A2,ext_toList]) hk m.hy ?_ ?_ λp hp t ht =>?_
 ·rw[<- A9, <- drop_take]
 ·exact ha.sublist ((BE _ _).trans (Bs _ _))
 ·obtain ⟨j,hj,e⟩:=i7 hp
  rcases Ax.mp ht with q | q
  ·obtain ⟨i,hi,e2⟩:=bg q
   exact aK ha e e2 (by omega)
  ·exact hb j p hj e t q
theorem MW.uA {a b o:Array AD}{x y k:Nat}(m:MW key a b o x y)(hk:y+k<=b.size)(hb:b.toList.Pairwise (Le key))(ha:∀j p,j<k->b.toList[y+j]? = some p->∀t∈a.toList.drop x,Le key p t):MW key a b (o++b.extract y (y+k)) x (y+k):=by
 refine m.take (t:=(b.toList.drop y).take k) (by rw[A2,ext_toList]) m.hx hk ?_ ?_ λp hp t ht =>?_
 ·rw[drop_take b.toList y k]
  have e:((b.toList.drop y).take k++b.toList.drop (y+k)).take k=(b.toList.drop y).take k:=by rw[<- drop_take]
  rw[e]
  refine (List.perm_append_comm_assoc _ _ _)
 ·exact hb.sublist ((BE _ _).trans (Bs _ _))
 ·obtain ⟨j,hj,e⟩:=i7 hp
  rcases Ax.mp ht with q | q
  ·exact ha j p hj e t q
  ·obtain ⟨i,hi,e2⟩:=bg q
   exact aK hb e e2 (by omega)
theorem MW.r9 {a b o:Array AD}{x y:Nat}(m:MW key a b o x y)(ha:a.toList.Pairwise (Le key))(hy:y=b.size):dO key a b (o++a.extract x a.size++b.extract y b.size):=by
 subst hy
 have e:b.toList.drop b.size=[]:=Ft (by rw[Ak];exact Ah _)
 refine m.fin (t:=a.toList.drop x) (by rw[A2,A2,fX,fX,e,AZ]) (by rw[e,AZ]) (ha.sublist (Bs _ _))
theorem MW.sd {a b o:Array AD}{x y:Nat}(m:MW key a b o x y)(hb:b.toList.Pairwise (Le key))(hx:x=a.size):dO key a b (o++a.extract x a.size++b.extract y b.size):=by
 subst hx
 have e:a.toList.drop a.size=[]:=Ft (by rw[Ak];exact Ah _)
 refine m.fin (t:=b.toList.drop y) (by rw[A2,A2,fX,fX,e,AZ]) (by rw[e,Em]) (hb.sublist (Bs _ _))
theorem MW.last {a b o:Array AD}{x y:Nat}(m:MW key a b o x y)(ha:a.toList.Pairwise (Le key))(hb:b.toList.Pairwise (Le key))(hx:x+1=a.size)(hl:∀p q,p∈b.toList->a[a.size-1]? = some q->Le key p q):dO key a b (o++b.extract y b.size++a.extract x a.size):=by
 refine m.fin (t:=b.toList.drop y++a.toList.drop x) (by rw[A2,A2,fX,fX,A9]) Dh ?_
 refine BI.mpr ⟨hb.sublist (Bs _ _),ha.sublist (Bs _ _),λp hp q hq=>hl p q (CT hp) ?_⟩
 obtain ⟨i,hi,e⟩:=bg hq
 rw[Aq] at e
 have hi2:i<a.size:=(Cc.mp e).1
 rw[show a.size-1=i by omega]
 exact e
theorem MW.size {a b o:Array AD}{x y:Nat}(m:MW key a b o x y):o.size+(a.size-x)+(b.size-y)=a.size+b.size:=by
 have e:=m.perm.length_eq
 simp only[Am,B8,Ak] at e
 omega
end
structure Sm (st st':A0):Prop where
 k:kindOf st'=kindOf st
 a:AK st'=AK st
 p:AW st'=AW st
 f:failedOf st'=failedOf st
theorem Sm.refl (st:A0):Sm st st:=⟨rfl,rfl,rfl,rfl⟩
theorem Sm.mg {st st':A0}(h:Sm st st')(n:Nat):Sm st (SortSt.mk' (kindOf st') (AK st') (AW st') n (failedOf st')):=⟨h.k,h.a,h.p,h.f⟩
open PySem PyProof.Rows
section
variable  {prog:Au}{w:AX}{A:A7}{E:Ae->Ag->Prop}{s:Ag}{O:Ee}{key:AD->O.α}{U:AD->Prop}{κ:SortKind}
theorem bo {a:Array AD}{i:Nat}(h:i<a.size):∃z,a[i]? = some z:=⟨a[i],by simp[h]⟩
theorem bP {a:Array AD}{i:Nat}{z:AD}(h:a[i]? = some z):z∈a.toList:=A3.mpr ⟨i,by rw[Aq];exact h⟩
theorem ltq {x n:Nat}(h:x<=n)(c:¬ (x == n)=true):x<n:=Gv h λz=>c (beq_iff_eq.mpr z)
abbrev LoC:=Option (Array AD)×Array AD×Nat×Nat×Nat×Nat×Nat
def we (a b o:Array AD)(x y mg ac bc:Nat):StateT A0 Sem (ForInStep LoC):=do
  let z ← elem' a x
  if (x+1+1 == a.size)=true then pure (.done (some (o.push z++b.extract y b.size++a.extract (x+1) a.size),o.push z,x+1,y,mg,ac,bc))
  else if (decide (ac<7) && decide (bc<7))=true then pure (.done (none,o.push z,x+1,y,mg,ac,bc))
  else pure (.yield (none,o.push z,x+1,y,mg,ac,bc))
def wg (a b o:Array AD)(x y mg ac bc:Nat):StateT A0 Sem (ForInStep LoC):=do
  let z ← elem' b y
  if (y+1 == b.size)=true then pure (.done (some (o.push z++a.extract x a.size++b.extract (y+1) b.size),o.push z,x,y+1,mg,ac,bc))
  else do
    let z2 ← elem' a x
    let __x ← gal true z2 b (y+1) (b.size-(y+1)) 0
    match __x with
    | some k =>
      if k>0 then
        if (y+1+k == b.size)=true then pure (.done (some (o.push z++b.extract (y+1) (y+1+k)++a.extract x a.size++b.extract (y+1+k) b.size),o.push z++b.extract (y+1) (y+1+k),x,y+1+k,mg,ac,k))
        else we a b (o.push z++b.extract (y+1) (y+1+k)) x (y+1+k) mg ac k
      else we a b (o.push z) x (y+1) mg ac k
    | _=>pure (.done (some (o.push z++a.extract x a.size++b.extract (y+1) b.size),o.push z,x,y+1,mg,ac,bc))
def si (a b p:Array AD)(x y ac bc mg:Nat):StateT A0 Sem (ForInStep LoC):=do
  modify (λs=>SortSt.mk' (kindOf s) (AK s) (AW s) mg (failedOf s))
  let z ← elem' b y
  let __x ← gal false z a x (a.size-x) 0
  match __x with
  | some k =>
    if k>0 then
      if (x+k+1 == a.size)=true then pure (.done (some (p++a.extract x (x+k)++b.extract y b.size++a.extract (x+k) a.size),p++a.extract x (x+k),x+k,y,mg,k,bc))
      else if (x+k == a.size)=true then pure (.done (some (p++a.extract x (x+k)++a.extract (x+k) a.size++b.extract y b.size),p++a.extract x (x+k),x+k,y,mg,k,bc))
      else wg a b (p++a.extract x (x+k)) (x+k) y mg k bc
    else wg a b p x y mg k bc
  | _=>pure (.done (some (p++a.extract x a.size++b.extract y b.size),p,x,y,mg,ac,bc))
def LoQ (key:AD->O.α)(a b:Array AD)(st:A0)(n:Nat)(r:ForInStep LoC)(st':A0):Prop:=match r with
 | .done c=>Sm st st'/\((∃r p x y mg ac bc,c=(some r,p,x,y,mg,ac,bc)/\dO key a b r)\/∃p x y mg ac bc,c=(none,p,x,y,mg,ac,bc)/\MW key a b p x y/\x+1<a.size/\y<b.size/\n<=p.size)
 | .yield c=>Sm st st'/\∃p x y mg ac bc,c=(none,p,x,y,mg,ac,bc)/\MW key a b p x y/\x+1<a.size/\y<b.size/\n<=p.size
theorem LoQ.out {a b:Array AD}{st st':A0}{n:Nat}{r:Array AD}{c:Array AD×Nat×Nat×Nat×Nat×Nat}(sm:Sm st st')(f:dO key a b r):LoQ key a b st n (.done (some r,c)) st':=by
 obtain ⟨p,x,y,mg,ac,bc⟩:=c
 exact ⟨sm,.inl ⟨_,_,_,_,_,_,_,rfl,f⟩⟩
theorem qN {a b:Array AD}{st st':A0}(ha:a.toList.Pairwise (Le key))(hb:b.toList.Pairwise (Le key))(hl:∀p q,p∈b.toList->a[a.size-1]? = some q->Le key p q)
  {o:Array AD} {x y mg ac bc n:Nat} {za:AD} (sm:Sm st st') (ea:a[x]? = some za) (m4:MW key a b (o.push za) (x+1) y) (hx:x+1<a.size) (hy:y<b.size) (hn:n<=o.size):wpS (AQ prog w) A E s (we a b o x y mg ac bc) (LoQ key a b st n) st':=by
 unfold we
 refine Az (bh ea ?_)
 by_cases d5:(x+1+1 == a.size)=true
 ·rw[if_pos d5]
  exact AF (LoQ.out sm (m4.last ha hb (beq_iff_eq.mp d5) hl))
 rw[if_neg d5]
 have hx2:x+1+1<a.size:=ltq hx d5
 have hn':n<=(o.push za).size:=by rw[CB];exact Dq hn
 split
 ·exact AF ⟨sm,.inr ⟨_,_,_,_,_,_,rfl,m4,hx2,hy,hn'⟩⟩
 ·exact AF ⟨sm,_,_,_,_,_,_,rfl,m4,hx2,hy,hn'⟩
theorem qO (C:Cmp prog w A s O key U κ){a b:Array AD}{st st':A0}(hκ:kindOf st=κ)(ua:∀p∈a.toList,U p)(ub:∀p∈b.toList,U p)
  (ha:a.toList.Pairwise (Le key)) (hb:b.toList.Pairwise (Le key)) (hl:∀p q,p∈b.toList->a[a.size-1]? = some q->Le key p q)
  {o:Array AD} {x y mg ac bc n:Nat} {zb:AD} (sm:Sm st st') (eb:b[y]? = some zb) (mk:MW key a b o x y) (bl:∀t∈a.toList.drop x,Le key zb t) (hx1:x+1<a.size) (hy:y<b.size) (hn:n<=o.size):wpS (AQ prog w) A E s (wg a b o x y mg ac bc) (LoQ key a b st n) st':=by
 unfold wg
 refine Az (bh eb ?_)
 have m2:=mk.lA eb hb bl
 by_cases d3:(y+1 == b.size)=true
 ·rw[if_pos d3]
  exact AF (LoQ.out sm (m2.r9 ha (beq_iff_eq.mp d3)))
 rw[if_neg d3]
 have hy1:y+1<b.size:=ltq hy d3
 have hxa:x<a.size:=ER hx1
 obtain ⟨za,ea⟩:=bo hxa
 refine Az (bh ea ?_)
 refine Az (yy C (λi=>(b[y+1+i]?).getD za) (sm.k.trans hκ) (ua _ (bP ea)) (λi hi =>?_) (λi hi =>?_) (λi j hij hj =>?_) (GN hy1) λk1 hk1 g1 g2 =>?_)
 ·obtain ⟨z,e⟩:=bo (show y+1+i<b.size by omega)
  rw[e];rfl
 ·obtain ⟨z,e⟩:=bo (show y+1+i<b.size by omega)
  rw[e];exact ub _ (bP e)
 ·obtain ⟨z,e⟩:=bo (show y+1+i<b.size by omega)
  obtain ⟨z',e'⟩:=bo (show y+1+j<b.size by omega)
  rw[e,e'];exact aK hb (aI e) (aI e') (CA hij _)
 dsimp only at g1 g2 ⊢
 have tb:∀j q,j<k1->b.toList[y+1+j]? = some q->∀t∈a.toList.drop x,Le key q t:=λj q hj e t ht=>by
  have z:=g1 j hj
  rw[Aq] at e
  rw[e] at z
  obtain ⟨n,hn,e2⟩:=bg ht
  exact A6 (BF z) (aK ha (aI ea) e2 hn)
 have hk1':y+1+k1<=b.size:=by omega
 have m3:=m2.uA (k:=k1) hk1' hb tb
 have bl2:∀t∈b.toList.drop (y+1+k1),Le key za t:=λt ht=>by
  obtain ⟨n,hn,e2⟩:=bg ht
  rw[Aq] at e2
  have hn2:n<b.size:=(Cc.mp e2).1
  have z:=g2 (n-(y+1)) (by omega) (by omega)
  rw[show y+1+(n-(y+1))=n by omega,e2] at z
  exact z
 have hn1:n<=(o.push zb).size:=by rw[CB];exact Dq hn
 by_cases k2:k1>0
 ·rw[if_pos k2]
  by_cases d4:(y+1+k1 == b.size)=true
  ·rw[if_pos d4]
   exact AF (LoQ.out sm (m3.r9 ha (beq_iff_eq.mp d4)))
  rw[if_neg d4]
  exact qN ha hb hl sm ea (m3.i6 ea ha bl2) hx1 (ltq hk1' d4) (A8 hn1 (by rw[CW];exact Co _ _))
 ·rw[if_neg k2]
  obtain rfl:k1=0:=C7 k2
  exact qN ha hb hl sm ea (m2.i6 ea ha bl2) hx1 hy1 hn1
theorem qP (C:Cmp prog w A s O key U κ){a b:Array AD}{st st':A0}(hκ:kindOf st=κ)(ua:∀p∈a.toList,U p)(ub:∀p∈b.toList,U p)
  (ha:a.toList.Pairwise (Le key)) (hb:b.toList.Pairwise (Le key)) (hl:∀p q,p∈b.toList->a[a.size-1]? = some q->Le key p q)
  {p:Array AD} {x y ac bc n:Nat} (mg:Nat) (sm:Sm st st') (m:MW key a b p x y) (hx:x+1<a.size) (hy:y<b.size) (hn:n<=p.size):wpS (AQ prog w) A E s (si a b p x y ac bc mg) (LoQ key a b st n) st':=by
 unfold si
 obtain ⟨zb,eb⟩:=bo hy
 refine Az (Cw ?_)
 refine Az (bh eb ?_)
 refine Az (yx C (λi=>(a[x+i]?).getD zb) ((sm.mg _).k.trans hκ) (ub _ (bP eb)) (λi hi =>?_) (λi hi =>?_) (λi j hij hj =>?_) (GN (ER hx)) λk hk h1 h2 =>?_)
 ·obtain ⟨z,e⟩:=bo (show x+i<a.size by omega)
  rw[e];rfl
 ·obtain ⟨z,e⟩:=bo (show x+i<a.size by omega)
  rw[e];exact ua _ (bP e)
 ·obtain ⟨z,e⟩:=bo (show x+i<a.size by omega)
  obtain ⟨z',e'⟩:=bo (show x+j<a.size by omega)
  rw[e,e'];exact aK ha (aI e) (aI e') (CA hij _)
 dsimp only at h1 h2 ⊢
 have ta:∀j q,j<k->a.toList[x+j]? = some q->∀t∈b.toList.drop y,Le key q t:=λj q hj e t ht=>by
  have z:=h1 j hj
  rw[Aq] at e
  rw[e] at z
  obtain ⟨n,hn,e2⟩:=bg ht
  exact A6 (show O.kle (key q) (key zb) from z) (aK hb (aI eb) e2 hn)
 have hk':x+k<=a.size:=by omega
 have mk:=m.uz (k:=k) hk' ha ta
 have bl:∀t∈a.toList.drop (x+k),Le key zb t:=λt ht=>by
  obtain ⟨n,hn,e2⟩:=bg ht
  rw[Aq] at e2
  have hn2:n<a.size:=(Cc.mp e2).1
  have z:=h2 (n-x) (by omega) (by omega)
  rw[show x+(n-x)=n by omega,e2] at z
  exact BF z
 by_cases k0:k>0
 ·rw[if_pos k0]
  by_cases d1:(x+k+1 == a.size)=true
  ·rw[if_pos d1]
   exact AF (LoQ.out (sm.mg _) (mk.last ha hb (beq_iff_eq.mp d1) hl))
  rw[if_neg d1]
  by_cases d2:(x+k == a.size)=true
  ·rw[if_pos d2]
   exact AF (LoQ.out (sm.mg _) (mk.sd hb (beq_iff_eq.mp d2)))
  rw[if_neg d2]
  exact qO C hκ ua ub ha hb hl (sm.mg _) eb mk bl (ltq (ltq hk' d2) d1) hy (A8 hn (by rw[CW];exact Co _ _))
 ·rw[if_neg k0]
  obtain rfl:k=0:=C7 k0
  exact qO C hκ ua ub ha hb hl (sm.mg _) eb m bl hx hy hn
theorem wj (C:Cmp prog w A s O key U κ){a b:Array AD}{st st':A0}(hκ:kindOf st=κ)(ua:∀p∈a.toList,U p)(ub:∀p∈b.toList,U p)
  (ha:a.toList.Pairwise (Le key)) (hb:b.toList.Pairwise (Le key)) (hl:∀p q,p∈b.toList->a[a.size-1]? = some q->Le key p q)
  {p:Array AD} {x y ac bc n mg:Nat} (sm:Sm st st') (m:MW key a b p x y) (hx:x+1<a.size) (hy:y<b.size) (hn:n<=p.size):wpS (AQ prog w) A E s (if mg>1 then si a b p x y ac bc (mg-1) else si a b p x y ac bc mg) (LoQ key a b st n) st':=by
 split
 ·exact qP C hκ ua ub ha hb hl (mg-1) sm m hx hy hn
 ·exact qP C hκ ua ub ha hb hl mg sm m hx hy hn
abbrev LoD:=Option (Array AD)×Array AD×Nat×Nat×Nat×Nat
abbrev LoE:=Option (Array AD)×Array AD×Nat×Nat×Nat
def uB (a b:Array AD)(mg:Nat)(c:LoD):StateT A0 Sem (ForInStep LoD):=do
  let u ← elem' b c.2.2.2.1
  let v ← elem' a c.2.2.1
  let __x ← lt' u v
  match __x with
  | some bw =>
    if bw=true then do
      let z ← elem' b c.2.2.2.1
      if (c.2.2.2.1+1 == b.size)=true then pure (.done (some (c.2.1.push z++a.extract c.2.2.1 a.size++b.extract (c.2.2.2.1+1) b.size),c.2.1.push z,c.2.2.1,c.2.2.2.1+1,0,c.2.2.2.2.2+1))
      else if c.2.2.2.2.2+1≥mg then pure (.done (none,c.2.1.push z,c.2.2.1,c.2.2.2.1+1,0,c.2.2.2.2.2+1))
      else pure (.yield (none,c.2.1.push z,c.2.2.1,c.2.2.2.1+1,0,c.2.2.2.2.2+1))
    else do
      let z ← elem' a c.2.2.1
      if (c.2.2.1+1+1 == a.size)=true then pure (.done (some (c.2.1.push z++b.extract c.2.2.2.1 b.size++a.extract (c.2.2.1+1) a.size),c.2.1.push z,c.2.2.1+1,c.2.2.2.1,c.2.2.2.2.1+1,0))
      else if c.2.2.2.2.1+1≥mg then pure (.done (none,c.2.1.push z,c.2.2.1+1,c.2.2.2.1,c.2.2.2.2.1+1,0))
      else pure (.yield (none,c.2.1.push z,c.2.2.1+1,c.2.2.2.1,c.2.2.2.2.1+1,0))
  | _=>pure (.done (some (c.2.1++a.extract c.2.2.1 a.size++b.extract c.2.2.2.1 b.size),c.2.1,c.2.2.1,c.2.2.2.1,c.2.2.2.2.1,c.2.2.2.2.2))
def yz (a b:Array AD)(c:LoC):StateT A0 Sem (ForInStep LoC) :=
 if c.2.2.2.2.1>1 then si a b c.2.1 c.2.2.1 c.2.2.2.1 c.2.2.2.2.2.1 c.2.2.2.2.2.2 (c.2.2.2.2.1-1) else si a b c.2.1 c.2.2.1 c.2.2.2.1 c.2.2.2.2.2.1 c.2.2.2.2.2.2 c.2.2.2.2.1
def pL (a b:Array AD)(c:LoE):StateT A0 Sem (ForInStep LoE):=do
  let d ← forIn [0:a.size+b.size] ((none,c.2.1,c.2.2.1,c.2.2.2.1,0,0):LoD) λ_ d=>uB a b c.2.2.2.2 d
  match d.1 with
  | some r=>pure (.done (some r,d.2.1,d.2.2.1,d.2.2.2.1,c.2.2.2.2))
  | none=>do
    rule "list.sort.gallop"
    let e ← forIn [0:a.size+b.size] ((none,d.2.1,d.2.2.1,d.2.2.2.1,c.2.2.2.2+1,d.2.2.2.2.1,d.2.2.2.2.2):LoC) λ_ e=>yz a b e
    match e.1 with
    | some r=>pure (.done (some r,e.2.1,e.2.2.1,e.2.2.2.1,e.2.2.2.2.1))
    | none=>do
      modify (λs=>SortSt.mk' (kindOf s) (AK s) (AW s) (e.2.2.2.2.1+1) (failedOf s))
      pure (.yield (none,e.2.1,e.2.2.1,e.2.2.2.1,e.2.2.2.2.1+1))
theorem wk (a b:Array AD):mLo a b=(do
    rule "list.sort.merge-lo"
    let z ← elem' b 0
    if (1 == b.size)=true then pure (#[z]++a.extract 0 a.size++b.extract 1 b.size)
    else if (0+1 == a.size)=true then pure (#[z]++b.extract 1 b.size++a.extract 0 a.size)
    else do
      let g ← get
      let c ← forIn [0:a.size+b.size] ((none, #[z],0,1,gallopOf g):LoE) λ_ c=>pL a b c
      match c.1 with
      | some r=>pure r
      | none=>unsupported "internal:list.sort.merge-bound"):=by
  kernel_rfl
def LdI (key:AD->O.α)(a b:Array AD)(st:A0)(n:Nat)(c:LoD)(st':A0):Prop:=Sm st st'/\∃o' x y ac bc,c=(none,o',x,y,ac,bc)/\MW key a b o' x y/\x+1<a.size/\y<b.size/\n<=o'.size
def LdQ (key:AD->O.α)(a b:Array AD)(st:A0)(n:Nat)(c:LoD)(st':A0):Prop:=Sm st st'/\((∃r o x y ac bc,c=(some r,o,x,y,ac,bc)/\dO key a b r)\/∃o' x y ac bc,c=(none,o',x,y,ac,bc)/\MW key a b o' x y/\x+1<a.size/\y<b.size/\n<=o'.size)
theorem uC (C:Cmp prog w A s O key U κ){a b:Array AD}{st st':A0}(hκ:kindOf st=κ)(ua:∀p∈a.toList,U p)(ub:∀p∈b.toList,U p)
  (ha:a.toList.Pairwise (Le key)) (hb:b.toList.Pairwise (Le key)) (hl:∀p q,p∈b.toList->a[a.size-1]? = some q->Le key p q)
  {mg n m':Nat} {c:LoD} (I:LdI key a b st n c st') (hm:m'<=n+1) {Q:ForInStep LoD->A0->Prop} (h:∀r st',(match r with | .done c'=>LdQ key a b st (n+1) c' st' | .yield c'=>LdI key a b st m' c' st')->Q r st'):wpS (AQ prog w) A E s (uB a b mg c) Q st':=by
 obtain ⟨sm2,o',x,y,ac,bc,rfl,m,hx,hy,hz⟩:=I
 unfold uB
 obtain ⟨za,ea⟩:=bo (ER hx)
 obtain ⟨zb,eb⟩:=bo hy
 refine Az (bh eb (Az (bh ea (Az (C.lt _ st' zb za _ (sm2.k.trans hκ) (ub _ (bP eb)) (ua _ (bP ea)) ?_)))))
 dsimp only
 have sz:∀z,n+1<=(o'.push z).size:=λz=>by rw[CB];exact Hh hz
 cases hlt:O.blt (key zb) (key za) with
 | true =>
  rw[if_pos rfl]
  refine Az (bh eb ?_)
  have m1:=m.lA eb hb λt ht=>by
   obtain ⟨n,hn,e⟩:=bg ht
   exact A6 (BF hlt) (aK ha (aI ea) e hn)
  by_cases c3:(y+1 == b.size)=true
  ·rw[if_pos c3]
   exact AF (h _ _ ⟨sm2,.inl ⟨_,_,_,_,_,_,rfl,m1.r9 ha (beq_iff_eq.mp c3)⟩⟩)
  ·rw[if_neg c3]
   have c3':=ltq hy c3
   split
   ·exact AF (h _ _ ⟨sm2,.inr ⟨_,_,_,_,_,rfl,m1,hx,c3',sz _⟩⟩)
   ·exact AF (h _ _ ⟨sm2,_,_,_,_,_,rfl,m1,hx,c3',A8 hm (sz _)⟩)
 | false =>
  rw[if_neg Ao]
  refine Az (bh ea ?_)
  have m1:=m.i6 ea ha λt ht=>by
   obtain ⟨n,hn,e⟩:=bg ht
   exact A6 (show O.kle (key za) (key zb) from hlt) (aK hb (aI eb) e hn)
  by_cases c3:(x+1+1 == a.size)=true
  ·rw[if_pos c3]
   exact AF (h _ _ ⟨sm2,.inl ⟨_,_,_,_,_,_,rfl,m1.last ha hb (beq_iff_eq.mp c3) hl⟩⟩)
  ·rw[if_neg c3]
   have c3':=ltq hx c3
   split
   ·exact AF (h _ _ ⟨sm2,.inr ⟨_,_,_,_,_,rfl,m1,c3',hy,sz _⟩⟩)
   ·exact AF (h _ _ ⟨sm2,_,_,_,_,_,rfl,m1,c3',hy,A8 hm (sz _)⟩)
def LeI (key:AD->O.α)(a b:Array AD)(st:A0)(n:Nat)(c:LoE)(st':A0):Prop:=Sm st st'/\∃o x y mg,c=(none,o,x,y,mg)/\MW key a b o x y/\x+1<a.size/\y<b.size/\n+1<=o.size
def LeQ (key:AD->O.α)(a b:Array AD)(st:A0)(c:LoE)(st':A0):Prop:=Sm st st'/\((∃r o x y mg,c=(some r,o,x,y,mg)/\dO key a b r)\/∃o x y mg,c=(none,o,x,y,mg)/\MW key a b o x y/\x+1<a.size/\y<b.size/\a.size+b.size+1<=o.size)
theorem sj (C:Cmp prog w A s O key U κ){a b:Array AD}{st st':A0}(hκ:kindOf st=κ)(ua:∀p∈a.toList,U p)(ub:∀p∈b.toList,U p)
  (ha:a.toList.Pairwise (Le key)) (hb:b.toList.Pairwise (Le key)) (na:0<a.size) (hl:∀p q,p∈b.toList->a[a.size-1]? = some q->Le key p q)
  {n:Nat} {c:LoE} (I:LeI key a b st n c st'):wpS (AQ prog w) A E s (pL a b c) (λr st'=>match r with | .done c'=>LeQ key a b st c' st' | .yield c'=>LeI key a b st (n+1) c' st') st':=by
 obtain ⟨sm1,o,x,y,mg,rfl,m,hx,hy,hz⟩:=I
 unfold pL
 have q1:1<=a.size+b.size:=A8 na (Co _ _)
 refine Az (Cg (Bx (I:=λj c st'=>LdI key a b st (o.size+min j 1) c st') (Q:=LdQ key a b st (o.size+1)) (λj c st2 _ hj J=>uC (n:=o.size+min j 1) (m':=o.size+min (j+1) 1) C hκ ua ub ha hb hl J (by omega) λr st' k =>?_) (λc st' J =>?_) ⟨sm1,o,x,y,0,0,rfl,m,hx,hy,Ah _⟩) ?_)
 ·cases r with
  | done c'=>exact k.imp id λz=>z.imp id λ⟨o',x,y,ac,bc,e,m,hx,hy,hz⟩=>⟨o',x,y,ac,bc,e,m,hx,hy,by omega⟩
  | yield c'=>exact k
 ·obtain ⟨sm,o',x,y,ac,bc,e,m,hx,hy,hz⟩:=J
  exact ⟨sm,.inr ⟨o',x,y,ac,bc,e,m,hx,hy,by omega⟩⟩
 rintro c st2 ⟨sm2,⟨r,o',x,y,ac,bc,rfl,fr⟩ | ⟨o',x,y,ac,bc,rfl,m,hx,hy,hz2⟩⟩
 ·exact AF ⟨sm2,.inl ⟨_,_,_,_,_,rfl,fr⟩⟩
 dsimp only
 refine Az (FQ (DV ⟨rfl,?_⟩))
 refine Az (Cg (Bx (I:=λ_ c st'=>LoQ key a b st o'.size (.yield c) st') (Q:=λc st'=>LoQ key a b st o'.size (.done c) st') (λj c st3 _ hj J =>?_) (λc st' J=>⟨J.1,.inr J.2⟩) ⟨sm2,o',x,y,_,ac,bc,rfl,m,hx,hy,Ah _⟩) ?_)
 ·obtain ⟨sm3,p,x,y,mg,ac,bc,rfl,m,hx,hy,hz3⟩:=J
  refine Cg (wj C hκ ua ub ha hb hl sm3 m hx hy hz3) ?_
  intro r st' h
  cases r <;> exact h
 rintro c st3 ⟨sm3,⟨r,p,x,y,mg,ac,bc,rfl,fr⟩ | ⟨p,x,y,mg,ac,bc,rfl,m,hx,hy,hz3⟩⟩
 ·exact AF ⟨sm3,.inl ⟨_,_,_,_,_,rfl,fr⟩⟩
 ·dsimp only
  exact Az (Cw (AF ⟨sm3.mg _,p,x,y,_,rfl,m,hx,hy,by omega⟩))
theorem yA (C:Cmp prog w A s O key U κ){a b:Array AD}{st:A0}{Q:Array AD->A0->Prop}(hκ:kindOf st=κ)(ua:∀p∈a.toList,U p)(ub:∀p∈b.toList,U p)
  (ha:a.toList.Pairwise (Le key)) (hb:b.toList.Pairwise (Le key)) (na:0<a.size) (nb:0<b.size) (h0:∀p q,b[0]? = some p->a[0]? = some q->Le key p q) (hl:∀p q,p∈b.toList->a[a.size-1]? = some q->Le key p q)
  (h:∀r st',Sm st st'->dO key a b r->Q r st'):wpS (AQ prog w) A E s (mLo a b) Q st:=by
 rw[wk]
 refine Az (FQ (DV ⟨rfl,?_⟩))
 obtain ⟨b0,eb0⟩:=bo nb
 obtain ⟨a0,ea0⟩:=bo na
 have a0le:∀t∈a.toList,Le key a0 t:=λt ht=>by
  obtain ⟨i,e⟩:=A3.mp ht
  exact aK ha (aI ea0) e (A5 _)
 have m0:MW key a b #[] 0 0:=⟨A5 _,A5 _,CS _,List.Pairwise.nil,λp hp=>by cases hp⟩
 have m1:MW key a b #[b0] 0 1:=m0.lA eb0 hb λt ht=>A6 (h0 _ _ eb0 ea0) (a0le t ht)
 refine Az (bh eb0 ?_)
 by_cases c1:(1 == b.size)=true
 ·rw[if_pos c1]
  exact AF (h _ st (Sm.refl st) (m1.r9 ha (beq_iff_eq.mp c1)))
 rw[if_neg c1]
 by_cases c2:(0+1 == a.size)=true
 ·rw[if_pos c2]
  exact AF (h _ st (Sm.refl st) (m1.last ha hb (beq_iff_eq.mp c2) hl))
 rw[if_neg c2]
 refine Az (Ff ?_)
 refine Az (Cg (Bx (I:=λi c st'=>LeI key a b st i c st') (Q:=LeQ key a b st) (λi c st1 _ _ J=>Cg (sj C hκ ua ub ha hb na hl J) λr st' h=>by cases r <;> exact h) (λc st' J =>?_) ⟨Sm.refl st,_,_,_,_,rfl,m1,ltq na c2,ltq nb c1,Ah _⟩) ?_)
 ·obtain ⟨sm,o,x,y,mg,e,m,hx,hy,hz⟩:=J
  exact ⟨sm,.inr ⟨o,x,y,mg,e,m,hx,hy,by omega⟩⟩
 rintro c st' ⟨sm,⟨r,o,x,y,mg,rfl,fr⟩ | ⟨o,x,y,mg,rfl,m,hx,hy,hz⟩⟩
 ·exact AF (h r st' sm fr)
 ·have:=m.size
  omega
end
open PySem PyProof.Rows
section
variable  {O:Ee}(key:AD->O.α)
structure MV (a b o:Array AD)(x y:Nat):Prop where
 hx:x<=a.size
 hy:y<=b.size
 perm:((a.toList.take x++b.toList.take y)++o.toList.reverse).Perm (a.toList++b.toList)
 sorted:o.toList.reverse.Pairwise (Le key)
 above:∀p∈a.toList.take x++b.toList.take y,∀q∈o.toList.reverse,Le key p q
variable  {key}
theorem MV.fin {a b o:Array AD}{x y:Nat}(m:MV key a b o x y){t:List AD}{r:Array AD}(hr:r.toList=t++o.toList.reverse)(ht:t.Perm (a.toList.take x++b.toList.take y))(hs:t.Pairwise (Le key)):dO key a b r:=by
 unfold dO
 rw[hr]
 exact ⟨(CF _ ht).trans m.perm,BI.mpr ⟨hs,m.sorted,λp hp q hq=>m.above p (ht.mem_iff.mp hp) q hq⟩⟩
theorem MV.take {a b o:Array AD}{x y x' y':Nat}(m:MV key a b o x y){t:List AD}{r:Array AD}(hr:r.toList.reverse=t++o.toList.reverse)(hx:x'<=a.size)(hy:y'<=b.size)
  (ht:((a.toList.take x'++b.toList.take y')++t).Perm (a.toList.take x++b.toList.take y)) (hs:t.Pairwise (Le key)) (hb:∀p∈a.toList.take x'++b.toList.take y',∀q∈t,Le key p q):MV key a b r x' y':=by
 have sub:∀z,z∈a.toList.take x'++b.toList.take y'\/z∈t->z∈a.toList.take x++b.toList.take y:=λz hz=>ht.mem_iff.mp (Ax.mpr hz)
 refine ⟨hx,hy,?_,?_,?_⟩
 ·rw[hr, <- A9]
  exact (CF _ ht).trans m.perm
 ·rw[hr]
  exact BI.mpr ⟨hs,m.sorted,λp hp q hq=>m.above p (sub p (.inr hp)) q hq⟩
 ·rw[hr]
  intro p hp z hz
  rcases Ax.mp hz with h | h
  ·exact hb p hp z h
  ·exact m.above p (sub p (.inl hp)) z h
theorem bp {l:List AD}{k:Nat}{t:AD}(h:t∈l.take k):∃j,j<k/\l[j]? = some t:=by
 obtain ⟨n,e⟩:=A3.mp h
 rw[BK] at e
 split at e
 ·exact ⟨n,by omega,e⟩
 ·cases e
theorem lB {l:List AD}{x:Nat}{z:AD}(hx:1<=x)(h:l[x-1]? = some z):l.take x=l.take (x-1)++[z]:=by
 obtain ⟨n,rfl⟩:∃n,x=n+1:=⟨x-1,by omega⟩
 rw[Nat.add_sub_cancel] at h ⊢
 rw[Bc,h]
 rfl
theorem qQ (a:Array AD)(c x:Nat)(hx:x<=a.size):(a.extract c x).toList=(a.toList.take x).drop c:=by
 rw[BU,Bq,List.drop_take]
theorem fY (a:Array AD)(x:Nat):(a.extract 0 x).toList=a.toList.take x:=by
 rw[BU,Bq,FW,Nat.sub_zero]
theorem MV.i6 {a b o:Array AD}{x y:Nat}{z:AD}(m:MV key a b o x y)(h1:1<=x)(h:a[x-1]? = some z)(ha:a.toList.Pairwise (Le key))(hb:∀t∈b.toList.take y,Le key t z):MV key a b (o.push z) (x-1) y:=by
 have e:=lB h1 (aI h)
 refine m.take (t:=[z]) (by rw[BX,DA];rfl) (by have:=m.hx;omega) m.hy ?_ (Cs _ _) λp hp q hq =>?_
 ·rw[e,A9,A9]
  exact BZ _ Dh
 ·have eq:q=z:=by simpa using hq
  subst eq
  rcases Ax.mp hp with r | r
  ·obtain ⟨j,hj,e2⟩:=bp r
   exact aK ha e2 (aI h) (by omega)
  ·exact hb p r
theorem MV.lA {a b o:Array AD}{x y:Nat}{z:AD}(m:MV key a b o x y)(h1:1<=y)(h:b[y-1]? = some z)(hb:b.toList.Pairwise (Le key))(ha:∀t∈a.toList.take x,Le key t z):MV key a b (o.push z) x (y-1):=by
 have e:=lB h1 (aI h)
 refine m.take (t:=[z]) (by rw[BX,DA];rfl) m.hx (by have:=m.hy;omega) ?_ (Cs _ _) λp hp q hq =>?_
 ·rw[e,A9]
 ·have eq:q=z:=by simpa using hq
  subst eq
  rcases Ax.mp hp with r | r
  ·exact ha p r
  ·obtain ⟨j,hj,e2⟩:=bp r
   exact aK hb e2 (aI h) (by omega)
theorem qR (l:List AD){c x:Nat}(h:c<=x):l.take x=l.take c++(l.take x).drop c:=by
 have e:(l.take x).take c=l.take c:=by rw[List.take_take,Hm h]
 rw[<- e,Ci]
theorem jL {l:List AD}{c x:Nat}{t:AD}(h:t∈(l.take x).drop c):∃j,c<=j/\j<x/\l[j]? = some t:=by
 obtain ⟨j,hj,e⟩:=bg h
 rw[BK] at e
 split at e
 ·exact ⟨j,hj,by omega,e⟩
 ·cases e
theorem MV.uz {a b o:Array AD}{x y c:Nat}(m:MV key a b o x y)(hc:c<=x)(ha:a.toList.Pairwise (Le key))(hb:∀j p,c<=j->j<x->a.toList[j]? = some p->∀t∈b.toList.take y,Le key t p):MV key a b (o++(a.extract c x).reverse) c y:=by
 refine m.take (t:=(a.toList.take x).drop c) (by rw[A2,DA,CU,FT,qQ _ _ _ m.hx]) (A8 hc m.hx) m.hy ?_ ?_ λp hp q hq =>?_
 ·refine List.Perm.trans ?_ (CF _ (List.Perm.of_eq (qR a.toList hc).symm))
  rw[A9,A9]
  exact BZ _ Dh
 ·exact ha.sublist ((Bs _ _).trans (BE _ _))
 ·obtain ⟨j,h1,h2,e⟩:=jL hq
  rcases Ax.mp hp with r | r
  ·obtain ⟨i,hi,e2⟩:=bp r
   exact aK ha e2 e (by omega)
  ·exact hb j q h1 h2 e p r
theorem MV.uA {a b o:Array AD}{x y c:Nat}(m:MV key a b o x y)(hc:c<=y)(hb:b.toList.Pairwise (Le key))(ha:∀j p,c<=j->j<y->b.toList[j]? = some p->∀t∈a.toList.take x,Le key t p):MV key a b (o++(b.extract c y).reverse) x c:=by
 refine m.take (t:=(b.toList.take y).drop c) (by rw[A2,DA,CU,FT,qQ _ _ _ m.hy]) m.hx (A8 hc m.hy) ?_ ?_ λp hp q hq =>?_
 ·rw[A9, <- qR b.toList hc]
 ·exact hb.sublist ((Bs _ _).trans (BE _ _))
 ·obtain ⟨j,h1,h2,e⟩:=jL hq
  rcases Ax.mp hp with r | r
  ·exact ha j q h1 h2 e p r
  ·obtain ⟨i,hi,e2⟩:=bp r
   exact aK hb e2 e (by omega)
theorem MV.sd {a b o:Array AD}{x y:Nat}(m:MV key a b o x y)(hb:b.toList.Pairwise (Le key))(hx:x=0):dO key a b (a.extract 0 x++b.extract 0 y++o.reverse):=by
 subst hx
 refine m.fin (t:=b.toList.take y) (by rw[A2,A2,fY,fY,CU,EG,Em]) (by rw[EG,Em]) (hb.sublist (BE _ _))
theorem MV.r9 {a b o:Array AD}{x y:Nat}(m:MV key a b o x y)(ha:a.toList.Pairwise (Le key))(hy:y=0):dO key a b (a.extract 0 x++b.extract 0 y++o.reverse):=by
 subst hy
 refine m.fin (t:=a.toList.take x) (by rw[A2,A2,fY,fY,CU,EG,AZ]) (by rw[EG,AZ]) (ha.sublist (BE _ _))
theorem MV.first {a b o:Array AD}{x y:Nat}(m:MV key a b o x y)(ha:a.toList.Pairwise (Le key))(hb:b.toList.Pairwise (Le key))(hy:y=1)(hl:∀p q,b[0]? = some p->q∈a.toList->Le key p q):dO key a b (b.extract 0 y++a.extract 0 x++o.reverse):=by
 refine m.fin (t:=b.toList.take y++a.toList.take x) (by rw[A2,A2,fY,fY,CU]) Dh ?_
 refine BI.mpr ⟨hb.sublist (BE _ _),ha.sublist (BE _ _),λp hp q hq=>hl p q ?_ (Cq hq)⟩
 obtain ⟨i,hi,e⟩:=bp hp
 rw[Aq] at e
 rw[show i=0 by omega] at e
 exact e
theorem MV.size {a b o:Array AD}{x y:Nat}(m:MV key a b o x y):o.size+x+y=a.size+b.size:=by
 have e:=m.perm.length_eq
 have h1:=m.hx
 have h2:=m.hy
 simp only[Am,Bg,Ak,List.length_reverse] at e
 omega
end
open PySem PyProof.Rows
section
variable  {prog:Au}{w:AX}{A:A7}{E:Ae->Ag->Prop}{s:Ag}{O:Ee}{key:AD->O.α}{U:AD->Prop}{κ:SortKind}
abbrev HiC:=Option (Array AD)×Nat×Nat×Array AD×Nat×Nat×Nat
def wm (a b:Array AD)(x y:Nat)(o:Array AD)(mg ac bc:Nat):StateT A0 Sem (ForInStep HiC):=do
  let z ← elem' a (x-1)
  if (x-1 == 0)=true then pure (.done (some (a.extract 0 (x-1)++b.extract 0 y++(o.push z).reverse),x-1,y,o.push z,mg,ac,bc))
  else if (decide (ac<7) && decide (bc<7))=true then pure (.done (none,x-1,y,o.push z,mg,ac,bc))
  else pure (.yield (none,x-1,y,o.push z,mg,ac,bc))
def wq (a b:Array AD)(x y:Nat)(o:Array AD)(mg ac bc:Nat):StateT A0 Sem (ForInStep HiC):=do
  let z ← elem' b (y-1)
  if (y-1 == 1)=true then pure (.done (some (b.extract 0 (y-1)++a.extract 0 x++(o.push z).reverse),x,y-1,o.push z,mg,ac,bc))
  else do
    let z2 ← elem' a (x-1)
    let __x ← gal true z2 b 0 (y-1) (y-1-1)
    match __x with
    | some c =>
      if y-1-c>0 then
        if (c == 1)=true then pure (.done (some (b.extract 0 c++a.extract 0 x++(o.push z++(b.extract c (y-1)).reverse).reverse),x,c,o.push z++(b.extract c (y-1)).reverse,mg,ac,y-1-c))
        else if (c == 0)=true then pure (.done (some (a.extract 0 x++b.extract 0 c++(o.push z++(b.extract c (y-1)).reverse).reverse),x,c,o.push z++(b.extract c (y-1)).reverse,mg,ac,y-1-c))
        else wm a b x c (o.push z++(b.extract c (y-1)).reverse) mg ac (y-1-c)
      else wm a b x (y-1) (o.push z) mg ac (y-1-c)
    | _=>pure (.done (some (a.extract 0 x++b.extract 0 (y-1)++(o.push z).reverse),x,y-1,o.push z,mg,ac,bc))
def sr (a b:Array AD)(x y:Nat)(p:Array AD)(ac bc mg:Nat):StateT A0 Sem (ForInStep HiC):=do
  modify (λs=>SortSt.mk' (kindOf s) (AK s) (AW s) mg (failedOf s))
  let z ← elem' b (y-1)
  let __x ← gal false z a 0 x (x-1)
  match __x with
  | some c =>
    if x-c>0 then
      if (c == 0)=true then pure (.done (some (a.extract 0 c++b.extract 0 y++(p++(a.extract c x).reverse).reverse),c,y,p++(a.extract c x).reverse,mg,x-c,bc))
      else wq a b c y (p++(a.extract c x).reverse) mg (x-c) bc
    else wq a b x y p mg (x-c) bc
  | _=>pure (.done (some (a.extract 0 x++b.extract 0 y++p.reverse),x,y,p,mg,ac,bc))
def HiQ (key:AD->O.α)(a b:Array AD)(st:A0)(n:Nat)(r:ForInStep HiC)(st':A0):Prop:=match r with
 | .done c=>Sm st st'/\((∃r x y p mg ac bc,c=(some r,x,y,p,mg,ac,bc)/\dO key a b r)\/∃x y p mg ac bc,c=(none,x,y,p,mg,ac,bc)/\MV key a b p x y/\1<=x/\2<=y/\n<=p.size)
 | .yield c=>Sm st st'/\∃x y p mg ac bc,c=(none,x,y,p,mg,ac,bc)/\MV key a b p x y/\1<=x/\2<=y/\n<=p.size
theorem HiQ.out {a b:Array AD}{st st':A0}{n:Nat}{r:Array AD}{c:Nat×Nat×Array AD×Nat×Nat×Nat}(sm:Sm st st')(f:dO key a b r):HiQ key a b st n (.done (some r,c)) st':=by
 obtain ⟨p,x,y,mg,ac,bc⟩:=c
 exact ⟨sm,.inl ⟨_,_,_,_,_,_,_,rfl,f⟩⟩
theorem uE {x:Nat}(c:¬ (x == 0)=true):1<=x:=Nat.pos_of_ne_zero λz=>c (beq_iff_eq.mpr z)
theorem wt {y:Nat}(h:1<=y)(c:¬ (y == 1)=true):2<=y:=Gv h λz=>c (beq_iff_eq.mpr z.symm)
theorem qS {a b:Array AD}{st st':A0}(hb:b.toList.Pairwise (Le key))
  {o:Array AD} {x y mg ac bc n:Nat} {za:AD} (sm:Sm st st') (ea:a[x-1]? = some za) (m4:MV key a b (o.push za) (x-1) y) (hy:2<=y) (hn:n<=o.size):wpS (AQ prog w) A E s (wm a b x y o mg ac bc) (HiQ key a b st n) st':=by
 unfold wm
 refine Az (bh ea ?_)
 by_cases d5:(x-1 == 0)=true
 ·rw[if_pos d5]
  exact AF (HiQ.out sm (m4.sd hb (beq_iff_eq.mp d5)))
 rw[if_neg d5]
 have hx2:=uE d5
 have hn':n<=(o.push za).size:=by rw[CB];exact Dq hn
 split
 ·exact AF ⟨sm,.inr ⟨_,_,_,_,_,_,rfl,m4,hx2,hy,hn'⟩⟩
 ·exact AF ⟨sm,_,_,_,_,_,_,rfl,m4,hx2,hy,hn'⟩
theorem qT (C:Cmp prog w A s O key U κ){a b:Array AD}{st st':A0}(hκ:kindOf st=κ)(ua:∀p∈a.toList,U p)(ub:∀p∈b.toList,U p)
  (ha:a.toList.Pairwise (Le key)) (hb:b.toList.Pairwise (Le key)) (h0:∀p q,b[0]? = some p->q∈a.toList->Le key p q)
  {o:Array AD} {x y mg ac bc n:Nat} {zb:AD} (sm:Sm st st') (eb:b[y-1]? = some zb) (mk:MV key a b o x y) (bl:∀t∈a.toList.take x,Le key t zb) (hx1:1<=x) (hy:2<=y) (hn:n<=o.size):wpS (AQ prog w) A E s (wq a b x y o mg ac bc) (HiQ key a b st n) st':=by
 unfold wq
 refine Az (bh eb ?_)
 have m2:=mk.lA (GO hy) eb hb bl
 have y1:1<=y-1:=Cr hy
 have bx1:=mk.hx
 have by1:=mk.hy
 by_cases d3:(y-1 == 1)=true
 ·rw[if_pos d3]
  exact AF (HiQ.out sm (m2.first ha hb (beq_iff_eq.mp d3) h0))
 rw[if_neg d3]
 have hy1:=wt y1 d3
 obtain ⟨za,ea⟩:=bo (show x-1<a.size by omega)
 refine Az (bh ea ?_)
 refine Az (yy C (λi=>(b[i]?).getD za) (sm.k.trans hκ) (ua _ (bP ea)) (λi hi =>?_) (λi hi =>?_) (λi j hij hj =>?_) (Ed y1) λc2 hc2 g1 g2 =>?_)
 ·obtain ⟨z,e⟩:=bo (show i<b.size by omega)
  rw[Di,e];rfl
 ·obtain ⟨z,e⟩:=bo (show i<b.size by omega)
  rw[e];exact ub _ (bP e)
 ·obtain ⟨z,e⟩:=bo (show i<b.size by omega)
  obtain ⟨z',e'⟩:=bo (show j<b.size by omega)
  rw[e,e'];exact aK hb (aI e) (aI e') hij
 dsimp only at g1 g2 ⊢
 have tb:∀j q,c2<=j->j<y-1->b.toList[j]? = some q->∀t∈a.toList.take x,Le key t q:=λj q hj hj2 e t ht=>by
  have z:=g2 j hj hj2
  rw[Aq] at e
  rw[e] at z
  obtain ⟨n,hn,e2⟩:=bp ht
  exact A6 (aK ha e2 (aI ea) (Cr hn)) z
 have m3:=m2.uA hc2 hb tb
 have bl2:∀t∈b.toList.take c2,Le key t za:=λt ht=>by
  obtain ⟨n,hn,e2⟩:=bp ht
  rw[Aq] at e2
  have z:=g1 n hn
  rw[e2] at z
  exact BF z
 have hn1:n<=(o.push zb).size:=by rw[CB];exact Dq hn
 by_cases k2:y-1-c2>0
 ·rw[if_pos k2]
  by_cases d4:(c2 == 1)=true
  ·rw[if_pos d4]
   exact AF (HiQ.out sm (m3.first ha hb (beq_iff_eq.mp d4) h0))
  rw[if_neg d4]
  by_cases d6:(c2 == 0)=true
  ·rw[if_pos d6]
   exact AF (HiQ.out sm (m3.r9 ha (beq_iff_eq.mp d6)))
  rw[if_neg d6]
  exact qS hb sm ea (m3.i6 hx1 ea ha bl2) (wt (uE d6) d4) (A8 hn1 (by rw[CW];exact Co _ _))
 ·rw[if_neg k2]
  have ec2:c2=y-1:=CC hc2 (FD (C7 k2))
  rw[ec2] at bl2
  exact qS hb sm ea (m2.i6 hx1 ea ha bl2) hy1 hn1
theorem qU (C:Cmp prog w A s O key U κ){a b:Array AD}{st st':A0}(hκ:kindOf st=κ)(ua:∀p∈a.toList,U p)(ub:∀p∈b.toList,U p)
  (ha:a.toList.Pairwise (Le key)) (hb:b.toList.Pairwise (Le key)) (h0:∀p q,b[0]? = some p->q∈a.toList->Le key p q)
  {p:Array AD} {x y ac bc n:Nat} (mg:Nat) (sm:Sm st st') (m:MV key a b p x y) (hx:1<=x) (hy:2<=y) (hn:n<=p.size):wpS (AQ prog w) A E s (sr a b x y p ac bc mg) (HiQ key a b st n) st':=by
 unfold sr
 have bx:=m.hx
 have by':=m.hy
 obtain ⟨zb,eb⟩:=bo (show y-1<b.size by omega)
 refine Az (Cw ?_)
 refine Az (bh eb ?_)
 refine Az (yx C (λi=>(a[i]?).getD zb) ((sm.mg _).k.trans hκ) (ub _ (bP eb)) (λi hi =>?_) (λi hi =>?_) (λi j hij hj =>?_) (Ed hx) λc hc h1 h2 =>?_)
 ·obtain ⟨z,e⟩:=bo (Ay hi bx)
  rw[Di,e];rfl
 ·obtain ⟨z,e⟩:=bo (Ay hi bx)
  rw[e];exact ua _ (bP e)
 ·obtain ⟨z,e⟩:=bo (show i<a.size by omega)
  obtain ⟨z',e'⟩:=bo (show j<a.size by omega)
  rw[e,e'];exact aK ha (aI e) (aI e') hij
 dsimp only at h1 h2 ⊢
 have ta:∀j q,c<=j->j<x->a.toList[j]? = some q->∀t∈b.toList.take y,Le key t q:=λj q hj hj2 e t ht=>by
  have z:=h2 j hj hj2
  rw[Aq] at e
  rw[e] at z
  obtain ⟨n,hn,e2⟩:=bp ht
  exact A6 (aK hb e2 (aI eb) (Cr hn)) (BF z)
 have mk:=m.uz hc ha ta
 have bl:∀t∈a.toList.take c,Le key t zb:=λt ht=>by
  obtain ⟨n,hn,e2⟩:=bp ht
  rw[Aq] at e2
  have z:=h1 n hn
  rw[e2] at z
  exact z
 by_cases k0:x-c>0
 ·rw[if_pos k0]
  by_cases d1:(c == 0)=true
  ·rw[if_pos d1]
   exact AF (HiQ.out (sm.mg _) (mk.sd hb (beq_iff_eq.mp d1)))
  rw[if_neg d1]
  exact qT C hκ ua ub ha hb h0 (sm.mg _) eb mk bl (uE d1) hy (A8 hn (by rw[CW];exact Co _ _))
 ·rw[if_neg k0]
  have ec:c=x:=CC hc (FD (C7 k0))
  rw[ec] at bl
  exact qT C hκ ua ub ha hb h0 (sm.mg _) eb m bl hx hy hn
theorem wu (C:Cmp prog w A s O key U κ){a b:Array AD}{st st':A0}(hκ:kindOf st=κ)(ua:∀p∈a.toList,U p)(ub:∀p∈b.toList,U p)
  (ha:a.toList.Pairwise (Le key)) (hb:b.toList.Pairwise (Le key)) (h0:∀p q,b[0]? = some p->q∈a.toList->Le key p q)
  {p:Array AD} {x y ac bc n mg:Nat} (sm:Sm st st') (m:MV key a b p x y) (hx:1<=x) (hy:2<=y) (hn:n<=p.size):wpS (AQ prog w) A E s (if mg>1 then sr a b x y p ac bc (mg-1) else sr a b x y p ac bc mg) (HiQ key a b st n) st':=by
 split
 ·exact qU C hκ ua ub ha hb h0 (mg-1) sm m hx hy hn
 ·exact qU C hκ ua ub ha hb h0 mg sm m hx hy hn
abbrev HiD:=Option (Array AD)×Nat×Nat×Array AD×Nat×Nat
abbrev HiE:=Option (Array AD)×Nat×Nat×Array AD×Nat
def uH (a b:Array AD)(mg:Nat)(c:HiD):StateT A0 Sem (ForInStep HiD):=do
  let u ← elem' b (c.2.2.1-1)
  let v ← elem' a (c.2.1-1)
  let __x ← lt' u v
  match __x with
  | some aw =>
    if aw=true then do
      let z ← elem' a (c.2.1-1)
      if (c.2.1-1 == 0)=true then pure (.done (some (a.extract 0 (c.2.1-1)++b.extract 0 c.2.2.1++(c.2.2.2.1.push z).reverse),c.2.1-1,c.2.2.1,c.2.2.2.1.push z,c.2.2.2.2.1+1,0))
      else if c.2.2.2.2.1+1≥mg then pure (.done (none,c.2.1-1,c.2.2.1,c.2.2.2.1.push z,c.2.2.2.2.1+1,0))
      else pure (.yield (none,c.2.1-1,c.2.2.1,c.2.2.2.1.push z,c.2.2.2.2.1+1,0))
    else do
      let z ← elem' b (c.2.2.1-1)
      if (c.2.2.1-1 == 1)=true then pure (.done (some (b.extract 0 (c.2.2.1-1)++a.extract 0 c.2.1++(c.2.2.2.1.push z).reverse),c.2.1,c.2.2.1-1,c.2.2.2.1.push z,0,c.2.2.2.2.2+1))
      else if c.2.2.2.2.2+1≥mg then pure (.done (none,c.2.1,c.2.2.1-1,c.2.2.2.1.push z,0,c.2.2.2.2.2+1))
      else pure (.yield (none,c.2.1,c.2.2.1-1,c.2.2.2.1.push z,0,c.2.2.2.2.2+1))
  | _=>pure (.done (some (a.extract 0 c.2.1++b.extract 0 c.2.2.1++c.2.2.2.1.reverse),c.2.1,c.2.2.1,c.2.2.2.1,c.2.2.2.2.1,c.2.2.2.2.2))
def yB (a b:Array AD)(c:HiC):StateT A0 Sem (ForInStep HiC) :=
 if c.2.2.2.2.1>1 then sr a b c.2.1 c.2.2.1 c.2.2.2.1 c.2.2.2.2.2.1 c.2.2.2.2.2.2 (c.2.2.2.2.1-1) else sr a b c.2.1 c.2.2.1 c.2.2.2.1 c.2.2.2.2.2.1 c.2.2.2.2.2.2 c.2.2.2.2.1
def pM (a b:Array AD)(c:HiE):StateT A0 Sem (ForInStep HiE):=do
  let d ← forIn [0:a.size+b.size] ((none,c.2.1,c.2.2.1,c.2.2.2.1,0,0):HiD) λ_ d=>uH a b c.2.2.2.2 d
  match d.1 with
  | some r=>pure (.done (some r,d.2.1,d.2.2.1,d.2.2.2.1,c.2.2.2.2))
  | none=>do
    rule "list.sort.gallop"
    let e ← forIn [0:a.size+b.size] ((none,d.2.1,d.2.2.1,d.2.2.2.1,c.2.2.2.2+1,d.2.2.2.2.1,d.2.2.2.2.2):HiC) λ_ e=>yB a b e
    match e.1 with
    | some r=>pure (.done (some r,e.2.1,e.2.2.1,e.2.2.2.1,e.2.2.2.2.1))
    | none=>do
      modify (λs=>SortSt.mk' (kindOf s) (AK s) (AW s) (e.2.2.2.2.1+1) (failedOf s))
      pure (.yield (none,e.2.1,e.2.2.1,e.2.2.2.1,e.2.2.2.2.1+1))
theorem wx (a b:Array AD):mHi a b=(do
    rule "list.sort.merge-hi"
    let z ← elem' a (a.size-1)
    if (a.size-1 == 0)=true then pure (a.extract 0 (a.size-1)++b.extract 0 b.size++(#[z]:Array AD).reverse)
    else if (b.size == 1)=true then pure (b.extract 0 b.size++a.extract 0 (a.size-1)++(#[z]:Array AD).reverse)
    else do
      let g ← get
      let c ← forIn [0:a.size+b.size] ((none,a.size-1,b.size, #[z],gallopOf g):HiE) λ_ c=>pM a b c
      match c.1 with
      | some r=>pure r
      | none=>unsupported "internal:list.sort.merge-bound"):=by
  kernel_rfl
def HdI (key:AD->O.α)(a b:Array AD)(st:A0)(n:Nat)(c:HiD)(st':A0):Prop:=Sm st st'/\∃x y o' ac bc,c=(none,x,y,o',ac,bc)/\MV key a b o' x y/\1<=x/\2<=y/\n<=o'.size
def HdQ (key:AD->O.α)(a b:Array AD)(st:A0)(n:Nat)(c:HiD)(st':A0):Prop:=Sm st st'/\((∃r x y o ac bc,c=(some r,x,y,o,ac,bc)/\dO key a b r)\/∃x y o' ac bc,c=(none,x,y,o',ac,bc)/\MV key a b o' x y/\1<=x/\2<=y/\n<=o'.size)
theorem uI (C:Cmp prog w A s O key U κ){a b:Array AD}{st st':A0}(hκ:kindOf st=κ)(ua:∀p∈a.toList,U p)(ub:∀p∈b.toList,U p)
  (ha:a.toList.Pairwise (Le key)) (hb:b.toList.Pairwise (Le key)) (h0:∀p q,b[0]? = some p->q∈a.toList->Le key p q)
  {mg n m':Nat} {c:HiD} (I:HdI key a b st n c st') (hm:m'<=n+1) {Q:ForInStep HiD->A0->Prop} (h:∀r st',(match r with | .done c'=>HdQ key a b st (n+1) c' st' | .yield c'=>HdI key a b st m' c' st')->Q r st'):wpS (AQ prog w) A E s (uH a b mg c) Q st':=by
 obtain ⟨sm2,x,y,o',ac,bc,rfl,m,hx,hy,hz⟩:=I
 unfold uH
 have bx:=m.hx
 have by':=m.hy
 obtain ⟨za,ea⟩:=bo (show x-1<a.size by omega)
 obtain ⟨zb,eb⟩:=bo (show y-1<b.size by omega)
 refine Az (bh eb (Az (bh ea (Az (C.lt _ st' zb za _ (sm2.k.trans hκ) (ub _ (bP eb)) (ua _ (bP ea)) ?_)))))
 dsimp only
 have sz:∀z,n+1<=(o'.push z).size:=λz=>by rw[CB];exact Hh hz
 cases hlt:O.blt (key zb) (key za) with
 | true =>
  rw[if_pos rfl]
  refine Az (bh ea ?_)
  have m1:=m.i6 hx ea ha λt ht=>by
   obtain ⟨n,hn,e⟩:=bp ht
   exact A6 (aK hb e (aI eb) (Cr hn)) (BF hlt)
  by_cases c3:(x-1 == 0)=true
  ·rw[if_pos c3]
   exact AF (h _ _ ⟨sm2,.inl ⟨_,_,_,_,_,_,rfl,m1.sd hb (beq_iff_eq.mp c3)⟩⟩)
  ·rw[if_neg c3]
   have c3':=uE c3
   split
   ·exact AF (h _ _ ⟨sm2,.inr ⟨_,_,_,_,_,rfl,m1,c3',hy,sz _⟩⟩)
   ·exact AF (h _ _ ⟨sm2,_,_,_,_,_,rfl,m1,c3',hy,A8 hm (sz _)⟩)
 | false =>
  rw[if_neg Ao]
  refine Az (bh eb ?_)
  have m1:=m.lA (GO hy) eb hb λt ht=>by
   obtain ⟨n,hn,e⟩:=bp ht
   exact A6 (aK ha e (aI ea) (Cr hn)) (show O.kle (key za) (key zb) from hlt)
  by_cases c3:(y-1 == 1)=true
  ·rw[if_pos c3]
   exact AF (h _ _ ⟨sm2,.inl ⟨_,_,_,_,_,_,rfl,m1.first ha hb (beq_iff_eq.mp c3) h0⟩⟩)
  ·rw[if_neg c3]
   have c3':=wt (Cr hy) c3
   split
   ·exact AF (h _ _ ⟨sm2,.inr ⟨_,_,_,_,_,rfl,m1,hx,c3',sz _⟩⟩)
   ·exact AF (h _ _ ⟨sm2,_,_,_,_,_,rfl,m1,hx,c3',A8 hm (sz _)⟩)
def HeI (key:AD->O.α)(a b:Array AD)(st:A0)(n:Nat)(c:HiE)(st':A0):Prop:=Sm st st'/\∃x y o mg,c=(none,x,y,o,mg)/\MV key a b o x y/\1<=x/\2<=y/\n+1<=o.size
def HeQ (key:AD->O.α)(a b:Array AD)(st:A0)(c:HiE)(st':A0):Prop:=Sm st st'/\((∃r x y o mg,c=(some r,x,y,o,mg)/\dO key a b r)\/∃x y o mg,c=(none,x,y,o,mg)/\MV key a b o x y/\1<=x/\2<=y/\a.size+b.size+1<=o.size)
theorem su (C:Cmp prog w A s O key U κ){a b:Array AD}{st st':A0}(hκ:kindOf st=κ)(ua:∀p∈a.toList,U p)(ub:∀p∈b.toList,U p)
  (ha:a.toList.Pairwise (Le key)) (hb:b.toList.Pairwise (Le key)) (h0:∀p q,b[0]? = some p->q∈a.toList->Le key p q) (na:0<a.size)
  {n:Nat} {c:HiE} (I:HeI key a b st n c st'):wpS (AQ prog w) A E s (pM a b c) (λr st'=>match r with | .done c'=>HeQ key a b st c' st' | .yield c'=>HeI key a b st (n+1) c' st') st':=by
 obtain ⟨sm1,x,y,o,mg,rfl,m,hx,hy,hz⟩:=I
 unfold pM
 have q1:1<=a.size+b.size:=A8 na (Co _ _)
 refine Az (Cg (Bx (I:=λj c st'=>HdI key a b st (o.size+min j 1) c st') (Q:=HdQ key a b st (o.size+1)) (λj c st2 _ hj J=>uI (n:=o.size+min j 1) (m':=o.size+min (j+1) 1) C hκ ua ub ha hb h0 J (by omega) λr st' k =>?_) (λc st' J =>?_) ⟨sm1,x,y,o,0,0,rfl,m,hx,hy,Ah _⟩) ?_)
 ·cases r with
  | done c'=>exact k.imp id λz=>z.imp id λ⟨x,y,o',ac,bc,e,m,hx,hy,hz⟩=>⟨x,y,o',ac,bc,e,m,hx,hy,by omega⟩
  | yield c'=>exact k
 ·obtain ⟨sm,x,y,o',ac,bc,e,m,hx,hy,hz⟩:=J
  exact ⟨sm,.inr ⟨x,y,o',ac,bc,e,m,hx,hy,by omega⟩⟩
 rintro c st2 ⟨sm2,⟨r,x,y,o',ac,bc,rfl,fr⟩ | ⟨x,y,o',ac,bc,rfl,m,hx,hy,hz2⟩⟩
 ·exact AF ⟨sm2,.inl ⟨_,_,_,_,_,rfl,fr⟩⟩
 dsimp only
 refine Az (FQ (DV ⟨rfl,?_⟩))
 refine Az (Cg (Bx (I:=λ_ c st'=>HiQ key a b st o'.size (.yield c) st') (Q:=λc st'=>HiQ key a b st o'.size (.done c) st') (λj c st3 _ hj J =>?_) (λc st' J=>⟨J.1,.inr J.2⟩) ⟨sm2,x,y,o',_,ac,bc,rfl,m,hx,hy,Ah _⟩) ?_)
 ·obtain ⟨sm3,x,y,p,mg,ac,bc,rfl,m,hx,hy,hz3⟩:=J
  refine Cg (wu C hκ ua ub ha hb h0 sm3 m hx hy hz3) ?_
  intro r st' h
  cases r <;> exact h
 rintro c st3 ⟨sm3,⟨r,x,y,p,mg,ac,bc,rfl,fr⟩ | ⟨x,y,p,mg,ac,bc,rfl,m,hx,hy,hz3⟩⟩
 ·exact AF ⟨sm3,.inl ⟨_,_,_,_,_,rfl,fr⟩⟩
 ·dsimp only
  exact Az (Cw (AF ⟨sm3.mg _,x,y,p,_,rfl,m,hx,hy,by omega⟩))
theorem yC (C:Cmp prog w A s O key U κ){a b:Array AD}{st:A0}{Q:Array AD->A0->Prop}(hκ:kindOf st=κ)(ua:∀p∈a.toList,U p)(ub:∀p∈b.toList,U p)
  (ha:a.toList.Pairwise (Le key)) (hb:b.toList.Pairwise (Le key)) (na:0<a.size) (nb:0<b.size) (h0:∀p q,b[0]? = some p->q∈a.toList->Le key p q) (hl:∀p q,p∈b.toList->a[a.size-1]? = some q->Le key p q)
  (h:∀r st',Sm st st'->dO key a b r->Q r st'):wpS (AQ prog w) A E s (mHi a b) Q st:=by
 rw[wx]
 refine Az (FQ (DV ⟨rfl,?_⟩))
 obtain ⟨a0,ea0⟩:=bo (Ed na)
 have m0:MV key a b #[] a.size b.size:=by
  refine ⟨Ah _,Ah _,?_,List.Pairwise.nil,λp _ q hq=>by cases hq⟩
  rw[AA (by rw[Ak];exact Ah _),AA (by rw[Ak];exact Ah _)]
  show (a.toList++b.toList++[]).Perm _
  rw[AZ]
 have m1:MV key a b #[a0] (a.size-1) b.size:=m0.i6 na ea0 ha λt ht=>hl t a0 (Cq ht) ea0
 refine Az (bh ea0 ?_)
 by_cases c1:(a.size-1 == 0)=true
 ·rw[if_pos c1]
  exact AF (h _ st (Sm.refl st) (m1.sd hb (beq_iff_eq.mp c1)))
 rw[if_neg c1]
 by_cases c2:(b.size == 1)=true
 ·rw[if_pos c2]
  exact AF (h _ st (Sm.refl st) (m1.first ha hb (beq_iff_eq.mp c2) h0))
 rw[if_neg c2]
 refine Az (Ff ?_)
 refine Az (Cg (Bx (I:=λi c st'=>HeI key a b st i c st') (Q:=HeQ key a b st) (λi c st1 _ _ J=>Cg (su C hκ ua ub ha hb h0 na J) λr st' h=>by cases r <;> exact h) (λc st' J =>?_) ⟨Sm.refl st,_,_,_,_,rfl,m1,uE c1,wt nb c2,Ah _⟩) ?_)
 ·obtain ⟨sm,x,y,o,mg,e,m,hx,hy,hz⟩:=J
  exact ⟨sm,.inr ⟨x,y,o,mg,e,m,hx,hy,by omega⟩⟩
 rintro c st' ⟨sm,⟨r,x,y,o,mg,rfl,fr⟩ | ⟨x,y,o,mg,rfl,m,hx,hy,hz⟩⟩
 ·exact AF (h r st' sm fr)
 ·have:=m.size
  omega
end
open PySem PyProof.Rows
theorem yD (i:Nat):mAt i=(do
    let s ← get
    let (some (sa,na,pw),some (sb,nb,_)):=((AW s)[i]?,(AW s)[i+1]?) | unsupported "internal:list.sort.pending"
    set (SortSt.mk' (kindOf s) (AK s) (((AW s).setIfInBounds i (sa,na+nb,pw)).eraseIdxIfInBounds (i+1)) (gallopOf s) (failedOf s))
    let some k ← gal false (← elem' (AK s) sb) (AK s) sa na 0 | return false
    let (sa,na):=(sa+k,na-k)
    if na == 0 then return true
    let some nb ← gal true (← elem' (AK s) (sa+na-1)) (AK s) sb nb (nb-1) | return false
    if nb == 0 then return true
    let x:=(AK s).extract sa sb
    let y:=(AK s).extract sb (sb+nb)
    let mm ← if na<=nb then mLo x y else mHi x y
    modify λs=>setArr s (mm.toList.zipIdx.foldl (λa (p,j)=>a.setIfInBounds (sa+j) p) (AK s))
    return (failedOf (← get)).isNone):=rfl
theorem ia {α:Type}(p r:List α)(k:Nat):(p++r).drop (p.length+k)=r.drop k:=by
 rw[<- HH,EH]
theorem pN {α:Type}(p r:List α)(k:Nat):(p++r)[p.length+k]? = r[k]? := by
 rw[Cb (by omega),C2]
theorem xN {α:Type}(p a r:List α){k:Nat}(h:k<a.length):(p++(a++r))[p.length+k]? = a[k]? := by
 rw[pN,Cf h]
theorem written (l:List AD):∀(c n:Nat) (a:Array AD),c+n+l.length<=a.size->((l.zipIdx n).foldl (λ(a:Array AD) (pj:AD×Nat)=>a.setIfInBounds (c+pj.2) pj.1) a).toList=a.toList.take (c+n)++l++a.toList.drop (c+n+l.length):=by
 induction l with
 | nil=>intro c n a _;simp
 | cons z l ih =>
  intro c n a h
  rw[Ba] at h
  rw[List.zipIdx_cons,Hn,ih c (n+1) _ (by rw[ES];omega)]
  have e:(a.setIfInBounds (c+n) z).toList=a.toList.set (c+n) z:=Es ..
  rw[e]
  have lt:c+n<a.toList.length:=by rw[Ak];omega
  have t1:(a.toList.set (c+n) z).take (c+(n+1))=a.toList.take (c+n)++[z]:=by
   rw[show c+(n+1)=c+n+1 by omega,Bc,List.take_set_of_le (Ah _),C6 lt]
   rfl
  have t2:(a.toList.set (c+n) z).drop (c+(n+1)+l.length)=a.toList.drop (c+n+(l.length+1)):=by
   rw[List.drop_set_of_lt (by omega),show c+(n+1)+l.length=c+n+(l.length+1) by omega]
  rw[t1,t2,Ba]
  simp
section
variable  {prog:Au}{w:AX}{A:A7}{E:Ae->Ag->Prop}{s:Ag}{O:Ee}{key:AD->O.α}{U:AD->Prop}{κ:SortKind}
theorem yE (C:Cmp prog w A s O key U κ){i pw pw2:Nat}{st:A0}{Q:Bool->A0->Prop}{P X Y S:List AD}(hκ:kindOf st=κ)(hf:failedOf st=none)
    (ha:(AK st).toList=P++(X++(Y++S))) (hu:∀p∈(AK st).toList,U p) (h1:(AW st)[i]? = some (P.length,X.length,pw)) (h2:(AW st)[i+1]? = some (P.length+X.length,Y.length,pw2))
    (nx:0<X.length) (ny:0<Y.length) (sx:X.Pairwise (Le key)) (sy:Y.Pairwise (Le key))
    (h:∀st' M,M.Perm (X++Y)->M.Pairwise (Le key)->(AK st').toList=P++(M++S)->AW st'=((AW st).setIfInBounds i (P.length,X.length+Y.length,pw)).eraseIdxIfInBounds (i+1)->kindOf st'=κ -> failedOf st'=none->Q true st') :
    wpS (AQ prog w) A E s (mAt i) Q st:=by
  rw[yD]
  refine Az (Ff ?_)
  rw[h1,h2]
  dsimp only
  refine Az (show wpS (AQ prog w) A E s (modify λ_=>SortSt.mk' (kindOf st) (AK st) (((AW st).setIfInBounds i (P.length,X.length+Y.length,pw)).eraseIdxIfInBounds (i+1)) (gallopOf st) (failedOf st)) _ st from Cw ?_)
  generalize hst1:SortSt.mk' (kindOf st) (AK st) (((AW st).setIfInBounds i (P.length,X.length+Y.length,pw)).eraseIdxIfInBounds (i+1)) (gallopOf st) (failedOf st)=st1
  have k1:kindOf st1=κ:=by rw[<- hst1];exact hκ
  have a1:AK st1=AK st:=by rw[<- hst1]
  have p1:AW st1=((AW st).setIfInBounds i (P.length,X.length+Y.length,pw)).eraseIdxIfInBounds (i+1):=by rw[<- hst1]
  have f1:failedOf st1=none:=by rw[<- hst1];exact hf
  have sz:(AK st).size=P.length+X.length+Y.length+S.length:=by
    rw[<- Ak,ha];simp only[Am];omega
  have atX:∀j,j<X.length->(AK st)[P.length+j]? = X[j]? := λj hj=>by
    rw[<- Aq,ha,xN _ _ _ hj]
  have atY:∀j,j<Y.length->(AK st)[P.length+X.length+j]? = Y[j]? := λj hj=>by
    rw[<- Aq,ha, <- A9,show P.length+X.length+j=(P++X).length+j by rw[Am],xN _ _ _ hj]
  have uX:∀p∈X,U p:=λp hp=>hu p (by rw[ha];simp[hp])
  have uY:∀p∈Y,U p:=λp hp=>hu p (by rw[ha];simp[hp])
  have xget:∀j,j<X.length->∃z,X[j]? = some z:=λj hj=>⟨X[j],by simp[hj]⟩
  have yget:∀j,j<Y.length->∃z,Y[j]? = some z:=λj hj=>⟨Y[j],by simp[hj]⟩
  obtain ⟨y0,ey0⟩:=yget 0 ny
  have plain:(∀p∈X,∀q∈Y,Le key p q)->Q true st1:=λhle=>h st1 (X++Y) (CS _) (BI.mpr ⟨sx,sy,hle⟩) (by rw[a1,ha,A9]) p1 k1 f1
  refine Az (bh (z:=y0) (by rw[show P.length+X.length=P.length+X.length+0 by omega,atY 0 ny];exact ey0) ?_)
  refine Az (yx C (λj=>(X[j]?).getD y0) k1 (uY _ (AJ ey0)) (λj hj =>?_) (λj hj =>?_) (λi j hij hj =>?_) nx λk hk g1 g2 =>?_)
  · obtain ⟨z,e⟩:=xget j hj
    rw[atX j hj,e];rfl
  · obtain ⟨z,e⟩:=xget j hj
    rw[e];exact uX _ (AJ e)
  · obtain ⟨z,e⟩:=xget i (by omega)
    obtain ⟨z',e'⟩:=xget j hj
    rw[e,e'];exact aK sx e e' hij
  dsimp only at g1 g2 ⊢
  have y0le:∀q∈Y,Le key y0 q:=λq hq=>by
    obtain ⟨n,e⟩:=A3.mp hq
    exact aK sy ey0 e (A5 _)
  by_cases c1:(X.length-k == 0)=true
  · rw[if_pos c1]
    refine AF (plain λp hp q hq =>?_)
    obtain ⟨n,e⟩:=A3.mp hp
    have hn:n<X.length:=(Al.mp e).1
    have z:=g1 n (by have:=beq_iff_eq.mp c1;omega)
    rw[e] at z
    exact A6 z (y0le q hq)
  rw[if_neg c1]
  have kx:k<X.length:=by have:X.length-k≠0:=λz=>c1 (beq_iff_eq.mpr z);omega
  obtain ⟨xl,exl⟩:=xget (X.length-1) (by omega)
  have xlle:∀p∈X,Le key p xl:=λp hp=>by
    obtain ⟨n,e⟩:=A3.mp hp
    have hn:n<X.length:=(Al.mp e).1
    exact aK sx e exl (by omega)
  refine Az (bh (z:=xl) (by rw[show P.length+k+(X.length-k)-1=P.length+(X.length-1) by omega,atX _ (by omega)];exact exl) ?_)
  refine Az (yy C (λj=>(Y[j]?).getD xl) k1 (uX _ (AJ exl)) (λj hj =>?_) (λj hj =>?_) (λi j hij hj =>?_) (by omega) λm hm e1 e2 =>?_)
  · obtain ⟨z,e⟩:=yget j hj
    rw[atY j hj,e];rfl
  · obtain ⟨z,e⟩:=yget j hj
    rw[e];exact uY _ (AJ e)
  · obtain ⟨z,e⟩:=yget i (by omega)
    obtain ⟨z',e'⟩:=yget j hj
    rw[e,e'];exact aK sy e e' hij
  dsimp only at e1 e2 ⊢
  by_cases c2:(m == 0)=true
  · rw[if_pos c2]
    refine AF (plain λp hp q hq =>?_)
    obtain ⟨n,e⟩:=A3.mp hq
    have hn:n<Y.length:=(Al.mp e).1
    have z:=e2 n (by have:=beq_iff_eq.mp c2;omega) hn
    rw[e] at z
    exact A6 (xlle p hp) z
  rw[if_neg c2]
  have m0:0<m:=by have:m≠0:=λz=>c2 (beq_iff_eq.mpr z);omega
  have ex:((AK st).extract (P.length+k) (P.length+X.length)).toList=X.drop k:=by
    rw[BU,Bq,ha,ia,D5 (by omega)]
    rw[List.take_left' (by rw[B8];omega)]
  have ey:((AK st).extract (P.length+X.length) (P.length+X.length+m)).toList=Y.take m:=by
    have e:=ia (P++X) (Y++S) 0
    rw[Am,Ha,FW,A9] at e
    rw[BU,Bq,ha,e,C2,D6 hm]
  have sX:((AK st).extract (P.length+k) (P.length+X.length)).size=X.length-k:=by rw[<- Ak,ex,B8]
  have sY:((AK st).extract (P.length+X.length) (P.length+X.length+m)).size=m:=by rw[<- Ak,ey,Bg];omega
  generalize (AK st).extract (P.length+k) (P.length+X.length)=xa at ex sX ⊢
  generalize (AK st).extract (P.length+X.length) (P.length+X.length+m)=ya at ey sY ⊢
  have xa0:∀q∈xa.toList,Le key y0 q:=λq hq=>by
    rw[ex] at hq
    obtain ⟨n,hn,e⟩:=bg hq
    have hn2:n<X.length:=(Al.mp e).1
    have z:=g2 n hn hn2
    rw[e] at z
    exact BF z
  have yaL:∀p∈ya.toList,Le key p xl:=λp hp=>by
    rw[ey] at hp
    obtain ⟨n,hn,e⟩:=bp hp
    have z:=e1 n hn
    rw[e] at z
    exact BF z
  have first:∀p q,ya[0]? = some p->q∈xa.toList->Le key p q:=λp q hp hq=>by
    rw[<- Aq,ey,BK,if_pos m0,ey0] at hp
    cases hp
    exact xa0 q hq
  have lst:∀p q,p∈ya.toList->xa[xa.size-1]? = some q->Le key p q:=λp q hp hq=>by
    rw[<- Aq,ex,Dc,sX,show k+(X.length-k-1)=X.length-1 by omega,exl] at hq
    cases hq
    exact yaL p hp
  have sxa:xa.toList.Pairwise (Le key):=by rw[ex];exact sx.sublist (Bs _ _)
  have sya:ya.toList.Pairwise (Le key):=by rw[ey];exact sy.sublist (BE _ _)
  have uxa:∀p∈xa.toList,U p:=λp hp=>by rw[ex] at hp;exact uX p (CT hp)
  have uya:∀p∈ya.toList,U p:=λp hp=>by rw[ey] at hp;exact uY p (Cq hp)
  have post:∀r st',Sm st1 st'->dO key xa ya r->wpS (AQ prog w) A E s (do modify λs=>setArr s (r.toList.zipIdx.foldl (λa (p,j)=>a.setIfInBounds (P.length+k+j) p) (AK s));return (failedOf (← get)).isNone) Q st':=by
    rintro r st' sm ⟨fp,fs⟩
    refine Az (Cw (Az (Ff (AF ?_))))
    have rl:r.toList.length=X.length-k+m:=by rw[fp.length_eq,Am,Ak,Ak,sX,sY]
    have wr:=written r.toList (P.length+k) 0 (AK st') (by rw[sm.a,a1,sz,rl];omega)
    have e:(failedOf (setArr st' (r.toList.zipIdx.foldl (λa (p,j)=>a.setIfInBounds (P.length+k+j) p) (AK st')))).isNone=true:=by
      show (failedOf st').isNone=true
      rw[sm.f,f1];rfl
    rw[e]
    have t1:(P++(X++(Y++S))).take (P.length+k+0)=P++X.take k:=by
      rw[Ha,List.take_append,AA (by omega),C2,D6 (by omega)]
    have t2:(P++(X++(Y++S))).drop (P.length+k+0+r.toList.length)=Y.drop m++S:=by
      rw[rl,show P.length+k+0+(X.length-k+m)=P.length+(X.length+m) by omega,ia,ia,D5 hm]
    have perm:(X.take k++(r.toList++Y.drop m)).Perm (X++Y):=by
      rw[ex,ey] at fp
      have q:(X.take k++(r.toList++Y.drop m)).Perm (X.take k++((X.drop k++Y.take m)++Y.drop m)):=BZ _ (CF _ fp)
      have e3:X.take k++((X.drop k++Y.take m)++Y.drop m)=X++Y:=by
        rw[A9 (X.drop k),Ci, <- A9,Ci]
      rw[e3] at q
      exact q
    have inr:∀z∈r.toList,z∈X.drop k\/z∈Y.take m:=λz hz=>by
      have q:=fp.mem_iff.mp hz
      rw[ex,ey] at q
      exact Ax.mp q
    refine h _ (X.take k++(r.toList++Y.drop m)) perm ?_ ?_ ?_ (sm.k.trans k1) (sm.f.trans f1)
    · refine BI.mpr ⟨sx.sublist (BE _ _),BI.mpr ⟨fs,sy.sublist (Bs _ _),λp hp q hq =>?_⟩,λp hp q hq =>?_⟩
      · obtain ⟨n,hn,en⟩:=bg hq
        have hn2:n<Y.length:=(Al.mp en).1
        rcases inr p hp with z | z
        · have g:=e2 n hn hn2
          rw[en] at g
          exact A6 (xlle p (CT z)) g
        · obtain ⟨j,hj,ej⟩:=bp z
          exact aK sy ej en (by omega)
      · obtain ⟨n,hn,en⟩:=bp hp
        have g:=g1 n hn
        rw[en] at g
        rcases Ax.mp hq with z | z
        · rcases inr q z with z | z
          · obtain ⟨j,hj,ej⟩:=bg z
            exact aK sx en ej (by omega)
          · exact A6 g (y0le q (Cq z))
        · exact A6 g (y0le q (CT z))
    · show (r.toList.zipIdx.foldl (λa (p,j)=>a.setIfInBounds (P.length+k+j) p) (AK st')).toList=_
      rw[wr,sm.a,a1,ha,t1,t2]
      simp only[A9]
    · show AW st'=_
      rw[sm.p,p1]
  by_cases c3:X.length-k<=m
  · rw[if_pos c3]
    exact Az (yA C k1 uxa uya sxa sya (by omega) (by omega) (λp q hp hq=>first p q hp (bP hq)) lst λr st' sm fr=>post r st' sm fr)
  · rw[if_neg c3]
    exact Az (yC C k1 uxa uya sxa sya (by omega) (by omega) first lst λr st' sm fr=>post r st' sm fr)
end
open PySem PyProof.Rows
theorem wy (lo m:Nat):yv lo m=(do
    let mut n:=1
    for _ in [1:m] do
      let some sm ← ltAt' (lo+n) (lo+n-1)
        | return none
      if sm then break
      n:=n+1
    if n == m then return some n
    if n>1 then
      let some ro ← ltAt' lo (lo+n-1)
        | return none
      if ro then return some n
      reverseSlice' lo (lo+n)
    rule "list.sort.descending-run"
    n:=n+1
    let mut q:=0
    for _ in [n:m] do
      let some sm ← ltAt' (lo+n) (lo+n-1)
        | return none
      if sm then
        if q>0 then reverseSlice' (lo+n-(q+1)) (lo+n)
        q:=0
      else
        let some lg ← ltAt' (lo+n-1) (lo+n)
          | return none
        if lg then break
        q:=q+1
      n:=n+1
    if q>0 then reverseSlice' (lo+n-(q+1)) (lo+n)
    reverseSlice' lo (lo+n)
    for _ in [n:m] do
      let some sm ← ltAt' (lo+n) (lo+n-1)
        | return none
      if sm then break
      n:=n+1
    return some n):=rfl
theorem uK (lo n ok:Nat):uw lo n ok=(do
    for k in [max ok 1:n] do
      let mut l:=0;let mut r:=k
      for _ in [0:k] do
        if l≥r then break
        let m:=(l+r)/2
        let some le ← ltAt' (lo+k) (lo+m)
          | return false
        if le then r:=m else l:=m+1
      moveDown' (lo+k) (lo+l)
    return true):=rfl
section
variable  {O:Ee}(key:AD->O.α)
def kk (xs:Array AD)(i:Nat):O.α:=key ((xs[i]?).getD (BR,BR))
def Up (xs:Array AD)(lo n:Nat):Prop:=∀i j,lo<=i->i<=j->j<lo+n->O.kle (kk key xs i) (kk key xs j)
def Down (xs:Array AD)(lo n:Nat):Prop:=∀i j,lo<=i->i<=j->j<lo+n->O.kle (kk key xs j) (kk key xs i)
variable  {key}
theorem ib {xs ys:Array AD}{i j:Nat}(h:xs[i]? = ys[j]?):kk key xs i=kk key ys j:=by unfold kk;rw[h]
theorem lC {xs:Array AD}{i j:Nat}(hj:j<=xs.size)(k:Nat):kk key (mirror xs i j ((j-i)/2)) k=if i<=k/\k<j then kk key xs (i+j-1-k) else kk key xs k:=by
 have e:=F7 (i:=i) hj k
 by_cases h:i<=k/\k<j
 ·rw[if_pos h] at e ⊢;exact ib e
 ·rw[if_neg h] at e ⊢;exact ib e
theorem eV {xs:Array AD}{i j:Nat}(hj:j<=xs.size)(he:∀k,i<=k->k<j->kk key xs k=kk key xs (j-1))(k:Nat):kk key (mirror xs i j ((j-i)/2)) k=kk key xs k:=by
 rw[lC hj]
 split
 ·rw[he _ (by omega) (by omega),he k (by omega) (by omega)]
 ·rfl
end
structure SA (lo:Nat)(st st':A0):Prop where
 perm:(AK st').Perm (AK st)
 pre:∀k,k<lo->(AK st')[k]? = (AK st)[k]?
 k:kindOf st'=kindOf st
 p:AW st'=AW st
 f:failedOf st'=failedOf st
theorem SA.refl (lo:Nat)(st:A0):SA lo st st:=⟨Array.Perm.refl _,λ_ _=>rfl,rfl,rfl,rfl⟩
theorem SA.size {lo:Nat}{st st':A0}(h:SA lo st st'):(AK st').size=(AK st).size:=h.perm.size_eq
theorem SA.mirror {lo:Nat}{st st':A0}(h:SA lo st st'){i j:Nat}(hi:lo<=i)(hj:j<=(AK st').size):SA lo st (setArr st' (mirror (AK st') i j ((j-i)/2))) :=
 ⟨(mirror_perm _ _ _ _).trans h.perm,λk hk=>by
  show (PyProof.Rows.mirror (AK st') i j ((j-i)/2))[k]? = _
  rw[F7 hj,if_neg (by omega)]
  exact h.pre k hk,h.k,h.p,h.f⟩
theorem SA.mem {lo:Nat}{st st':A0}(h:SA lo st st'){p:AD}(hp:p∈(AK st').toList):p∈(AK st).toList:=(Et.mp h.perm).mem_iff.mp hp
section
variable  {prog:Au}{w:AX}{A:A7}{E:Ae->Ag->Prop}{s:Ag}{O:Ee}{key:AD->O.α}{U:AD->Prop}{κ:SortKind}
theorem fZ (C:Cmp prog w A s O key U κ){st:A0}{i j:Nat}{Q:Option Bool->A0->Prop}(hκ:kindOf st=κ)(hu:∀p∈(AK st).toList,U p)(hi:i<(AK st).size)(hj:j<(AK st).size)
  (h:Q (some (O.blt (kk key (AK st) i) (kk key (AK st) j))) st):wpS (AQ prog w) A E s (ltAt' i j) Q st:=by
 rw[ltAt'_eq]
 refine Az (Ff ?_)
 obtain ⟨x,ex⟩:=bo hi
 obtain ⟨y,ey⟩:=bo hj
 dsimp only
 refine Az (bh ex (Az (bh ey (C.lt _ st x y _ hκ (hu _ (bP ex)) (hu _ (bP ey)) ?_))))
 unfold kk at h
 rw[ex,ey] at h
 exact h
theorem wA (C:Cmp prog w A s O key U κ){st:A0}{lo m:Nat}{Q:Option Nat->A0->Prop}(hκ:kindOf st=κ)(hu:∀p∈(AK st).toList,U p)(hm:1<=m)(hz:lo+m=(AK st).size)
  (h:∀n st',1<=n->n<=m->SA lo st st'->Up key (AK st') lo n->Q (some n) st'):wpS (AQ prog w) A E s (yv lo m) Q st:=by
 rw[wy]
 dsimp only
 refine Az (Cg (Bx (I:=λx c st'=>st=st'/\c=(none,x)/\Up key (AK st) lo x)
  (Q:=λc st'=>st=st'/\∃n,c=(none,n)/\1<=n/\n<=m/\Up key (AK st) lo n/\(n<m->O.klt (kk key (AK st) (lo+n)) (kk key (AK st) (lo+n-1)))) ?step ?fin ⟨rfl,rfl,λi j h1 h2 h3=>by rw[show i=j by omega];exact B0 _⟩) ?post)
 case fin =>
  rintro c st' ⟨rfl,rfl,up⟩
  exact ⟨rfl,_,rfl,by omega,by omega,by rw[show max 1 m=m by omega] at up ⊢;exact up,by omega⟩
 case step =>
  rintro x c st' h1 h2 ⟨rfl,rfl,up⟩
  dsimp only
  refine Az (fZ C hκ hu (by omega) (by omega) ?_)
  dsimp only
  cases hb:O.blt (kk key (AK st) (lo+x)) (kk key (AK st) (lo+x-1)) with
  | true =>
   rw[if_pos rfl]
   exact AF ⟨rfl,x,rfl,h1,by omega,up,λ_=>hb⟩
  | false =>
   rw[if_neg (by simp)]
   refine AF ⟨rfl,rfl,λi j k1 k2 k3 =>?_⟩
   by_cases hj:j=lo+x
   ·by_cases hi:i=j
    ·rw[hi];exact B0 _
    ·rw[hj]
     exact A6 (up i (lo+x-1) k1 (by omega) (by omega)) hb
   ·exact up i j k1 k2 (by omega)
 case post =>
  rintro c st' ⟨rfl,n,rfl,n1,n2,up,br⟩
  dsimp only
  by_cases c1:(n == m)=true
  ·rw[if_pos c1]
   exact AF (h n st n1 n2 (SA.refl _ _) up)
  rw[if_neg c1]
  have nm:n<m:=by have:n≠m:=λz=>c1 (beq_iff_eq.mpr z);omega
  have br:=br nm
  by_cases c2:n>1
  case' pos =>
   rw[if_pos c2]
   refine Az (fZ C hκ hu (by omega) (by omega) ?_)
   dsimp only
   cases hro:O.blt (kk key (AK st) lo) (kk key (AK st) (lo+n-1))
   case' true =>
    rw[if_pos rfl]
    exact AF (h n st n1 n2 (SA.refl _ _) up)
   rw[if_neg (by simp)]
   have eqs:∀k,lo<=k->k<lo+n->kk key (AK st) k=kk key (AK st) (lo+n-1):=λk k1 k2 =>
    F1 (up k (lo+n-1) k1 (by omega) (by omega)) (A6 (show O.kle (kk key (AK st) (lo+n-1)) (kk key (AK st) lo) from hro) (up lo k (Ah _) k1 k2))
   rw[D9]
   refine Az (Cw ?_)
   have sa:=(SA.refl lo st).mirror (i:=lo) (j:=lo+n) (Ah _) (by omega)
   have ke:=eV (key:=key) (xs:=AK st) (i:=lo) (j:=lo+n) (by omega) eqs
   have ka:∀k,kk key (AK (setArr st (mirror (AK st) lo (lo+n) ((lo+n-lo)/2)))) k=kk key (AK st) k:=ke
   generalize setArr st (mirror (AK st) lo (lo+n) ((lo+n-lo)/2))=st1 at sa ka ⊢
   clear ke
  case' neg =>
   rw[if_neg c2]
   have eqs:∀k,lo<=k->k<lo+n->kk key (AK st) k=kk key (AK st) (lo+n-1):=λk k1 k2=>by rw[show k=lo+n-1 by omega]
   obtain ⟨st1,e1⟩:∃st1,st1=st:=⟨_,rfl⟩
   have sa:SA lo st st1:=by rw[e1];exact SA.refl _ _
   have ka:∀k,kk key (AK st1) k=kk key (AK st) k:=λk=>by rw[e1]
   rw[<- e1]
   clear e1
  all_goals
   refine Az (FQ (DV ⟨rfl,?_⟩))
   have dn:Down key (AK st1) lo (n+1):=λi j k1 k2 k3=>by
    rw[ka,ka]
    by_cases hj:j=lo+n
    ·by_cases hi:i=j
     ·rw[hi];exact B0 _
     ·rw[hj,eqs i k1 (by omega)]
      exact BF br
    ·rw[eqs i k1 (by omega),eqs j (by omega) (by omega)]
     exact B0 _
   clear eqs up br ka
   refine Az (Cg (Bx (I:=λx c st'=>∃q,c=(none,x,q)/\x<=m/\SA lo st st'/\Down key (AK st') lo x/\q+1<=x/\∀k,lo+x-(q+1)<=k->k<lo+x->kk key (AK st') k=kk key (AK st') (lo+x-1))
    (Q:=λc st'=>∃x q,c=(none,x,q)/\1<=x/\x<=m/\SA lo st st'/\Down key (AK st') lo x/\q+1<=x/\∀k,lo+x-(q+1)<=k->k<lo+x->kk key (AK st') k=kk key (AK st') (lo+x-1)) ?step ?fin
    ⟨0,rfl,by omega,sa,dn,by omega,λk k1 k2=>by rw[show k=lo+(n+1)-1 by omega]⟩) ?post)
   case fin =>
    rintro c st' ⟨q,rfl,xm,sa,dn,hq,he⟩
    exact ⟨_,q,rfl,by omega,xm,sa,dn,hq,he⟩
   case step =>
    rintro x c st2 h1 h2 ⟨q,rfl,xm,sa2,dn2,hq,he⟩
    dsimp only
    have sz:=sa2.size
    have u2:∀p∈(AK st2).toList,U p:=λp hp=>hu p (sa2.mem hp)
    refine Az (fZ C (sa2.k.trans hκ) u2 (by omega) (by omega) ?_)
    dsimp only
    cases hb:O.blt (kk key (AK st2) (lo+x)) (kk key (AK st2) (lo+x-1)) with
    | true =>
     rw[if_pos rfl]
     have dn3:Down key (AK st2) lo (x+1):=λi j k1 k2 k3=>by
      by_cases hj:j=lo+x
      ·by_cases hi:i=j
       ·rw[hi];exact B0 _
       ·rw[hj];exact A6 (BF hb) (dn2 i (lo+x-1) k1 (by omega) (by omega))
      ·exact dn2 i j k1 k2 (by omega)
     by_cases q0:q>0
     ·rw[if_pos q0,D9]
      refine Az (Cw (AF ?_))
      have ke:=eV (key:=key) (xs:=AK st2) (i:=lo+x-(q+1)) (j:=lo+x) (by omega) he
      refine ⟨0,rfl,by omega,sa2.mirror (by omega) (by omega),λi j k1 k2 k3 =>?_,by omega,λk k1 k2=>by rw[show k=lo+(x+1)-1 by omega]⟩
      show O.kle (kk key (mirror (AK st2) (lo+x-(q+1)) (lo+x) ((lo+x-(lo+x-(q+1)))/2)) j) (kk key (mirror (AK st2) (lo+x-(q+1)) (lo+x) ((lo+x-(lo+x-(q+1)))/2)) i)
      rw[ke,ke]
      exact dn3 i j k1 k2 k3
     ·rw[if_neg q0]
      exact AF ⟨0,rfl,by omega,sa2,dn3,by omega,λk k1 k2=>by rw[show k=lo+(x+1)-1 by omega]⟩
    | false =>
     rw[if_neg (by simp)]
     refine Az (fZ C (sa2.k.trans hκ) u2 (by omega) (by omega) ?_)
     dsimp only
     cases hb2:O.blt (kk key (AK st2) (lo+x-1)) (kk key (AK st2) (lo+x)) with
     | true =>
      rw[if_pos rfl]
      exact AF ⟨x,q,rfl,by omega,xm,sa2,dn2,hq,he⟩
     | false =>
      rw[if_neg (by simp)]
      have eq:=F1 (show O.kle (kk key (AK st2) (lo+x)) (kk key (AK st2) (lo+x-1)) from hb2) hb
      refine AF ⟨q+1,rfl,by omega,sa2,λi j k1 k2 k3 =>?_,by omega,λk k1 k2 =>?_⟩
      ·by_cases hj:j=lo+x
       ·by_cases hi:i=j
        ·rw[hi];exact B0 _
        ·rw[hj,eq];exact dn2 i (lo+x-1) k1 (by omega) (by omega)
       ·exact dn2 i j k1 k2 (by omega)
      ·rw[show lo+(x+1)-1=lo+x by omega,eq]
       by_cases hk:k=lo+x
       ·rw[hk,eq]
       ·exact he k (by omega) (by omega)
   case post =>
    rintro c st2 ⟨x,q,rfl,x1,xm,sa2,dn2,hq,he⟩
    dsimp only
    have sz:=sa2.size
    by_cases q0:q>0
    case' pos =>
     rw[if_pos q0,D9]
     refine Az (Cw ?_)
     have ke:=eV (key:=key) (xs:=AK st2) (i:=lo+x-(q+1)) (j:=lo+x) (by omega) he
     have sa3:=sa2.mirror (i:=lo+x-(q+1)) (j:=lo+x) (by omega) (by omega)
     have dn3:Down key (AK (setArr st2 (mirror (AK st2) (lo+x-(q+1)) (lo+x) ((lo+x-(lo+x-(q+1)))/2)))) lo x:=λi j k1 k2 k3=>by
      show O.kle (kk key (mirror (AK st2) (lo+x-(q+1)) (lo+x) ((lo+x-(lo+x-(q+1)))/2)) j) (kk key (mirror (AK st2) (lo+x-(q+1)) (lo+x) ((lo+x-(lo+x-(q+1)))/2)) i)
      rw[ke,ke]
      exact dn2 i j k1 k2 k3
     generalize setArr st2 (mirror (AK st2) (lo+x-(q+1)) (lo+x) ((lo+x-(lo+x-(q+1)))/2))=st3 at sa3 dn3 ⊢
     clear ke
    case' neg =>
     rw[if_neg q0]
     obtain ⟨st3,e3⟩:∃st3,st3=st2:=⟨_,rfl⟩
     have sa3:SA lo st st3:=by rw[e3];exact sa2
     have dn3:Down key (AK st3) lo x:=by rw[e3];exact dn2
     rw[<- e3]
     clear e3
    all_goals
     rw[D9]
     refine Az (Cw ?_)
     have sz3:=sa3.size
     have sa4:=sa3.mirror (i:=lo) (j:=lo+x) (Ah _) (by omega)
     have km:=lC (key:=key) (xs:=AK st3) (i:=lo) (j:=lo+x) (by omega)
     have up4:Up key (AK (setArr st3 (mirror (AK st3) lo (lo+x) ((lo+x-lo)/2)))) lo x:=λi j k1 k2 k3=>by
      show O.kle (kk key (mirror (AK st3) lo (lo+x) ((lo+x-lo)/2)) i) (kk key (mirror (AK st3) lo (lo+x) ((lo+x-lo)/2)) j)
      rw[km,km,if_pos ⟨by omega,by omega⟩,if_pos ⟨by omega,by omega⟩]
      exact dn3 _ _ (by omega) (by omega) (by omega)
     generalize setArr st3 (mirror (AK st3) lo (lo+x) ((lo+x-lo)/2))=st4 at sa4 up4 ⊢
     clear km
     have u4:∀p∈(AK st4).toList,U p:=λp hp=>hu p (sa4.mem hp)
     have sz4:=sa4.size
     refine Az (Cg (Bx (I:=λz c st'=>st4=st'/\c=(none,z)/\z<=m/\Up key (AK st4) lo z)
      (Q:=λc st'=>st4=st'/\∃z,c=(none,z)/\1<=z/\z<=m/\Up key (AK st4) lo z) ?step ?fin ⟨rfl,rfl,xm,up4⟩) ?post)
     case fin =>
      rintro c st' ⟨rfl,rfl,zm,up⟩
      exact ⟨rfl,_,rfl,by omega,zm,up⟩
     case post =>
      rintro c st' ⟨rfl,z,rfl,z1,zm,up⟩
      exact AF (h z st4 z1 zm sa4 up)
     case step =>
      rintro z c st' h1 h2 ⟨rfl,rfl,zm,up⟩
      dsimp only
      refine Az (fZ C (sa4.k.trans hκ) u4 (by omega) (by omega) ?_)
      dsimp only
      cases hb:O.blt (kk key (AK st4) (lo+z)) (kk key (AK st4) (lo+z-1)) with
      | true =>
       rw[if_pos rfl]
       exact AF ⟨rfl,z,rfl,by omega,zm,up⟩
      | false =>
       rw[if_neg (by simp)]
       refine AF ⟨rfl,rfl,by omega,λi j k1 k2 k3 =>?_⟩
       by_cases hj:j=lo+z
       ·by_cases hi:i=j
        ·rw[hi];exact B0 _
        ·rw[hj];exact A6 (up i (lo+z-1) k1 (by omega) (by omega)) hb
       ·exact up i j k1 k2 (by omega)
theorem lD {xs:Array AD}{src d:Nat}(hs:src<xs.size)(hd:d<=src)(k:Nat) :
  kk key (bubble xs src d) k=if k=src-d then kk key xs src else if src-d<k/\k<=src then kk key xs (k-1) else kk key xs k:=by
 have e:=getElem?_bubble hs d hd k
 by_cases h1:k=src-d
 ·rw[if_pos h1] at e ⊢;exact ib e
 ·rw[if_neg h1] at e ⊢
  by_cases h2:src-d<k/\k<=src
  ·rw[if_pos h2] at e ⊢;exact ib e
  ·rw[if_neg h2] at e ⊢;exact ib e
theorem SA.bubble {lo:Nat}{st st':A0}(h:SA lo st st'){src d:Nat}(hs:src<(AK st').size)(hd:lo+d<=src):SA lo st (setArr st' (bubble (AK st') src d)) :=
 ⟨(bubble_perm _ _ _).trans h.perm,λk hk=>by
  show (PyProof.Rows.bubble (AK st') src d)[k]? = _
  rw[getElem?_bubble hs d (by omega),if_neg (by omega),if_neg (by omega)]
  exact h.pre k hk,h.k,h.p,h.f⟩
theorem uL (C:Cmp prog w A s O key U κ){st:A0}{lo n ok:Nat}{Q:Bool->A0->Prop}(hκ:kindOf st=κ)(hu:∀p∈(AK st).toList,U p)(hn:lo+n<=(AK st).size)(hok:ok<=n)(up:Up key (AK st) lo ok)
  (h:∀st',SA lo st st'->Up key (AK st') lo n->Q true st'):wpS (AQ prog w) A E s (uw lo n ok) Q st:=by
 rw[uK]
 dsimp only
 refine Az (Cg (Bx (I:=λx c st'=>c=(none,())/\SA lo st st'/\Up key (AK st') lo (min x n)) (Q:=λc st'=>c=(none,())/\SA lo st st'/\Up key (AK st') lo n) ?step ?fin ⟨rfl,SA.refl _ _,λi j k1 k2 k3 =>?_⟩) ?post)
 case post =>
  rintro c st' ⟨rfl,sa,up⟩
  exact AF (h st' sa up)
 case fin =>
  rintro c st' ⟨rfl,sa,up⟩
  refine ⟨rfl,sa,?_⟩
  rw[show min (max (max ok 1) n) n=n by omega] at up
  exact up
 case step =>
  rintro k c st1 h1 h2 ⟨rfl,sa1,up1⟩
  rw[show min k n=k by omega] at up1
  have sz:=sa1.size
  have u1:∀p∈(AK st1).toList,U p:=λp hp=>hu p (sa1.mem hp)
  refine Az (Cg (Bx (I:=λx c st'=>st1=st'/\∃l r,c=(none,l,r)/\l<=r/\r<=k/\r-l<=k-x/\(∀i,i<l->O.kle (kk key (AK st1) (lo+i)) (kk key (AK st1) (lo+k)))/\(∀i,r<=i->i<k->O.klt (kk key (AK st1) (lo+k)) (kk key (AK st1) (lo+i))))
   (Q:=λc st'=>st1=st'/\∃l r,c=(none,l,r)/\l<=k/\(∀i,i<l->O.kle (kk key (AK st1) (lo+i)) (kk key (AK st1) (lo+k)))/\(∀i,l<=i->i<k->O.klt (kk key (AK st1) (lo+k)) (kk key (AK st1) (lo+i)))) ?istep ?ifin ⟨rfl,0,k,rfl,by omega,by omega,by omega,λi hi=>by omega,λi a1 a2=>by omega⟩) ?ipost)
  case ifin =>
   rintro c st' ⟨rfl,l,r,rfl,b1,b2,b3,b4,b5⟩
   have e:l=r:=by omega
   subst e
   exact ⟨rfl,l,l,rfl,b2,b4,b5⟩
  case istep =>
   rintro x c st' _ hx ⟨rfl,l,r,rfl,b1,b2,b3,b4,b5⟩
   dsimp only
   by_cases hge:l≥r
   ·rw[if_pos hge]
    have e:l=r:=by omega
    subst e
    exact AF ⟨rfl,l,l,rfl,b2,b4,b5⟩
   ·rw[if_neg hge]
    refine Az (fZ C (sa1.k.trans hκ) u1 (by omega) (by omega) ?_)
    dsimp only
    cases hb:O.blt (kk key (AK st1) (lo+k)) (kk key (AK st1) (lo+(l+r)/2)) with
    | true =>
     rw[if_pos rfl]
     exact AF ⟨rfl,l,(l+r)/2,rfl,by omega,by omega,by omega,b4,λi a1 a2=>KeyOrd.klt_of_klt_of_kle hb (up1 _ _ (by omega) (by omega) (by omega))⟩
    | false =>
     rw[if_neg (by simp)]
     exact AF ⟨rfl,(l+r)/2+1,r,rfl,by omega,by omega,by omega,λi a1=>A6 (up1 (lo+i) (lo+(l+r)/2) (by omega) (by omega) (by omega)) hb,b5⟩
  case ipost =>
   rintro c st' ⟨rfl,l,r,rfl,b2,b4,b5⟩
   dsimp only
   rw[moveDown'_eq]
   have e:lo+k-(lo+l)=k-l:=by omega
   refine Az (Cw (AF ⟨rfl,?_,?_⟩))
   ·rw[e]
    exact sa1.bubble (by omega) (by omega)
   ·rw[show min (k+1) n=k+1 by omega]
    intro i j k1 k2 k3
    show O.kle (kk key (bubble (AK st1) (lo+k) (lo+k-(lo+l))) i) (kk key (bubble (AK st1) (lo+k) (lo+k-(lo+l))) j)
    have lt:lo+k<(AK st1).size:=by omega
    rw[e,lD lt (by omega),lD lt (by omega),show lo+k-(k-l)=lo+l by omega]
    have b4':∀z,lo<=z->z<lo+l->O.kle (kk key (AK st1) z) (kk key (AK st1) (lo+k)):=λz z1 z2=>by
     have:=b4 (z-lo) (by omega)
     rw[show lo+(z-lo)=z by omega] at this
     exact this
    have b5':∀z,lo+l<=z->z<lo+k->O.kle (kk key (AK st1) (lo+k)) (kk key (AK st1) z):=λz z1 z2=>by
     have:=b5 (z-lo) (by omega) (by omega)
     rw[show lo+(z-lo)=z by omega] at this
     exact BF this
    repeat' split
    all_goals first
     | (exfalso;omega)
     | exact B0 _
     | exact b4' _ (by omega) (by omega)
     | exact b5' _ (by omega) (by omega)
     | exact up1 _ _ (by omega) (by omega) (by omega)
 ·by_cases h1:ok=0
  ·rw[show i=j by omega];exact B0 _
  ·exact up i j k1 k2 (by omega)
end
open PySem PyProof.Rows
def pwr:Nat->Nat->Nat->Nat->Nat:=sortPriv% PySem.Builtin.power
def mrn:Nat->Nat->Nat->Nat:=sortPriv% PySem.Builtin.minRun
theorem uM:xM=(do
    let sz:=(AK (← get)).size
    let mr:=mrn sz sz 0
    let mut lo:=0
    for _ in [0:sz] do
      if lo≥sz then break
      let some fd ← yv lo (sz-lo)
        | return
      let mut n:=fd
      if n<mr then
        rule "list.sort.binary-insertion"
        let fo:=min (sz-lo) mr
        if !(← uw lo fo n) then return
        n:=fo
      if let some (s1,n1,_):=(AW (← get)).back? then
        let pw:=pwr sz (2*s1+n1) (2*s1+n1+n1+n) sz
        for _ in [0:sz] do
          let p:=AW (← get)
          let some (_,_,old):=(if p.size>1 then p[p.size-2]? else none)
            | break
          if old<=pw then break
          if !(← mAt (p.size-2)) then return
        modify λs=>SortSt.mk' (kindOf s) (AK s) ((AW s).modify ((AW s).size-1) λ(st,len,_)=>(st,len,pw)) (gallopOf s) (failedOf s)
      modify λs=>SortSt.mk' (kindOf s) (AK s) ((AW s).push (lo,n,0)) (gallopOf s) (failedOf s)
      lo:=lo+n
    for _ in [0:sz] do
      let p:=AW (← get)
      if p.size<=1 then break
      let i:=p.size-2
      let bf:=if i>0 then p[i-1]?.map (·.2.1) else none
      let i:=if bf.any (· < (p[i+1]?.elim 0 (·.2.1))) then i-1 else i
      if !(← mAt i) then return):=rfl
def Mt:Nat->List (List AD)->List (Nat×Nat×Nat)->Prop
 | _,[],[]=>True
 | off,r :: rs,p :: ps=>p.1=off/\p.2.1=r.length/\Mt (off+r.length) rs ps
 | _,_,_=>False
theorem Mt.length:∀{off:Nat} {rs:List (List AD)} {ps:List (Nat×Nat×Nat)},Mt off rs ps->ps.length=rs.length
 | _,[],[],_=>rfl
 | _,_ :: _,_ :: _,h=>by rw[Ba,Ba,Mt.length h.2.2]
theorem Mt.append:∀{off:Nat} {rs ts:List (List AD)} {ps us:List (Nat×Nat×Nat)},Mt off rs ps->Mt (off+rs.flatten.length) ts us->Mt off (rs++ts) (ps++us)
 | _,[],_,[],_,_,h=>by simpa using h
 | off,r :: rs,ts,p :: ps,us,h,h'=>by
  refine ⟨h.1,h.2.1,Mt.append h.2.2 ?_⟩
  rw[ET,Am, <- Ie] at h'
  exact h'
theorem Mt.split:∀{off:Nat} {rs:List (List AD)} {ps:List (Nat×Nat×Nat)} (i:Nat),Mt off rs ps->i+1<ps.length →
  ∃R1 X Y R2 L1 w1 w2 L2,rs=R1++X :: Y :: R2/\ps=L1++(off+R1.flatten.length,X.length,w1) :: (off+R1.flatten.length+X.length,Y.length,w2) :: L2/\L1.length=i/\Mt off R1 L1/\Mt (off+R1.flatten.length+X.length+Y.length) R2 L2
 | off,r :: r2 :: rs,p :: p2 :: ps,0,h,_=>by
  obtain ⟨a,b,w1⟩:=p
  obtain ⟨c,d,w2⟩:=p2
  obtain ⟨h1,h2,h3,h4,h5⟩:=h
  dsimp only at h1 h2 h3 h4
  subst h1 h2 h3 h4
  exact ⟨[],r,r2,rs,[],w1,w2,ps,rfl,rfl,rfl,trivial,h5⟩
 | off,r :: rs,p :: ps,i+1,h,hl=>by
  rw[Ba] at hl
  obtain ⟨R1,X,Y,R2,L1,w1,w2,L2,e1,e2,e3,m1,m2⟩:=Mt.split i h.2.2 (by omega)
  have ea:off+(r :: R1).flatten.length=off+r.length+R1.flatten.length:=by rw[ET,Am];omega
  refine ⟨r :: R1,X,Y,R2,p :: L1,w1,w2,L2,by rw[e1];rfl,?_,by rw[Ba,e3],⟨h.1,h.2.1,m1⟩,?_⟩
  ·rw[ea,e2];rfl
  ·rw[ea];exact m2
 | off,[],[],i,_,hl=>by simp at hl
 | off,[_],[_],0,_,hl=>by simp at hl
theorem Mt.modify (f:Nat×Nat×Nat->Nat×Nat×Nat)(hf:∀p,(f p).1=p.1/\(f p).2.1=p.2.1):∀{off:Nat} {rs:List (List AD)} {ps:List (Nat×Nat×Nat)} (i:Nat),Mt off rs ps->Mt off rs (ps.modify i f)
 | _,[],[],i,_=>by cases i <;> exact trivial
 | off,r :: rs,p :: ps,0,h=>⟨(hf p).1.trans h.1,(hf p).2.trans h.2.1,h.2.2⟩
 | off,r :: rs,p :: ps,i+1,h=>⟨h.1,h.2.1,Mt.modify f hf i h.2.2⟩
theorem sC {α:Type}(l:List α)(a b c:α)(r:List α):((l++a :: b :: r).set l.length c).eraseIdx (l.length+1)=l++c :: r:=by
 induction l with
 | nil=>rfl
 | cons x l ih=>simp only[List.cons_append,Ba,List.set_cons_succ,E8,ih]
section
variable  {O:Ee}(key:AD->O.α)(U:AD->Prop)(κ:SortKind)
structure Rn (a0:List AD)(lo:Nat)(st:A0):Prop where
 ex:∃runs rest,(AK st).toList=runs.flatten++rest/\runs.flatten.length=lo/\(∀r∈runs,r.Pairwise (Le key)/\0<r.length)/\Mt 0 runs (AW st).toList
 perm:(AK st).toList.Perm a0
 k:kindOf st=κ
 f:failedOf st=none
end
section
variable  {prog:Au}{w:AX}{A:A7}{E:Ae->Ag->Prop}{s:Ag}{O:Ee}{key:AD->O.α}{U:AD->Prop}{κ:SortKind}
theorem nK (C:Cmp prog w A s O key U κ){a0:List AD}{lo i:Nat}{st:A0}{Q:Bool->A0->Prop}(hu:∀p∈a0,U p)(R:Rn key κ a0 lo st)(hi:i+1<(AW st).size)
  (h:∀st',Rn key κ a0 lo st'->(AW st').size+1=(AW st).size->(AK st').toList.drop lo=(AK st).toList.drop lo->Q true st'):wpS (AQ prog w) A E s (mAt i) Q st:=by
 obtain ⟨runs,rest,ea,el,er,em⟩:=R.ex
 obtain ⟨R1,X,Y,R2,L1,w1,w2,L2,e1,e2,e3,m1,m2⟩:=Mt.split i em (by rw[Ak];exact hi)
 subst e1
 rw[Di] at e2 m2
 have hx:=er X (by simp)
 have hy:=er Y (by simp)
 have ga:(AW st)[i]? = some (R1.flatten.length,X.length,w1):=by
  rw[<- Aq,e2, <- e3,show L1.length=L1.length+0 by omega,pN];rfl
 have gb:(AW st)[i+1]? = some (R1.flatten.length+X.length,Y.length,w2):=by
  rw[<- Aq,e2, <- e3,pN];rfl
 refine yE C (P:=R1.flatten) (X:=X) (Y:=Y) (S:=R2.flatten++rest) R.k R.f (by rw[ea];simp) (λp hp=>hu p (R.perm.mem_iff.mp hp)) ga gb hx.2 hy.2 hx.1 hy.1 λst' M pm sm ar pd kd fl =>?_
 have lm:M.length=X.length+Y.length:=by rw[pm.length_eq,Am]
 have ep:(AW st').toList=L1++(R1.flatten.length,X.length+Y.length,w1) :: L2:=by
  rw[pd,Array.toList_eraseIdxIfInBounds,Es,e2, <- e3]
  exact sC _ _ _ _ _
 refine h st' ⟨⟨R1++M :: R2,rest,?_,?_,λr hr =>?_,?_⟩,?_,kd,fl⟩ ?_ ?_
 ·rw[ar];simp
 ·rw[<- el];simp[lm];omega
 ·rcases Ax.mp hr with q | q
  ·exact er r (by simp[q])
  ·rcases AH.mp q with q | q
   ·rw[q];exact ⟨sm,by have:=hx.2;omega⟩
   ·exact er r (by simp[q])
 ·rw[ep]
  refine Mt.append m1 ⟨by rw[Di],lm.symm,?_⟩
  rw[Di,lm, <- Ie]
  exact m2
 ·rw[ar]
  refine List.Perm.trans ?_ R.perm
  rw[ea,show (R1++X :: Y :: R2).flatten++rest=R1.flatten++((X++Y)++(R2.flatten++rest)) by simp]
  exact BZ _ (CF _ pm)
 ·rw[<- Ak, <- Ak,ep,e2]
  simp only[Am,Ba]
  omega
 ·have l1:(R1++M :: R2).flatten.length=lo:=by rw[<- el];simp[lm];omega
  have q1:(AK st').toList=(R1++M :: R2).flatten++rest:=by rw[ar];simp
  rw[q1,ea, <- l1,EH,l1, <- el,EH]
theorem Rn.sa {a0:List AD}{lo:Nat}{st st':A0}(R:Rn key κ a0 lo st)(sa:SA lo st st'):Rn key κ a0 lo st':=by
 obtain ⟨runs,rest,ea,el,er,em⟩:=R.ex
 have et:(AK st').toList.take lo=runs.flatten:=by
  have e1:(AK st').toList.take lo=(AK st).toList.take lo:=by
   refine EU λi =>?_
   rw[BK,BK]
   split
   ·rw[Aq,Aq];exact sa.pre i (by assumption)
   ·rfl
  rw[e1,ea, <- el,List.take_left]
 refine ⟨⟨runs,(AK st').toList.drop lo,by rw[<- et,Ci],el,er,by rw[sa.p];exact em⟩,(Et.mp sa.perm).trans R.perm,sa.k.trans R.k,sa.f.trans R.f⟩
theorem sH {xs:Array AD}{lo n:Nat}(h:Up key xs lo n):((xs.toList.drop lo).take n).Pairwise (Le key):=by
 refine Du.mpr λi j hi hj hij =>?_
 have get:∀k (hk:k<((xs.toList.drop lo).take n).length),key ((xs.toList.drop lo).take n)[k]=kk key xs (lo+k)/\k<n:=λk hk=>by
  have hk':=hk
  rw[Bg] at hk'
  refine ⟨?_,by omega⟩
  have e:((xs.toList.drop lo).take n)[k]? = xs[lo+k]? := by
   rw[BK,if_pos (by omega),Dc,Aq]
  rw[Aw hk] at e
  unfold kk
  rw[<- e];rfl
 obtain ⟨e1,l1⟩:=get i hi
 obtain ⟨e2,l2⟩:=get j hj
 show O.kle (key _) (key _)
 rw[e1,e2]
 exact h _ _ (by omega) (by omega) (by omega)
theorem Rn.push {a0:List AD}{lo n:Nat}{st:A0}(R:Rn key κ a0 lo st)(hn:0<n)(hz:lo+n<=(AK st).size)(hs:(((AK st).toList.drop lo).take n).Pairwise (Le key)) :
  Rn key κ a0 (lo+n) (SortSt.mk' (kindOf st) (AK st) ((AW st).push (lo,n,0)) (gallopOf st) (failedOf st)):=by
 obtain ⟨runs,rest,ea,el,er,em⟩:=R.ex
 have ed:(AK st).toList.drop lo=rest:=by rw[ea, <- el,EH]
 rw[ed] at hs
 have lr:n<=rest.length:=by
  have:=congrArg List.length ea
  rw[Ak,Am,el] at this
  omega
 have lt:(rest.take n).length=n:=by rw[Bg];omega
 refine ⟨⟨runs++[rest.take n],rest.drop n,?_,?_,λr hr =>?_,?_⟩,R.perm,R.k,R.f⟩
 ·show (AK st).toList=_
  rw[ea];simp
 ·simp[lt,el]
 ·rcases Ax.mp hr with q | q
  ·exact er r q
  ·have e:r=rest.take n:=by simpa using q
   rw[e];exact ⟨hs,by omega⟩
 ·show Mt 0 _ ((AW st).push (lo,n,0)).toList
  rw[BX]
  exact Mt.append em ⟨by show lo=_;omega,lt.symm,trivial⟩
theorem Rn.mod {a0:List AD}{lo:Nat}{st:A0}(R:Rn key κ a0 lo st)(i:Nat)(f:Nat×Nat×Nat->Nat×Nat×Nat)(hf:∀p,(f p).1=p.1/\(f p).2.1=p.2.1):Rn key κ a0 lo (SortSt.mk' (kindOf st) (AK st) ((AW st).modify i f) (gallopOf st) (failedOf st)):=by
 obtain ⟨runs,rest,ea,el,er,em⟩:=R.ex
 refine ⟨⟨runs,rest,ea,el,er,?_⟩,R.perm,R.k,R.f⟩
 show Mt 0 runs ((AW st).modify i f).toList
 rw[Array.toList_modify]
 exact Mt.modify f hf i em
theorem yF {c:Prop}[Decidable c]{n:Nat}(h:1<n):(if c then n-2-1 else n-2)+1<n:=by split <;> omega
theorem lE:∀{runs:List (List AD)},(∀r∈runs,0<r.length)->runs.length<=runs.flatten.length
 | [],_=>Ah _
 | r :: rs,h=>by
  have h1:=h r AU
  have h2:=lE λq hq=>h q (AM _ hq)
  rw[ET,Am,Ba]
  omega
theorem uN (C:Cmp prog w A s O key U κ){a0:List AD}{st:A0}{Q:Unit->A0->Prop}(hu:∀p∈a0,U p)(ha:(AK st).toList=a0)(hp:AW st = #[])(hk:kindOf st=κ)(hf:failedOf st=none)(h1:1<=a0.length)
  (h:∀st',(AK st').toList.Perm a0->(AK st').toList.Pairwise (Le key)->failedOf st'=none->Q () st'):wpS (AQ prog w) A E s xM Q st:=by
 rw[uM]
 refine Az (Ff ?_)
 dsimp only
 have sz0:(AK st).size=a0.length:=by rw[<- Ak,ha]
 have szR:∀{lo:Nat} {st':A0},Rn key κ a0 lo st'->(AK st').size=(AK st).size:=λR=>by rw[<- Ak,R.perm.length_eq,sz0]
 have uR:∀{lo:Nat} {st':A0},Rn key κ a0 lo st'->∀p∈(AK st').toList,U p:=λR p hp=>hu p (R.perm.mem_iff.mp hp)
 have R0:Rn key κ a0 0 st:=⟨⟨[],a0,by rw[ha];rfl,rfl,λr hr=>(by cases hr),by rw[hp];exact trivial⟩,by rw[ha],hk,hf⟩
 refine Az (Cg (Bx (I:=λx c st'=>∃lo,c=(none,lo)/\x<=lo/\lo<=(AK st).size/\Rn key κ a0 lo st') (Q:=λc st'=>c=(none,(AK st).size)/\Rn key κ a0 (AK st).size st') ?step ?fin ⟨0,rfl,Ah _,A5 _,R0⟩) ?post)
 case fin =>
  rintro c st' ⟨lo,rfl,l1,l2,R⟩
  obtain rfl:lo=(AK st).size:=by omega
  exact ⟨rfl,R⟩
 case post =>
  rintro c st1 ⟨rfl,R⟩
  dsimp only
  have p0:(AW st1).size<=(AK st).size:=by
   obtain ⟨runs,rest,ea,el,er,em⟩:=R.ex
   have q:=em.length
   rw[Ak] at q
   have:=lE λr hr=>(er r hr).2
   omega
  refine Az (Cg (Bx (I:=λx c st'=>c=(none,())/\Rn key κ a0 (AK st).size st'/\((AW st').size<=1\/(AW st').size+x<=(AK st).size)) (Q:=λc st'=>c=(none,())/\Rn key κ a0 (AK st).size st'/\(AW st').size<=1) ?stepB ?finB ⟨rfl,R,.inr (by omega)⟩) ?postB)
  case finB =>
   rintro c st' ⟨rfl,R,q⟩
   exact ⟨rfl,R,by omega⟩
  case stepB =>
   rintro x c st' _ hx ⟨rfl,R,q⟩
   refine Az (Ff ?_)
   by_cases c1:(AW st').size<=1
   ·rw[if_pos c1]
    exact AF ⟨rfl,R,c1⟩
   rw[if_neg c1]
   refine Az (nK C hu R (yF (by omega)) λst2 R2 s2 _ =>?_)
   simp only[BQ,AE,if_false]
   exact AF ⟨rfl,R2,by omega⟩
  case postB =>
   rintro c st' ⟨rfl,R,q⟩
   obtain ⟨runs,rest,ea,el,er,em⟩:=R.ex
   have lm:=em.length
   rw[Ak] at lm
   have lr:=congrArg List.length ea
   rw[Ak,szR R,Am,el] at lr
   have er0:rest=[]:=E9.mp (by omega)
   subst er0
   rw[AZ] at ea
   match runs,er,lm,el,ea with
   | [],_,_,el,_=>simp at el;omega
   | [r],er,_,_,ea =>
    have e:(AK st').toList=r:=by rw[ea];simp
    exact AF (h st' R.perm (by rw[e];exact (er r (by simp)).1) R.f)
   | _ :: _ :: _,_,lm,_,_=>simp at lm;omega
 case step =>
  rintro x c st1 _ hx ⟨lo,rfl,l1,l2,R⟩
  dsimp only
  by_cases cl:lo≥(AK st).size
  ·rw[if_pos cl]
   obtain rfl:lo=(AK st).size:=by omega
   exact AF ⟨rfl,R⟩
  rw[if_neg cl]
  have s1:=szR R
  refine Az (wA C R.k (uR R) (by omega) (by omega) λn st2 n1 n2 sa2 up2 =>?_)
  dsimp only
  have R2:=R.sa sa2
  have s2:=szR R2
  by_cases cm:n<mrn (AK st).size (AK st).size 0
  case' pos =>
   rw[if_pos cm]
   refine Az (FQ (DV ⟨rfl,?_⟩))
   obtain ⟨fo,e⟩:∃fo,fo=min ((AK st).size-lo) (mrn (AK st).size (AK st).size 0):=⟨_,rfl⟩
   rw[<- e]
   refine Az (uL C R2.k (uR R2) (by omega) (by omega) up2 λst3 sa3 up3 =>?_)
   simp only[BQ,AE,if_false]
   have R3:=R2.sa sa3
   have f0:0<fo:=by omega
   have f1:lo+fo<=(AK st).size:=by omega
  case' neg =>
   rw[if_neg cm]
   obtain ⟨fo,e⟩:∃fo,fo=n:=⟨_,rfl⟩
   subst e
   obtain ⟨st3,e3⟩:∃st3,st3=st2:=⟨_,rfl⟩
   subst e3
   have R3:=R2
   have up3:=up2
   have f0:0<fo:=n1
   have f1:lo+fo<=(AK st).size:=by omega
  all_goals
   have srt:=sH up3
   have s3:=szR R3
   refine Az (Ff ?_)
   cases hbk:(AW st3).back? with
   | none =>
    dsimp only
    exact Az (Cw (AF ⟨lo+fo,rfl,by omega,f1,R3.push f0 (by omega) srt⟩))
   | some t =>
    obtain ⟨t1,t2,t3⟩:=t
    dsimp only
    refine Az (Cg (Bx (I:=λ_ c st'=>c=(none,())/\Rn key κ a0 lo st'/\(AK st').toList.drop lo=(AK st3).toList.drop lo) (Q:=λc st'=>c=(none,())/\Rn key κ a0 lo st'/\(AK st').toList.drop lo=(AK st3).toList.drop lo) ?stepC ?finC ⟨rfl,R3,rfl⟩) ?postC)
    case finC=>exact λc st' q=>q
    case stepC =>
     rintro z c st4 _ _ ⟨rfl,R4,d4⟩
     refine Az (Ff ?_)
     by_cases p1:(AW st4).size>1
     ·rw[if_pos p1]
      have lt:(AW st4).size-2<(AW st4).size:=by omega
      have e:(AW st4)[(AW st4).size-2]? = some (AW st4)[(AW st4).size-2]:=by simp[lt]
      rw[e]
      dsimp only
      split
      ·exact AF ⟨rfl,R4,d4⟩
      ·refine Az (nK C hu R4 (by omega) λst5 R5 _ d5 =>?_)
       simp only[BQ,AE,if_false]
       exact AF ⟨rfl,R5,d5.trans d4⟩
     ·rw[if_neg p1]
      exact AF ⟨rfl,R4,d4⟩
    case postC =>
     rintro c st4 ⟨rfl,R4,d4⟩
     dsimp only
     have s4:=szR R4
     refine Az (Cw (Az (Cw (AF ⟨lo+fo,rfl,by omega,f1,?_⟩))))
     refine Rn.push ?_ f0 ?_ ?_
     ·refine Rn.mod R4 _ _ ?_
      exact λp=>⟨rfl,rfl⟩
     ·show lo+fo<=(AK st4).size
      omega
     ·show (((AK st4).toList.drop lo).take fo).Pairwise (Le key)
      rw[d4]
      exact srt
end
open PySem PyProof.Rows
structure mE (prog:Au)(w:AX)(s:Ag)(vs:List Ae)(O:Ee)(key:Ae->O.α):Prop where
 ok:2<=vs.length->∀(A:A7) (h6:Heap),(∀b o,s.heap.get? b=some o->h6.get? b=some o)->∃κ,(∀(Q:SortKind->Ag->Prop) (E:Ae->Ag->Prop),Q κ { s with heap:=h6 }->AL (AQ prog w) A (keyKind' vs.toArray) Q E { s with heap:=h6 }) ∧
  Cmp prog w A { s with heap:=h6 } O (λp=>key p.1) (λp=>p.1=p.2/\p.1∈vs) κ
section
variable  {prog:Au}{w:AX}{A:A7}{E:Ae->Ag->Prop}{s:Ag}{O:Ee}{key:Ae->O.α}
theorem zs:∀vs:List Ae,(vs.zip vs).map (·.2)=vs
 | []=>rfl
 | v :: vs=>by rw[Gw,AV,zs vs]
theorem nM {l:List AD}{vs:List Ae}(h:l.Perm (vs.zip vs)):(l.map (·.2)).Perm vs/\∀p∈l,p.1=p.2/\p.1∈vs:=by
 have e:=zs vs
 refine ⟨by have:=h.map (·.2);rw[e] at this;exact this,λp hp =>?_⟩
 have m:=h.mem_iff.mp hp
 obtain ⟨i,hi⟩:=A3.mp m
 rw[EF] at hi
 have e1:=hi.1.symm.trans hi.2
 exact ⟨A1 e1,AJ hi.1⟩
theorem gv {a:Addr}{vs:List Ae}{n:Nat}{P:Fin->Ag->Prop}(ho:s.heap.get? a=some (seqObj "list" vs.toArray n))(hz:vs.length<=Ai)
    (hc:2<=vs.length->∀h6,(∀b o,b≠a->s.heap.get? b=some o->h6.get? b=some o)->∃κ,(∀(Q:SortKind->Ag->Prop) (E:Ae->Ag->Prop),Q κ { s with heap:=h6 }->AL (AQ prog w) A (keyKind' vs.toArray) Q E { s with heap:=h6 }) ∧
      Cmp prog w A { s with heap:=h6 } O (λp=>key p.1) (λp=>p.1=p.2/\p.1∈vs) κ)
    (h:∀out:List Ae,out.Perm vs->out.Pairwise (λx y=>O.kle (key x) (key y))->P (.done (.ret .none)) { s with heap:=sortedHeap s.heap a vs out.toArray }):AL (AQ prog w) A (Builtin.«list.sort» ⟨[.ref a],[]⟩) P E s:=by
  rw[list_sort_plain]
  have ha:a<s.heap.objs.size:=Ar ho
  refine Af (Hc ho rfl ?_)
  refine Af (Fg ho rfl ?_ (by rw[Aj];exact hz) (A5 _))
  obtain ⟨e1,ho1⟩:∃e1,(s.heap.update a (Ce λ_ => #[])).get? a=some (seqObj "list" #[] e1):=⟨_,get?_update_seq ho (λ_ => #[])⟩
  refine Af (seqEpoch_at ho1 rfl (Af (wpAny_newTuple ?_ (by exact hz))))
  refine Af (Fh ?_ (A5 _))
  refine B4 ?_
  generalize hH:((s.heap.update a (Ce λ_ => #[])).push (seqObj "tuple" vs.toArray 0)).push (seqObj "list" #[] 0)=h6
  have kp:∀b o,b≠a->s.heap.get? b=some o->h6.get? b=some o:=λb o nb e=>by
    rw[<- hH]
    refine Ad _ (Ad _ ?_)
    rw[C3 _ _ _ _ nb]
    exact e
  have ho6:h6.get? a=some (seqObj "list" #[] e1):=by
    rw[<- hH]
    exact Ad _ (Ad _ ho1)
  have eH:∀out:List Ae,sortedHeap s.heap a vs out.toArray=h6.update a (Ce λ_=>out.toArray):=λout=>by rw[<- hH];rfl
  have go:∀st':A0,(AK st').toList.Perm (vs.zip vs)->(AK st').toList.Pairwise (λp q=>O.kle (key p.1) (key q.1))->failedOf st'=none →
      AL (AQ prog w) A (do
        let sorted:=(AK st').map (·.2)
        let touched:=(← seqEpoch a) != e1
        Builtin.List.listUpdate (.ref a) λ_=>sorted
        if let some e:=failedOf st' then rule "list.sort.comparison-raised";throw e
        if touched then rule "list.sort.modified";raiseError "ValueError" "list modified during sort"
        ret .none) P E { s with heap:=h6 }:=by
    intro st' pm ps hf
    obtain ⟨z1,z2⟩:=nM pm
    have em:(AK st').map (·.2)=((AK st').toList.map (·.2)).toArray:=by
      apply Fj.mp
      rw[D7]
    dsimp only
    refine Af (seqEpoch_at ho6 rfl ?_)
    refine Af (Fg ho6 rfl ?_ (A5 _) (by rw[BO, <- Ak,pm.length_eq,Ho,FE];omega))
    rw[hf]
    simp only[bne_self_eq_false,AE,if_false]
    refine An ?_
    rw[em, <- eH]
    refine h _ z1 (Bm.mpr (ps.imp_of_mem λ{p q} hp hq le =>?_))
    rw[<- (z2 p hp).1, <- (z2 q hq).1]
    exact le
  by_cases h2:vs.toArray.size<2
  · rw[if_pos h2,if_pos h2]
    refine Af (An ?_)
    dsimp only
    rw[StateT.run_pure]
    refine Af (An ?_)
    refine go (SortSt.mk' general' (vs.toArray.zip vs.toArray) #[] 7 none) (by show (vs.toArray.zip vs.toArray).toList.Perm _;simp) ?_ rfl
    rw[Aj] at h2
    have et:(vs.toArray.zip vs.toArray).toList=vs.zip vs:=by simp
    show (vs.toArray.zip vs.toArray).toList.Pairwise (λ(p q:AD)=>O.kle (key p.1) (key q.1))
    rw[et]
    have short:∀us:List Ae,us.length<2->(us.zip us).Pairwise (λ(p q:AD)=>O.kle (key p.1) (key q.1)):=λus hu=>by
      match us,hu with
      | [],_=>exact List.Pairwise.nil
      | [v],_=>exact Cs _ _
      | _ :: _ :: _,hu=>simp only[Ba] at hu;omega
    exact short vs h2
  · rw[if_neg h2,if_neg h2]
    rw[Aj] at h2
    obtain ⟨κ,k1,C⟩:=hc (by omega) h6 kp
    refine Af (k1 _ _ ?_)
    have et:(vs.toArray.zip vs.toArray).toList=vs.zip vs:=by simp
    refine Af (Bt (uN C (E:=E) (a0:=vs.zip vs) (st:=SortSt.mk' κ (vs.toArray.zip vs.toArray) #[] 7 none)
      (Q:=λ_ st'=>(AK st').toList.Perm (vs.zip vs)/\(AK st').toList.Pairwise (Le λ(p:AD)=>key p.1)/\failedOf st'=none)
      (nM (CS _)).2 et rfl rfl rfl (by rw[Ho,FE];omega) λst' a1 a2 a3=>⟨a1,a2,a3⟩) ?_ λ_ _ e=>e)
    rintro ⟨⟨⟩,st'⟩ s' ⟨rfl,hp,hs,hf⟩
    exact go st' hp hs hf
def nN (prog:Au)(w:AX)(s:Ag)(v:Ae)(vs:List Ae):Prop :=
 ∀(A:A7) (E:Ae->Ag->Prop) (R:List Ae->Ag->Prop),(∀h1,(∀b o,s.heap.get? b=some o->h1.get? b=some o)->s.heap.objs.size<=h1.objs.size->R vs { s with heap:=h1 })->AL (AQ prog w) A (collect v) R E s
theorem pO {v:Ae}{vs:List Ae}{Q:Ae->Ag->Prop}(hv:nN prog w s v vs)(hz:vs.length<=Ai)(C:mE prog w s vs O key)
  (h:∀(h':Heap) (p:Addr) (out:List Ae) (n:Nat),(∀b o,s.heap.get? b=some o->h'.get? b=some o)->s.heap.objs.size<=p->h'.get? p=some (seqObj "list" out.toArray n)->out.Perm vs->out.Pairwise (λx y=>O.kle (key x) (key y))->Q (.ref p) { s with heap:=h' }) :
  AL (AQ prog w) A (call (.builtin "sorted") [v]) Q E s:=by
 refine EI kind_sorted plain_sorted entry_sorted (args_sorted1 _) ?_
 unfold Builtin.«sorted»
 refine Af (m:=checkCount "sorted" 1 1 _) (An ?_)
 refine Af (hv _ _ _ λh1 k1 z1=>Af (Fh ?_ hz))
 have hoL:(h1.push (seqObj "list" vs.toArray 0)).get? h1.objs.size=some (seqObj "list" vs.toArray 0):=Av _ rfl
 have kL:∀b o,s.heap.get? b=some o->(h1.push (seqObj "list" vs.toArray 0)).get? b=some o:=λb o e=>Ad _ (k1 b o e)
 refine Af (B4 (BC slot_list_sort ⟨_,hoL,rfl⟩ entry_list_sort (gv (key:=key) (O:=O) hoL hz (λh2 h6 k6 =>?_) λout pm ps=>⟨_,rfl,?_⟩) (args_list_sort _)))
 ·exact C.ok h2 _ h6 λb o e=>k6 b o (AI (Ay (Ar e) z1)) (kL b o e)
 ·obtain ⟨n,en⟩:=sortedHeap_at (out:=out.toArray) hoL
  refine An ⟨_,rfl,h _ _ out n (λb o e =>?_) z1 en pm ps⟩
  have lt:=Ay (Ar e) z1
  rw[sortedHeap_old (AI lt) (by rw[Ia];exact BP lt)]
  exact kL b o e
theorem mF {l:Addr}{o:Obj}{vs:List Ae}{n:Nat}(ho:s.heap.get? l=some o)(hc:o.cls = .type "list" \/ o.cls = .type "tuple")(hd:o.data = .seq vs.toArray n)(hz:vs.length<=Ai):nN prog w s (.ref l) vs:=by
  intro A E R h
  unfold collect
  refine Af (EM (Bv entry_proto_collect' ?_))
  show AL _ _ (do again (.builtin "list.__iadd__" ⟨[<- newList [],.ref l],[]⟩)) _ _ s
  refine Af (Fh (An ⟨CL _ (by decide +kernel),Bv entry_list_iadd' ?_⟩))
  show AL _ _ (CD (.ref s.heap.objs.size) (.ref l) (.ref s.heap.objs.size)) _ _ { s with heap:=s.heap.push (seqObj "list" #[] 0) }
  unfold CD
  have ho':(s.heap.push (seqObj "list" #[] 0)).get? l=some o:=Ad _ ho
  have cond:∀T,o.cls = .type T->(T = "list" \/ T = "tuple")->AL (AQ prog w) A (typeOf (.ref l)) (λt s'=>t = .type T/\s'={ s with heap:=s.heap.push (seqObj "list" #[] 0) }) E { s with heap:=s.heap.push (seqObj "list" #[] 0) }:=λT e _=>EC (T:=T) ⟨o,ho',e⟩ ⟨rfl,rfl⟩
  obtain ⟨T,eT,hT⟩:∃T,o.cls = .type T/\(T = "list" \/ T = "tuple"):=by
    rcases hc with hc | hc
    · exact ⟨_,hc,.inl rfl⟩
    · exact ⟨_,hc,.inr rfl⟩
  refine Af (EC (T:=T) ⟨o,ho',eT⟩ ?_)
  rw[if_pos (by rcases hT with rfl | rfl <;> simp)]
  refine Af (Hc ho' hd ?_)
  refine Af (Hc (xs := #[]) (n:=0) (Av _ rfl) rfl ?_)
  rw[if_neg (by simp)]
  refine Af (Fg (xs := #[]) (n:=0) (Av _ rfl) rfl ?_ (A5 _) (by show (#[]++vs.toArray).size<=Ai+1;simp only[CW,Aj,Dj];omega))
  refine An ?_
  show AL (AQ prog w) A (do
      let o ← load s.heap.objs.size
      match o.data with
      | .seq xs _=>pure xs.toList
      | _=>unsupported "internal:collect") R E { s with heap:=(s.heap.push (seqObj "list" #[] 0)).update s.heap.objs.size (Ce (· ++ vs.toArray)) }
  refine Af (H9 (get?_update_seq (Av _ rfl) _) ?_)
  show AL _ _ (pure ((#[]:Array Ae)++vs.toArray).toList) R E _
  rw[show ((#[]:Array Ae)++vs.toArray).toList=vs by simp]
  refine An (h _ (λb ob e =>?_) ?_)
  · rw[C3 _ _ _ _ (AI (Ar e))]
    exact Ad _ e
  · rw[Heap.size_update,Ia]
    exact Ej _
end
open PySem PyProof.Rows
def intOrd:Ee where
 α:=Int
 blt:=λa b=>decide (a<b)
 irrefl:=λa=>by simp
 trans:=λa b c h1 h2=>by simp at *;omega
 negTrans:=λa b c h=>by simp at *;omega
 total:=λa b h1 h2=>by simp at *;omega
theorem lex_irrefl:∀a,HT.lexLt a a=false
 | []=>rfl
 | x :: xs=>by rw[HT.cz,if_pos rfl];exact lex_irrefl xs
theorem lex_trans:∀a b c,HT.lexLt a b=true->HT.lexLt b c=true->HT.lexLt a c=true
 | [],[],_,h,_=>by cases h
 | [],_ :: _,[],_,h=>by cases h
 | [],_ :: _,_ :: _,_,_=>rfl
 | _ :: _,[],_,h,_=>by cases h
 | _ :: _,_ :: _,[],_,h=>by cases h
 | x :: xs,y :: ys,z :: zs,h1,h2=>by
  rw[HT.cz] at *
  by_cases e1:x=y
  ·subst e1
   rw[if_pos rfl] at h1
   by_cases e2:x=z
   ·rw[if_pos e2] at h2 ⊢
    exact lex_trans xs ys zs h1 h2
   ·rw[if_neg e2] at h2 ⊢
    exact h2
  ·rw[if_neg e1] at h1
   have l1:=of_decide_eq_true h1
   by_cases e2:y=z
   ·subst e2
    rw[if_neg e1]
    exact h1
   ·rw[if_neg e2] at h2
    have l2:=of_decide_eq_true h2
    rw[if_neg (by omega)]
    exact decide_eq_true (by omega)
theorem f9:∀a b,HT.lexLt a b=false->HT.lexLt b a=false->a=b
 | [],[],_,_=>rfl
 | [],_ :: _,h,_=>by cases h
 | _ :: _,[],_,h=>by cases h
 | x :: xs,y :: ys,h1,h2=>by
  rw[HT.cz] at *
  by_cases e:x=y
  ·subst e
   rw[if_pos rfl] at h1 h2
   rw[f9 xs ys h1 h2]
  ·rw[if_neg e] at h1
   rw[if_neg (Ca e)] at h2
   have a1:=of_decide_eq_false h1
   have a2:=of_decide_eq_false h2
   omega
theorem wB (a b c:List Int)(h:HT.lexLt a c=true):HT.lexLt a b=true\/HT.lexLt b c=true:=by
 cases h1:HT.lexLt a b with
 | true=>exact .inl rfl
 | false =>
  right
  cases h2:HT.lexLt b a with
  | true=>exact lex_trans b a c h2 h
  | false=>rw[<- f9 a b h1 h2];exact h
def lexOrd:Ee where
 α:=List Int
 blt:=HT.lexLt
 irrefl:=lex_irrefl
 trans:=lex_trans
 negTrans:=wB
 total:=f9
def intOf:Ae->Int
 | .int i _=>i
 | _=>0
section
variable  {prog:Au}{w:AX}{A:A7}{E:Ae->Ag->Prop}{s:Ag}
def cG (h:Heap)(v:Ae):List Int:=match v with
 | .ref p=>match h.get? p with
  | some o=>match o.data with
   | .seq xs _=>xs.toList.map intOf
   | _=>[]
  | none=>[]
 | _=>[]
def dk (h:Heap)(v:Ae)(ns:List Int):Prop:=∃p o xs n,v = .ref p/\h.get? p=some o/\o.cls = .type "tuple" /\ o.data = .seq xs n/\Ea xs.toList ns
theorem ints_map:∀{vs:List Ae} {ns:List Int},Ea vs ns->vs.map intOf=ns
 | _,_,.nil=>rfl
 | _,_,.cons n t r=>by rw[AV,ints_map r];rfl
theorem dk.ints {h:Heap}{v:Ae}{ns:List Int}(x:dk h v ns):cG h v=ns:=by
 obtain ⟨p,o,xs,n,rfl,e,_,d,r⟩:=x
 unfold cG
 dsimp only
 rw[e]
 dsimp only
 rw[d]
 exact ints_map r
theorem dk.keeps {h h':Heap}{v:Ae}{ns:List Int}(x:dk h v ns)(k:∀b o,h.get? b=some o->h'.get? b=some o):dk h' v ns:=by
 obtain ⟨p,o,xs,n,rfl,e,r⟩:=x
 exact ⟨p,o,xs,n,rfl,k _ _ e,r⟩
theorem nO {fin:Bool}{Q:Bool->Ag->Prop}:∀{us ws:List Ae} {ns ms:List Int} (i:Nat),Ea us ns->Ea ws ms->(fin=true↔(decide (ns.length<ms.length)=true))->Q (HT.lexLt ns ms) s →
  PySem.W.KatLex prog w A true fin Q (us.zip ws) i s
 | _,_,_,_,i,.nil,.nil,hf,q=>by
  refine FF ?_
  have e:fin=false:=by cases fin with
   | false=>rfl
   | true=>have:=hf.mp rfl;simp at this
  rw[e];exact q
 | _,_,_,_,i,.nil,.cons _ _ _,hf,q=>by
  refine FF ?_
  have e:fin=true:=hf.mpr (by simp)
  rw[e];exact q
 | _,_,_,_,i,.cons _ _ _,.nil,hf,q=>by
  refine FF ?_
  have e:fin=false:=by cases fin with
   | false=>rfl
   | true=>have:=hf.mp rfl;simp at this
  rw[e];exact q
 | _,_,_,_,i,.cons (ns:=ns) a t r,.cons (ns:=ms) c u r',hf,q=>by
  rw[Gw]
  refine PySem.W.kat_cons (wpAny_eqBool_int ?_)
  rw[HT.cz] at q
  by_cases e:a=c
  ·rw[if_pos e] at q
   rw[beq_iff_eq.mpr e]
   exact PySem.W.kat_yes (nO (i+1) r r' (by rw[hf];simp) q)
  ·rw[if_neg e] at q
   rw[beq_eq_false_iff_ne.mpr e]
   refine PySem.W.kat_no ?_
   by_cases i0:(true && i == 0)=true
   ·rw[i0]
    exact oneLt_int q
   ·rw[GP.mpr i0,oneLt'_eq]
    simp only[AE,if_false]
    refine Af (HT.uj _ _ a t c u prog w _ _ ?_)
    exact BG q
theorem jM {h:Heap}:∀{vs:List Ae},(∀v∈vs,∃ns,dk h v ns/\ns≠[])->∃fs,PySem.W.KatTups h vs fs/\fs.length=vs.length/\∀f∈fs,∃i t,f = .int i t
 | [],_=>⟨[],trivial,rfl,λf hf=>by cases hf⟩
 | v :: vs,hv=>by
  obtain ⟨fs,t,l,hf⟩:=jM λu hu=>hv u (AM _ hu)
  obtain ⟨ns,⟨p,o,xs,n,rfl,e,c,d,r⟩,ne⟩:=hv v AU
  have hx:∃i t,xs[0]? = some (.int i t):=by
   rw[<- Aq]
   generalize xs.toList=l at r
   cases r with
   | nil=>exact absurd rfl ne
   | cons i t r=>exact ⟨i,t,rfl⟩
  obtain ⟨i,t',hx⟩:=hx
  exact ⟨.int i t' :: fs,Ii e c d hx t,by rw[Ba,Ba,l],λf hf'=>by
   rcases AH.mp hf' with q | q
   ·exact ⟨i,t',q⟩
   ·exact hf f q⟩
theorem ic {vs:List Ae}(hv:∀v∈vs,∃ns,dk s.heap v ns/\ns≠[]):mE prog w s vs lexOrd (cG s.heap):=by
 refine ⟨λh2 A h6 k6=>⟨tuples' true,λQ E q =>?_,⟨λE st x y Q hk hx hy q =>?_⟩⟩⟩
 ·obtain ⟨fs,t,l,hf⟩:=jM (h:=h6) (vs:=vs) λv hv'=>by
   obtain ⟨ns,i,ne⟩:=hv v hv'
   exact ⟨ns,i.keeps k6,ne⟩
  refine PySem.W.kat_kind (T :=.type "int") t (by omega) (λf hf' =>?_) rfl q
  obtain ⟨i,t',rfl⟩:=hf f hf'
  exact Ih rfl
 ·obtain ⟨ns,i1,_⟩:=hv _ hx.2
  obtain ⟨ms,i2,_⟩:=hv _ hy.2
  have q':Q (some (HT.lexLt (cG s.heap x.1) (cG s.heap y.1))) st:=q
  rw[i1.ints,i2.ints] at q'
  obtain ⟨p1,o1,xs1,n1,e1,g1,c1,d1,r1⟩:=i1.keeps k6
  obtain ⟨p2,o2,xs2,n2,e2,g2,c2,d2,r2⟩:=i2.keeps k6
  rw[lt'_eq]
  refine Az (Ff ?_)
  rw[hk,e1,e2]
  have l1:=r1.length
  have l2:=r2.length
  refine Az (FQ (Eh (PySem.W.kat_lt g1 d1 g2 d2 (nO 0 r1 r2 ?_ ⟨rfl,?_⟩))))
  ·rw[<- l1, <- l2,Ak,Ak]
  ·exact AF q'
end
end Srt
namespace L2
open PySem PySem.Spec PyProof.Rows
theorem jN {α β:Type}{f:α -> β}:∀{l:List β} {m:List α},l.Perm (m.map f)->∃m':List α,m'.Perm m/\l=m'.map f:=by
 intro l m h
 generalize hk:m.map f=k at h
 induction h generalizing m with
 | nil =>
  have:m=[]:=List.map_eq_nil_iff.mp hk
  exact ⟨[],by rw[this],rfl⟩
 | cons x _ ih =>
  match m,hk with
  | y :: m,hk =>
   rw[AV] at hk
   injection hk with h1 h2
   obtain ⟨m',p,e⟩:=ih h2
   exact ⟨y :: m',p.cons y,by rw[AV, <- e,h1]⟩
  | [],hk=>cases hk
 | swap x y l =>
  match m,hk with
  | a :: b :: m,hk =>
   rw[AV,AV] at hk
   injection hk with h1 h2
   injection h2 with h2 h3
   exact ⟨b :: a :: m,List.Perm.swap a b m,by rw[AV,AV,h1,h2,h3]⟩
  | [],hk=>cases hk
  | [_],hk=>simp at hk
 | trans _ _ ih1 ih2 =>
  obtain ⟨m',p,e⟩:=ih2 hk
  obtain ⟨m'',p',e'⟩:=ih1 e.symm
  exact ⟨m'',p'.trans p,e'⟩
theorem eX:∀{ns:List Int} {us:List Ae},Vals (ns.map V.int) us->Ea us ns:=λr=>intsAre_of r
theorem d8:∀{α:Type} {f:α -> Addr} {ps:List α} {us:List Ae},Vals (ps.map λx=>V.ref (f x)) us->us=ps.map λx=>As (f x)
 | _,_,[],_,r=>by cases r;rfl
 | _,f,p :: ps,_,r=>by
  cases r with
  | cons h t=>rw[AV, <- d8 t,show _=As (f p) from h]
theorem d9 {α:Type}{f:α -> Addr}:∀{ps:List α},Vals (ps.map λx=>V.ref (f x)) (ps.map λx=>As (f x))
 | [] =>.nil
 | p :: ps =>.cons rfl d9
section
variable  {X:Cx}
theorem Inv.uO {pins:List (Addr×Obj)}{σ:St}{H:Hp}{s:Ag}{p:Addr}{ys:List V}(I:Inv X pins σ H s)(h:SqL X.K H p ys\/SqT X.K H p ys) :
  ∃(its:List Ae) (o:Obj) (n:Nat),Vals ys its/\s.heap.get? p=some o/\(o.cls = .type "list" \/ o.cls = .type "tuple")/\o.data = .seq its.toArray n/\ys.length<=Ai:=by
 rcases h with h | h
 ·obtain ⟨its,r,⟨o,n,e,c,_,d⟩,z⟩:=I.list h
  exact ⟨its,o,n,r,e,.inl c,d,z⟩
 ·obtain ⟨its,r,⟨o,e,c,n,d⟩,z⟩:=I.tuple h
  exact ⟨its,o,n,r,e,.inr c,d,z⟩
theorem Inv.newList {pins:List (Addr×Obj)}{σ:St}{H:Hp}{s:Ag}{h':Heap}{p:Addr}{ys:List V}{its:List Ae}{n:Nat}(I:Inv X pins σ H s)(k:∀b o,s.heap.get? b=some o->h'.get? b=some o)(hp:s.heap.objs.size<=p)
  (e:h'.get? p=some { cls :=.type "list",data :=.seq its.toArray n }) (r:Vals ys its) (hz:ys.length<=Ai):Inv X pins σ (upd H p (.lst ys)) { s with heap:=h' } :=
 I.laid (t':=s.toks) k hp ⟨hz,its,n,r,e⟩
theorem bZ:b8 X (.builtin "sorted") (λxs H Q=>∃(p:Addr) (ts:List (Addr×List Int)),xs=[.ref p]/\(SqL X.K H p (ts.map λt =>.ref t.1)\/SqT X.K H p (ts.map λt =>.ref t.1))/\(∀t∈ts,SqT X.K H t.1 (t.2.map V.int)/\t.2≠[]) ∧
  ∀(l:Addr) (out:List (Addr×List Int)),H l=none->out.Perm ts->out.Pairwise (λa b=>HT.lexLt b.2 a.2=false)->Q (.ref l) (upd H l (.lst (out.map λt =>.ref t.1)))):=by
 intro pins s σ H xs us Q I r h
 obtain ⟨p,ts,rfl,hs,ht,q⟩:=h
 obtain ⟨u,rfl,ru⟩:=vals1 r
 cases (show u=As p from ru)
 obtain ⟨its,o,n,rv,e,c,d,z⟩:=I.uO hs
 have ei:=d8 rv
 have lz:its.length<=Ai:=by rw[<- rv.length];exact z
 have tup:∀t∈ts,Srt.dk s.heap (As t.1) t.2:=λt hm=>by
  obtain ⟨jts,jr,⟨jo,je,jc,jn,jd⟩,_⟩:=I.tuple (ht t hm).1
  exact ⟨t.1,jo,_,jn,rfl,je,jc,jd,by simpa using eX jr⟩
 have hv:∀v∈its,∃ns,Srt.dk s.heap v ns/\ns≠[]:=λv hv=>by
  rw[ei] at hv
  obtain ⟨t,hm,rfl⟩:=AG.mp hv
  exact ⟨t.2,tup t hm,(ht t hm).2⟩
 refine Srt.pO (Srt.mF e c d lz) lz (Srt.ic hv) λh' l out m k hl el pm ps =>?_
 rw[ei] at pm
 obtain ⟨out',pm',rfl⟩:=jN pm
 refine ⟨.ref l,_,I.newList k hl el d9 (by rw[Ac,pm'.length_eq, <- Ac (f:=λt:Addr×List Int=>V.ref t.1)];exact z),rfl,q l _ (I.hok.fresh hl) pm' ?_⟩
 refine (Bm.mp ps).imp_of_mem λ{a b} ha hb le =>?_
 have le':HT.lexLt (Srt.cG s.heap (As b.1)) (Srt.cG s.heap (As a.1))=false:=le
 rw[(tup a (pm'.mem_iff.mp ha)).ints,(tup b (pm'.mem_iff.mp hb)).ints] at le'
 exact le'
end
open PySem PySem.Spec PyProof.Rows
def Tp (H H':Hp):Prop:=∀b xs,H b=some (.tup xs)->H' b=some (.tup xs)
theorem ay.tp {H H':Hp}(a:ay H H'):Tp H H':=λc u h=>a c _ h
def mnI (a b:Int):Int:=if b<a then b else a
def mxI (a b:Int):Int:=if b>a then b else a
def nrm (a b:Int):List Int:=[mnI a b,mxI a b]
def fC (a b:List Int):Prop:=HT.lexLt b a=false
theorem ef:∀{l m:List (List Int)},l.Perm m->l.Pairwise fC->m.Pairwise fC->l=m
 | [],m,p,_,_=>(List.Perm.nil_eq p)
 | a :: l,[],p,_,_=>absurd p.length_eq (by simp)
 | a :: l,b :: m,p,h1,h2=>by
  have e:a=b:=by
   have ha:a∈b :: m:=p.mem_iff.mp AU
   have hb:b∈a :: l:=p.mem_iff.mpr AU
   rcases AH.mp ha with z | z
   ·exact z
   rcases AH.mp hb with y | y
   ·exact y.symm
   have q1:=(CK.mp h1).1 b y
   have q2:=(CK.mp h2).1 a z
   exact Srt.f9 a b q2 q1
  subst e
  rw[ef ((List.perm_cons a).mp p) (CK.mp h1).2 (CK.mp h2).2]
open PySem PySem.Spec PyProof.Rows
section
variable  {X:Cx}{tg:Expr}
def iSeq (K:Ab)(tl:TE):TI:=λσ H R=>tl σ H λx H1=>∃a,x = .ref a/\(((∃xs,SqL K H1 a xs)/\R (Itl K a) H1)\/((∃xs,SqT K H1 a xs)/\R (Itt K a) H1))
theorem yG {l:Expr}{tl:TE}(hl:PE X l tl):PI X tg l (iSeq X.K tl):=by
 intro pins s σ H R I h;refine thn (hl pins s σ H _ I h) λv s1 ⟨x,H1,I1,r1,q1⟩ =>?_
 obtain ⟨a,e,q1⟩:=q1
 subst e
 cases r1
 have fp:∀b∈[s1.heap.objs.size],jg X pins H1 b:=λb hb=>by
  have e:b=s1.heap.objs.size:=by simpa using hb
  rw[e];exact I1.rP (Ah _) (I1.hok.fresh (Ah _))
 rcases q1 with ⟨⟨xs,hq⟩,q⟩ | ⟨⟨xs,hq⟩,q⟩
 ·obtain ⟨its,rv,p,hz⟩:=I1.list hq;refine DT p.isList ?_
  exact ⟨s1.heap.objs.size,_,_,_,H1,rfl,I1.kept (t':=s1.toks) (λb o e=>Ad _ e),kO a _,⟨_,Av _ rfl,rfl,rfl⟩,fp,q⟩
 ·obtain ⟨its,rv,p,hz⟩:=I1.tuple hq;refine CM (show s1.heap.IsTuple a its.toArray from p) ?_
  exact ⟨s1.heap.objs.size,_,_,_,H1,rfl,I1.kept (t':=s1.toks) (λb o e=>Ad _ e),jE a _,⟨_,Av _ rfl,rfl,rfl⟩,fp,q⟩
end
theorem sI {K:Ab}{a:Addr}{xs:List V}{g:TG}{tb:TS}{D:Ends}{σ:St}{H:Hp}(Pv:Nat->St->Hp->Prop)(hp:H a=some (.lst xs)\/H a=some (.tup xs))(h0:Pv 0 σ H)(hl:∀i σ H',Pv i σ H'->H' a=H a)
  (hs:∀i x σ H T,xs[i]? = some x->H T=none->Pv i σ H->g (.ref T) σ (upd H T (.tup [.int i,x])) λσ2 H2=>tb { D with nx:=Pv (i+1),ct:=Pv (i+1),bk:=D.nx } σ2 H2) (hd:∀σ H,Pv xs.length σ H->D.nx σ H) :
  ((∃xs,SqL K H a xs)/\wd (Ite K a) g tb D σ H)\/((∃xs,SqT K H a xs)/\wd (ItE K a) g tb D σ H):=by
 rcases hp with hp | hp
 ·exact .inl ⟨⟨_,SqL.of hp⟩,rZ Pv h0 (λi σ H' _ z=>SqL.of ((hl i σ H' z).trans hp)) hs hd⟩
 ·exact .inr ⟨⟨_,SqT.of hp⟩,r6 Pv h0 (λi σ H' _ z=>SqT.of ((hl i σ H' z).trans hp)) hs hd⟩
theorem sJ {K:Ab}{a:Addr}{xs:List V}{k:Nat}{tc:TT}{te:TE}{τ:St}{H:Hp}{Q:VK}(Pv:Nat->List V->Hp->Prop)(hp:H a=some (.lst xs)\/H a=some (.tup xs))(h0:Pv 0 [] H)(hz:xs.length<=Ai)
  (hl:∀i ys H',Pv i ys H'->H' a=H a) (hs:∀i x ys H,xs[i]? = some x->ys.length<=i->Pv i ys H->qM k tc te τ Pv i x ys H)
  (hd:∀ys H,ys.length<=xs.length->Pv xs.length ys H->∀l,H l=none->Q (.ref l) (upd H l (.lst ys))) :
  ((∃xs,SqL K H a xs)/\jI (Itl K a) (gu k) tc te τ Q H)\/((∃xs,SqT K H a xs)/\jI (Itt K a) (gu k) tc te τ Q H):=by
 rcases hp with hp | hp
 ·exact .inl ⟨⟨_,SqL.of hp⟩,jJ Pv h0 hz (λi ys H' _ z=>SqL.of ((hl i ys H' z).trans hp)) hs hd⟩
 ·exact .inr ⟨⟨_,SqT.of hp⟩,bS Pv h0 hz (λi ys H' _ z=>SqT.of ((hl i ys H' z).trans hp)) hs hd⟩
theorem jO {X:Cx}{K:Ab}{x y:Str}{i j k:Nat}{p p' pos:Pos}(hN:X.N.Nodup)(hi:X.N[i]? = some x)(hj:X.N[j]? = some y)(hx:Loc X.env.scope x)(hy:Loc X.env.scope y)(hc:X.calm=true:=by rfl)(h:X.K=K:=by rfl)
  (hf:X.fn x=true\/X.env.scope.names.lookup x=some .local:=by first | exact .inl rfl | exact .inr rfl) (hg:X.fn y=true\/X.env.scope.names.lookup y=some .local:=by first | exact .inl rfl | exact .inr rfl):PG X (.Tuple [.Name x p,.Name y p'] k pos) (xK K i j):=by
 subst h
 exact pf hc (dY (aQ hN hi hx hf) (dY (aQ hN hj hy hg) mh))
end L2
namespace STab
open PySem PySem.SetTable
def mG (xs:Array Nat):Prop:=∀i j a b:Nat,xs[i]? = some a->xs[j]? = some b->i<j->a<b
theorem uP {xs:Array Nat}(R:mG xs)(j:Nat):∀(fuel lo hi:Nat),lo<=hi->hi<=xs.size->hi-lo<=fuel →
  (∀i a,i<lo->xs[i]? = some a->a<j)->(∀i a,hi<=i->xs[i]? = some a->j<=a) →
  below.go xs j fuel lo hi<=xs.size/\(∀i a,xs[i]? = some a->(i<below.go xs j fuel lo hi↔a<j)):=by
 intro fuel
 induction fuel with
 | zero =>
  intro lo hi h1 h2 h3 h4 h5
  unfold below.go
  refine ⟨by omega,λi a e=>⟨λq=>h4 i a q e,λq =>?_⟩⟩
  apply Dy
  intro q2
  have:=h5 i a (by omega) e
  omega
 | succ fuel ih =>
  intro lo hi h1 h2 h3 h4 h5
  unfold below.go
  by_cases hl:lo<hi
  ·rw[if_pos hl]
   dsimp only
   have hm:(lo+hi)/2<xs.size:=by omega
   have em:xs[(lo+hi)/2]? = some xs[(lo+hi)/2]:=AN hm
   have eg:xs.getD ((lo+hi)/2) j=xs[(lo+hi)/2]:=by simp[Array.getD,hm]
   rw[eg]
   by_cases hc:xs[(lo+hi)/2]<j
   ·rw[if_pos hc]
    refine ih _ _ (by omega) h2 (by omega) (λi a q e =>?_) h5
    by_cases q2:i=(lo+hi)/2
    ·rw[q2,em] at e;cases e;exact hc
    ·exact Nat.lt_trans (R i _ _ _ e em (by omega)) hc
   ·rw[if_neg hc]
    refine ih _ _ (by omega) (by omega) (by omega) h4 (λi a q e =>?_)
    by_cases q2:i=(lo+hi)/2
    ·rw[q2,em] at e;cases e;omega
    ·have:=R _ i _ _ em e (by omega)
     omega
  ·rw[if_neg hl]
   refine ⟨by omega,λi a e=>⟨λq=>h4 i a q e,λq =>?_⟩⟩
   apply Dy
   intro q2
   have:=h5 i a (by omega) e
   omega
theorem dq {xs:Array Nat}(R:mG xs)(j:Nat):below xs j<=xs.size/\∀i a,xs[i]? = some a->(i<below xs j↔a<j) :=
 uP R j _ _ _ (A5 _) (Ah _) (by omega) (λi a h=>by omega) λi a h e=>by
  rw[CG (by omega)] at e;cases e
theorem below_at {xs:Array Nat}(R:mG xs){i j:Nat}(h:xs[i]? = some j):below xs j=i:=by
 obtain ⟨h1,h2⟩:=dq R j
 have hi:i<xs.size:=by
  apply Dy;intro q;rw[CG q] at h;cases h
 have a1:¬ i<below xs j:=λq=>by have:=(h2 i j h).mp q;omega
 apply CC (by omega)
 apply D4
 intro q
 have e:=AN (xs:=xs) (i:=below xs j) (by omega)
 have l1:=R _ _ _ _ e h q
 have:=(h2 _ _ e).mpr l1
 omega
theorem pP {xs:Array Nat}(R:mG xs){i j:Nat}(h:xs[i]? = some j):below xs (j+1)=i+1:=by
 obtain ⟨h1,h2⟩:=dq R (j+1)
 have a1:i<below xs (j+1):=(h2 i j h).mpr (by omega)
 apply CC _ a1
 apply D4
 intro q
 have hk:i+1<xs.size:=by omega
 have e:=AN (xs:=xs) hk
 have l1:=R _ _ _ _ h e (by omega)
 have:=(h2 _ _ e).mp q
 omega
theorem pQ {xs:Array Nat}(R:mG xs):below xs 0=0:=by
 obtain ⟨h1,h2⟩:=dq R 0
 apply CC _ (A5 _)
 apply D4
 intro q
 have:=(h2 0 _ (AN (by omega))).mp q
 omega
theorem bQ {α:Type}(xs:Array α)(p:Nat)(x:α):(insertAt xs p x).toList=xs.toList.take p++x :: xs.toList.drop p:=by
 unfold insertAt
 simp
 rw[AA (by simp)]
theorem b7 {α:Type}(xs:Array α){p:Nat}(hp:p<=xs.size)(x:α)(i:Nat) :
  (insertAt xs p x)[i]? = if i<p then xs[i]? else if i=p then some x else xs[i-1]? := by
 rw[<- Aq,bQ]
 have hl:(xs.toList.take p).length=p:=by rw[Bg,Ak];omega
 by_cases h1:i<p
 ·rw[if_pos h1,Cf (by omega),BK,if_pos h1,Aq]
 ·rw[if_neg h1,Cb (by omega),hl]
  by_cases h2:i=p
  ·rw[if_pos h2,h2,Nat.sub_self];rfl
  ·rw[if_neg h2]
   obtain ⟨d,hd⟩:∃d,i-p=d+1:=⟨i-p-1,by omega⟩
   rw[hd,C4,Dc,Aq]
   congr 1;omega
theorem cH {α:Type}(xs:Array α)(p:Nat)(x:α):(insertAt xs p x).size=xs.size+1:=by
 rw[<- Ak,bQ,Am,Ba,Bg,B8,Ak]
 omega
theorem insertAt_perm {α:Type}(xs:Array α)(p:Nat)(x:α):(insertAt xs p x).toList.Perm (x :: xs.toList):=by
 rw[bQ]
 exact Hg.trans (by rw[Ci])
theorem mH {α β:Type}(xs:Array α)(p:Nat)(x:α)(f:α -> β):(insertAt xs p x).map f=insertAt (xs.map f) p (f x):=by
 apply Fj.mp
 rw[D7,bQ,bQ,D7,Ap,AV,Ig,List.map_drop]
theorem kA {xs:Array Nat}(R:mG xs){j:Nat}(hj:∀i:Nat,xs[i]? ≠ some j):mG (insertAt xs (below xs j) j):=by
 obtain ⟨h1,h2⟩:=dq R j
 intro a b x y ea eb hab
 rw[b7 _ h1] at ea eb
 by_cases a1:a<below xs j
 ·rw[if_pos a1] at ea
  have:=(h2 _ _ ea).mp a1
  by_cases b1:b<below xs j
  ·rw[if_pos b1] at eb;exact R _ _ _ _ ea eb hab
  ·rw[if_neg b1] at eb
   by_cases b2:b=below xs j
   ·rw[if_pos b2] at eb;cases eb;exact this
   ·rw[if_neg b2] at eb
    exact R _ _ _ _ ea eb (by omega)
 ·rw[if_neg a1] at ea
  rw[if_neg (by omega),if_neg (by omega)] at eb
  have l1:¬ y<j:=λq=>by have:=(h2 _ _ eb).mpr q;omega
  by_cases a2:a=below xs j
  ·rw[if_pos a2] at ea;cases ea
   have:y≠j:=λq=>hj _ (q ▸ eb)
   omega
  ·rw[if_neg a2] at ea
   exact R _ _ _ _ ea eb (by omega)
def occ (t:SetTable)(j:Nat):Prop:=∃i:Nat,t.place[i]? = some j
theorem iN {t:SetTable}(R:mG t.place){i j:Nat}(h:t.place[i]? = some j):t.slot j = .live i:=by
 unfold SetTable.slot
 dsimp only
 rw[below_at R h,h]
 simp
theorem pR {t:SetTable}(D:t.dummies = #[]){j:Nat}(h:¬ occ t j):t.slot j = .empty:=by
 unfold SetTable.slot
 dsimp only
 have h1:(t.place[below t.place j]? == some j)=false:=by
  rw[beq_eq_false_iff_ne];exact λq=>h ⟨_,q⟩
 rw[h1,D]
 simp[has]
def adv (mask:Nat)(p:Probe):Probe :=
 if p.more>0 then { p with j:=p.j+1,more:=p.more-1 } else
 let (i,perturb):=leap mask p.i p.perturb
 { p with j:=i,more:=runEnd mask i-i,i,perturb }
def cO (mask i perturb:Nat):Probe:={ j:=i,more:=runEnd mask i-i,i,perturb,dummy:=none }
def start (mask:Nat)(h:Int):Probe:=cO mask (bits h%(mask+1)) (bits h)
inductive Way (oc:Nat->Prop)(mask:Nat):Nat->Probe->Probe->Prop
 | here (p:Probe):Way oc mask 0 p p
 | step {n:Nat} {p q:Probe}:oc p.j->Way oc mask n (adv mask p) q->Way oc mask (n+1) p q
theorem Way.mono {oc oc':Nat->Prop}{mask n:Nat}{p q:Probe}(m:∀j,oc j->oc' j)(h:Way oc mask n p q):Way oc' mask n p q:=by
 induction h with
 | here p=>exact .here p
 | step a _ ih=>exact .step (m _ a) ih
theorem Way.dummy {oc:Nat->Prop}{mask n:Nat}{p q:Probe}(h:Way oc mask n p q):q.dummy=p.dummy:=by
 induction h with
 | here p=>rfl
 | @step n p q _ _ ih =>
  rw[ih];unfold adv;split <;> rfl
theorem yH {mask:Nat}{p:Probe}(h:p.j+p.more<=mask):(adv mask p).j+(adv mask p).more<=mask:=by
 unfold adv
 split
 ·dsimp only;omega
 ·dsimp only[leap]
  have:(p.i*5+1+p.perturb/32)%(mask+1)<mask+1:=Cu _ (DE mask)
  unfold runEnd
  split <;> omega
theorem nP (mask:Nat)(h:Int):(start mask h).j+(start mask h).more<=mask:=by
 unfold start cO
 dsimp only
 have:bits h%(mask+1)<mask+1:=Cu _ (DE mask)
 unfold runEnd
 split <;> omega
theorem Way.le {oc:Nat->Prop}{mask n:Nat}{p q:Probe}(h:Way oc mask n p q):p.j+p.more<=mask->q.j<=mask:=by
 induction h with
 | here p=>intro;omega
 | step _ _ ih=>intro h;exact ih (yH h)
def mI (mask:Nat):Nat->Probe->Probe
 | 0,p=>p
 | n+1,p=>mI mask n (adv mask p)
theorem nQ (mask:Nat):∀(a b:Nat) (p:Probe),mI mask (a+b) p=mI mask b (mI mask a p)
 | 0,b,p=>by rw[Di];rfl
 | a+1,b,p=>by rw[show a+1+b=(a+b)+1 by omega];exact nQ mask a b (adv mask p)
theorem sO (oc:Nat->Prop)(mask:Nat):∀(n:Nat) (p:Probe),¬ oc (mI mask n p).j->∃k q,k<=n/\Way oc mask k p q/\¬ oc q.j:=by
 intro n
 induction n with
 | zero=>intro p h;exact ⟨0,p,Ah _,.here p,h⟩
 | succ n ih =>
  intro p h
  by_cases hp:oc p.j
  ·obtain ⟨k,q,a,b,c⟩:=ih (adv mask p) h
   exact ⟨k+1,q,by omega,.step hp b,c⟩
  ·exact ⟨0,p,A5 _,.here p,hp⟩
theorem wC (mask:Nat):∀(m:Nat) (p:Probe),p.more=m->p.dummy=none->mI mask (m+1) p=cO mask (leap mask p.i p.perturb).1 (leap mask p.i p.perturb).2:=by
 intro m
 induction m with
 | zero =>
  intro p h d
  show adv mask p=_
  unfold adv
  rw[if_neg (by omega)]
  obtain ⟨j,mo,i,pe,dm⟩:=p
  cases d
  rfl
 | succ m ih =>
  intro p h d
  show mI mask (m+1) (adv mask p)=_
  have e:adv mask p={ p with j:=p.j+1,more:=p.more-1 }:=by unfold adv;rw[if_pos (by omega)]
  rw[e]
  exact ih _ (by dsimp only;omega) d
def cq (mask:Nat):Nat->Nat×Nat->Nat×Nat
 | 0,x=>x
 | k+1,x=>cq mask k (leap mask x.1 x.2)
theorem lF (mask:Nat):∀(a b:Nat) (x:Nat×Nat),cq mask (a+b) x=cq mask b (cq mask a x)
 | 0,b,x=>by rw[Di];rfl
 | a+1,b,x=>by rw[show a+1+b=(a+b)+1 by omega];exact lF mask a b _
theorem more_le (mask i:Nat):runEnd mask i-i<=9:=by unfold runEnd;split <;> omega
theorem pS (mask:Nat):∀(k i pe:Nat),∃n,n<=10*k/\mI mask n (cO mask i pe)=cO mask (cq mask k (i,pe)).1 (cq mask k (i,pe)).2:=by
 intro k
 induction k with
 | zero=>intro i pe;exact ⟨0,by omega,rfl⟩
 | succ k ih =>
  intro i pe
  obtain ⟨n,h1,h2⟩:=ih (leap mask i pe).1 (leap mask i pe).2
  refine ⟨(runEnd mask i-i+1)+n,by have:=more_le mask i;omega,?_⟩
  rw[nQ,wC mask (runEnd mask i-i) (cO mask i pe) rfl rfl]
  exact h2
theorem gy (mask:Nat):∀(k i pe:Nat),(cq mask k (i,pe)).2=pe/32 ^ k
 | 0,i,pe=>by simp[cq]
 | k+1,i,pe=>by
  show (cq mask k (leap mask i pe)).2=_
  rw[show leap mask i pe=((leap mask i pe).1,pe/32) from rfl,gy mask k,Nat.div_div_eq_div_mul,Nat.pow_succ,Nat.mul_comm 32]
theorem nR (mask:Nat):∀(k i pe:Nat),i<=mask->(cq mask k (i,pe)).1<=mask
 | 0,i,pe,h=>h
 | k+1,i,pe,h=>by
  show (cq mask k (leap mask i pe)).1<=mask
  rw[show leap mask i pe=((leap mask i pe).1,pe/32) from rfl]
  exact nR mask k _ _ (Dr (Cu _ (DE mask)))
def ste (m i:Nat):Nat:=(i*5+1)%m
def its (m:Nat):Nat->Nat->Nat
 | 0,i=>i
 | n+1,i=>its m n (ste m i)
theorem cI (m:Nat):∀(a b i:Nat),its m (a+b) i=its m b (its m a i)
 | 0,b,i=>by rw[Di];rfl
 | a+1,b,i=>by rw[show a+1+b=(a+b)+1 by omega];exact cI m a b _
def orb (m:Nat):Nat->Nat->List Nat
 | 0,_=>[]
 | n+1,i=>i :: orb m n (ste m i)
theorem qV (m:Nat):∀(n i j:Nat),j∈orb m n i->∃r,r<n/\its m r i=j
 | 0,i,j,h=>by cases h
 | n+1,i,j,h=>by
  rcases AH.mp h with h | h
  ·exact ⟨0,by omega,h.symm⟩
  ·obtain ⟨r,a,b⟩:=qV m n _ _ h
   exact ⟨r+1,by omega,b⟩
def whole (m:Nat):Prop:=(∀j,j<m->∃r,r<m/\its m r 0=j)/\its m m 0=0
theorem sP {m:Nat}(h:whole m){i j:Nat}(hi:i<m)(hj:j<m):∃r,r<m/\its m r i=j:=by
 obtain ⟨h1,h2⟩:=h
 obtain ⟨a,a1,a2⟩:=h1 i hi
 obtain ⟨b,b1,b2⟩:=h1 j hj
 by_cases hab:a<=b
 ·refine ⟨b-a,by omega,?_⟩
  rw[<- a2, <- cI,show a+(b-a)=b by omega]
  exact b2
 ·refine ⟨m+b-a,by omega,?_⟩
  rw[<- a2, <- cI,show a+(m+b-a)=m+b by omega,cI,h2]
  exact b2
theorem ie {m:Nat}(h:(((BL m).all λj=>(orb m m 0).contains j) && (its m m 0 == 0))=true):whole m:=by
 rw[Bh,Cn,beq_iff_eq] at h
 exact ⟨λj hj=>qV m m 0 j (List.contains_iff_mem.mp (h.1 j (Bp.mpr hj))),h.2⟩
theorem yI:whole 8:=ie (by decide +kernel)
theorem wD:whole 32:=ie (by decide +kernel)
theorem uQ:whole 128:=ie (by decide +kernel)
theorem nS:whole 512:=ie (by decide +kernel)
def kC:Nat->Nat
 | 0=>0
 | n+1=>5 ^ n+kC n
theorem qW (m:Nat):∀n i,its m n i%m=(5 ^ n*i+kC n)%m
 | 0,i=>by show i%m=(5 ^ 0*i+0)%m;rw[Nat.pow_zero,Nat.one_mul,Ha]
 | n+1,i=>by
  show its m n (ste m i)%m=_
  rw[qW m n]
  show (5 ^ n*((i*5+1)%m)+kC n)%m=(5 ^ (n+1)*i+(5 ^ n+kC n))%m
  have e:(5 ^ n*((i*5+1)%m))%m=(5 ^ n*(i*5+1))%m:=by rw[Hq,Nat.mod_mod, <- Hq]
  rw[Hr,e, <- Hr]
  congr 1
  rw[Nat.pow_succ,Nat.mul_add,Nat.mul_one,Nat.mul_comm i 5, <- Nat.mul_assoc]
  omega
theorem pU {m:Nat}(h0:0<m):∀n i,i<m->its m n i<m
 | 0,i,h=>h
 | n+1,i,_=>pU h0 n _ (Cu _ h0)
theorem pV {m:Nat}(h0:0<m){n i:Nat}(hi:i<m):its m n i=(5 ^ n*i+kC n)%m:=by
 rw[<- qW,Nat.mod_eq_of_lt (pU h0 n i hi)]
set_option exponentiation.threshold 600 in
theorem zQ:5 ^ 512%2048=1/\kC 512%2048%512=0/\kC 512%2048/512%2=1:=by decide +kernel
set_option exponentiation.threshold 600 in
theorem wF {i:Nat}(hi:i<2048):its 2048 512 i=(i+kC 512%2048)%2048:=by
 rw[pV (by decide) hi,Hr,Hq,zQ.1,Nat.one_mul,Nat.mod_mod]
 exact Nat.mod_add_mod _ _ _
theorem sQ:whole 2048:=by
 obtain ⟨_,g1,g2⟩:=zQ
 have gl:kC 512%2048<2048:=Cu _ (by decide)
 have lp:=@wF
 generalize kC 512%2048=u at g1 g2 gl lp
 have hu:u=512\/u=1536:=by omega
 clear g1 g2 gl
 have two:∀{i},i<2048->its 2048 1024 i=(i+1024)%2048:=λ{i} hi=>by
  rw[show 1024=512+512 from rfl,cI,lp hi,lp (Cu _ (by decide))];omega
 have fou:∀{i},i<2048->its 2048 2048 i=i:=λ{i} hi=>by
  rw[show 2048=1024+1024 from rfl,cI]
  show its 2048 1024 (its 2048 1024 i)=i
  rw[two hi,two (Cu _ (by decide))];omega
 have thr:∀{i},i<2048->its 2048 1536 i=(i+u+1024)%2048:=λ{i} hi=>by
  rw[show 1536=1024+512 from rfl,cI,two hi,lp (Cu _ (by decide))];omega
 refine ⟨λj hj =>?_,fou (by decide)⟩
 obtain ⟨r,r1,r2⟩:=nS.1 (j%512) (Cu _ (by decide))
 have a:its 2048 r 0%512=j%512:=by
  rw[pV (by decide) (by decide),Nat.mod_mod_of_dvd _ (by decide:512 ∣ 2048), <- r2,pV (by decide) (by decide)]
 have v:=pU (m:=2048) (by decide) r 0 (by decide)
 have q0:its 2048 (r+512) 0=_:=(cI 2048 r 512 0).trans (lp v)
 have q1:its 2048 (r+1024) 0=_:=(cI 2048 r 1024 0).trans (two v)
 have q2:its 2048 (r+1536) 0=_:=(cI 2048 r 1536 0).trans (thr v)
 generalize e0:its 2048 r 0=v0 at a v q0 q1 q2
 have k:v0=j\/(v0+u)%2048=j\/(v0+1024)%2048=j\/(v0+u+1024)%2048=j:=by
  clear q0 q1 q2 two fou thr lp r1 r2 e0
  obtain ⟨c,hc,c4⟩:∃c,v0=j%512+512*c/\c<4:=⟨v0/512,by omega,by omega⟩
  obtain ⟨d,hd,d4⟩:∃d,j=j%512+512*d/\d<4:=⟨j/512,by omega,by omega⟩
  generalize j%512=e at hc hd a
  have e5:e<512:=by omega
  rcases hu with rfl | rfl
  ·rcases (by omega:c=d\/c+1=d\/c+2=d\/c+3=d\/d+1=c\/d+2=c\/d+3=c) with z | z | z | z | z | z | z <;> omega
  ·rcases (by omega:c=d\/c+1=d\/c+2=d\/c+3=d\/d+1=c\/d+2=c\/d+3=c) with z | z | z | z | z | z | z <;> omega
 rcases k with z | z | z | z
 ·exact ⟨r,by omega,e0.trans z⟩
 ·exact ⟨r+512,by omega,q0.trans z⟩
 ·exact ⟨r+1024,by omega,q1.trans z⟩
 ·exact ⟨r+1536,by omega,q2.trans z⟩
def Msk (mask:Nat):Prop:=mask=7\/mask=31\/mask=127\/mask=511\/mask=2047
theorem Msk.whole {mask:Nat}(h:Msk mask):whole (mask+1):=by
 rcases h with rfl | rfl | rfl | rfl | rfl
 ·exact yI
 ·exact wD
 ·exact uQ
 ·exact nS
 ·exact sQ
theorem lG (mask:Nat):∀(r i:Nat),cq mask r (i,0)=(its (mask+1) r i,0)
 | 0,i=>rfl
 | r+1,i=>by
  show cq mask r (leap mask i 0)=_
  rw[show leap mask i 0=(ste (mask+1) i,0) from rfl,lG mask r];rfl
theorem wG (h:Int):bits h<2 ^ 64:=by
 unfold bits
 have h1:=EA h (show (0:Int)<2 ^ 64 by decide)
 have h0:=FG h (show (2 ^ 64:Int)≠0 by decide)
 have:((2 ^ 64:Nat):Int)=2 ^ 64:=by decide
 omega
theorem jP {mask:Nat}(hm:Msk mask){h:Int}{j:Nat}(hj:j<=mask):∃k,k<turns mask/\(cq mask k (bits h%(mask+1),bits h)).1=j:=by
 have p0:(cq mask 13 (bits h%(mask+1),bits h)).2=0:=by
  rw[gy]
  exact Nat.div_eq_of_lt (Ay (wG h) (by decide))
 have i0:=nR mask 13 (bits h%(mask+1)) (bits h) (Dr (Cu _ (DE mask)))
 obtain ⟨r,r1,r2⟩:=sP hm.whole (i:=(cq mask 13 (bits h%(mask+1),bits h)).1) (j:=j) (by omega) (by omega)
 refine ⟨13+r,by unfold turns;omega,?_⟩
 rw[lF,show cq mask 13 (bits h%(mask+1),bits h)=((cq mask 13 (bits h%(mask+1),bits h)).1,0) from Iq rfl p0,lG]
 exact r2
theorem uS {mask:Nat}(hm:Msk mask)(oc:Nat->Prop)(h:Int){j:Nat}(hj:j<=mask)(he:¬ oc j):∃n q,n<10*turns mask/\Way oc mask n (start mask h) q/\¬ oc q.j/\q.j<=mask/\q.dummy=none:=by
 obtain ⟨k,k1,k2⟩:=jP hm (h:=h) hj
 obtain ⟨n,n1,n2⟩:=pS mask k (bits h%(mask+1)) (bits h)
 obtain ⟨n',q,a,b,c⟩:=sO oc mask n (start mask h) (by
  show ¬ oc (mI mask n (cO mask _ _)).j
  rw[n2]
  show ¬ oc (cq mask k (bits h%(mask+1),bits h)).1
  rw[k2]
  exact he)
 exact ⟨n',q,by omega,b,c,b.le (nP mask h),b.dummy⟩
theorem lH {mask n:Nat}(oc:Nat->Prop)(f:Nat->Nat)(hf:∀j,j<=mask->oc j->f j<n)(inj:∀i j,i<=mask->j<=mask->oc i->oc j->f i=f j->i=j)(hn:n<=mask):∃j,j<=mask/\¬ oc j:=by
 by_cases q:∃j,j<=mask/\¬ oc j
 ·exact q
 ·exfalso
  have all:∀j,j<=mask->oc j:=λj hj=>by
   by_cases o:oc j
   ·exact o
   ·exact absurd ⟨j,hj,o⟩ q
  have nd:((BL (mask+1)).map f).Nodup:=by
   unfold List.Nodup
   rw[Bm]
   refine DF (λ{a b} ha hb hab e=>hab (inj a b ?_ ?_ (all _ ?_) (all _ ?_) e)) (Hi)
   all_goals (rw[Bp] at ha hb;omega)
  have:=List.Nodup.length_le_of_subset nd (l₂:=BL n) (λx hx=>by
   obtain ⟨j,hj,e⟩:=AG.mp hx
   rw[Bp] at hj ⊢
   rw[<- e]
   exact hf j (by omega) (all j (by omega)))
  rw[Ac,DS,DS] at this
  omega
open PySem PySem.SetTable
structure Tab (t:SetTable)(hs:Array Int):Prop where
 dm:t.dummies = #[]
 rise:mG t.place
 size:t.place.size=hs.size
 le:∀i j:Nat,t.place[i]? = some j->j<=t.mask
 msk:Msk t.mask
 fit:hs.size<=t.mask
 reach:∀(i j:Nat) (h:Int),t.place[i]? = some j->hs[i]? = some h->∃n q,Way (occ t) t.mask n (start t.mask h) q/\q.j=j
theorem eA {α:Type}{xs:Array α}{i:Nat}{a:α}(h:xs[i]? = some a):i<xs.size:=by
 apply Dy;intro q;rw[CG q] at h;cases h
theorem Tab.fill {t:SetTable}{hs:Array Int}(T:Tab t hs):t.fill=hs.size:=by
 unfold SetTable.fill;rw[T.dm,T.size];rfl
theorem Tab.fits {t:SetTable}{hs:Array Int}(T:Tab t hs):t.fits hs.size=true:=by
 unfold SetTable.fits
 rw[T.fill,T.size]
 simp[T.fit]
theorem Tab.ends {t:SetTable}{hs:Array Int}(T:Tab t hs)(h:Int):∃n q,n<10*turns t.mask/\Way (occ t) t.mask n (start t.mask h) q/\¬ occ t q.j/\q.j<=t.mask/\q.dummy=none:=by
 obtain ⟨j,hj,he⟩:=lH (mask:=t.mask) (n:=hs.size) (occ t) (λj=>below t.place j)
  (λj _ ⟨i,e⟩=>by show below t.place j<hs.size;rw[below_at T.rise e, <- T.size];exact eA e)
  (λi j _ _ ⟨a,ea⟩ ⟨b,eb⟩ e=>by
   have e':below t.place i=below t.place j:=e
   rw[below_at T.rise ea,below_at T.rise eb] at e'
   subst e'
   exact A1 (ea.symm.trans eb)) T.fit
 exact uS T.msk (occ t) h hj he
theorem uT {t:SetTable}{hs:Array Int}(T:Tab t hs){H:Nat->Int}{h:Int}:∀(n:Nat) (p q:Probe) (fuel:Nat),Way (occ t) t.mask n p q->¬ occ t q.j->n<fuel->p.dummy=none →
  (SetTable.probe.go t H h fuel p=some (.empty q.j none)/\∀k r i,Way (occ t) t.mask k p r->t.place[i]? = some r.j->H i≠h) ∨
  (∃k r i,k<n/\Way (occ t) t.mask k p r/\t.place[i]? = some r.j/\H i=h/\SetTable.probe.go t H h fuel p=some (.candidate r.j i (adv t.mask r))/\Way (occ t) t.mask (n-k-1) (adv t.mask r) q/\(adv t.mask r).dummy=none
   /\ ∀k' r' i',k'<k->Way (occ t) t.mask k' p r'->t.place[i']? = some r'.j->H i'≠h):=by
 intro n
 induction n with
 | zero =>
  intro p q fuel W he hf hd
  cases W
  obtain ⟨fuel,rfl⟩:∃f,fuel=f+1:=⟨fuel-1,by omega⟩
  refine .inl ⟨?_,λk r i Wr er =>?_⟩
  ·unfold SetTable.probe.go
   rw[pR T.dm he]
   dsimp only
   rw[hd]
  ·cases Wr with
   | here=>exact absurd ⟨i,er⟩ he
   | step a _=>exact absurd a he
 | succ n ih =>
  intro p q fuel W he hf hd
  obtain ⟨fuel,rfl⟩:∃f,fuel=f+1:=⟨fuel-1,by omega⟩
  cases W with
  | step a W =>
   obtain ⟨i,ei⟩:=a
   have hd':(adv t.mask p).dummy=none:=by rw[<- hd];unfold adv;split <;> rfl
   by_cases hh:H i=h
   ·refine .inr ⟨0,p,i,by omega,.here p,ei,hh,?_,W,hd',λk' r' i' hk=>by omega⟩
    unfold SetTable.probe.go
    rw[iN T.rise ei]
    dsimp only
    rw[if_pos (by rw[hh];exact beq_self_eq_true h)]
    rfl
   ·have e0:SetTable.probe.go t H h (fuel+1) p=SetTable.probe.go t H h fuel (adv t.mask p):=by
     conv=>lhs;unfold SetTable.probe.go
     rw[iN T.rise ei]
     dsimp only
     rw[if_neg (by rw[beq_iff_eq];exact hh)]
     rfl
    rcases ih (adv t.mask p) q fuel W he (by omega) hd' with ⟨r1,r2⟩ | ⟨k,r,i',k1,w1,e1,h1,g1,w2,d2,no⟩
    ·refine .inl ⟨e0.trans r1,λk r j Wr er =>?_⟩
     cases Wr with
     | here =>
      obtain rfl:i=j:=by
       have x:=below_at T.rise ei
       have y:=below_at T.rise er
       exact x.symm.trans y
      exact hh
     | step _ Wr=>exact r2 _ _ _ Wr er
    ·refine .inr ⟨k+1,r,i',by omega,.step ⟨i,ei⟩ w1,e1,h1,e0.trans g1,by rw[show n+1-(k+1)-1=n-k-1 by omega];exact w2,d2,λk' r' j hk Wr er =>?_⟩
     cases Wr with
     | here =>
      obtain rfl:i=j:=by
       have x:=below_at T.rise ei
       have y:=below_at T.rise er
       exact x.symm.trans y
      exact hh
     | step _ Wr=>exact no _ _ _ (by omega) Wr er
theorem uU {t:SetTable}{hs:Array Int}(T:Tab t hs){H:Nat->Int}{h:Int}{n:Nat}{p q:Probe}(W:Way (occ t) t.mask n p q)(he:¬ occ t q.j)(hn:n<10*turns t.mask)(hd:p.dummy=none) :
  (t.probe H h p=some (.empty q.j none)/\∀k r i,Way (occ t) t.mask k p r->t.place[i]? = some r.j->H i≠h) ∨
  (∃k r i,k<n/\Way (occ t) t.mask k p r/\t.place[i]? = some r.j/\H i=h/\t.probe H h p=some (.candidate r.j i (adv t.mask r))/\Way (occ t) t.mask (n-k-1) (adv t.mask r) q/\(adv t.mask r).dummy=none
   /\ ∀k' r' i',k'<k->Way (occ t) t.mask k' p r'->t.place[i']? = some r'.j->H i'≠h) :=
 uT T n p q _ W he hn hd
theorem Tab.yJ {t:SetTable}{hs:Array Int}(T:Tab t hs)(j:Nat):t.put j=({ t with place:=insertAt t.place (below t.place j) j },below t.place j):=by
 unfold SetTable.put
 dsimp only
 have:has t.dummies j=false:=by rw[T.dm];simp[has]
 rw[this]
 rfl
theorem Tab.put {t:SetTable}{hs:Array Int}(T:Tab t hs){h:Int}{n:Nat}{q:Probe}(W:Way (occ t) t.mask n (start t.mask h) q)(he:¬ occ t q.j)(hq:q.j<=t.mask)(hf:hs.size+1<=t.mask) :
  Tab { t with place:=insertAt t.place (below t.place q.j) q.j } (insertAt hs (below t.place q.j) h):=by
 have hp:=(dq T.rise q.j).1
 have hp':below t.place q.j<=hs.size:=by rw[<- T.size];exact hp
 have up:∀j,occ t j->occ { t with place:=insertAt t.place (below t.place q.j) q.j } j:=by
  rintro j ⟨i,e⟩
  by_cases l:i<below t.place q.j
  ·exact ⟨i,by show (insertAt _ _ _)[i]? = _;rw[b7 _ hp,if_pos l];exact e⟩
  ·exact ⟨i+1,by show (insertAt _ _ _)[i+1]? = _;rw[b7 _ hp,if_neg (by omega),if_neg (by omega)];exact e⟩
 refine ⟨T.dm,kA T.rise λi e=>he ⟨i,e⟩,?_,λi j e =>?_,T.msk,by rw[cH];exact hf,λi j h' e eh =>?_⟩
 ·show (insertAt _ _ _).size=_
  rw[cH,cH,T.size]
 ·have e':(insertAt t.place (below t.place q.j) q.j)[i]? = some j:=e
  rw[b7 _ hp] at e'
  split at e'
  ·exact T.le _ _ e'
  ·split at e'
   ·cases e';exact hq
   ·exact T.le _ _ e'
 ·have e':(insertAt t.place (below t.place q.j) q.j)[i]? = some j:=e
  rw[b7 _ hp] at e'
  rw[b7 _ hp'] at eh
  by_cases l1:i<below t.place q.j
  ·rw[if_pos l1] at e' eh
   obtain ⟨n',q',w,eq⟩:=T.reach _ _ _ e' eh
   exact ⟨n',q',w.mono up,eq⟩
  ·rw[if_neg l1] at e' eh
   by_cases l2:i=below t.place q.j
   ·rw[if_pos l2] at e' eh
    cases e';cases eh
    exact ⟨n,q,W.mono up,rfl⟩
   ·rw[if_neg l2] at e' eh
    obtain ⟨n',q',w,eq⟩:=T.reach _ _ _ e' eh
    exact ⟨n',q',w.mono up,eq⟩
def ocw (owner:Array (Option Nat))(j:Nat):Prop:=∃k,owner[j]? = some (some k)
theorem Way.trans {oc:Nat->Prop}{mask n m:Nat}{p q r:Probe}(h:Way oc mask n p q)(h2:Way oc mask m q r):∃k,Way oc mask k p r:=by
 induction h with
 | here=>exact ⟨m,h2⟩
 | step a _ ih=>obtain ⟨k,w⟩:=ih h2;exact ⟨k+1,.step a w⟩
theorem mJ (oc:Nat->Prop)(mask:Nat):∀(k:Nat) (p:Probe),k<=p.more->(∀k',k'<k->oc (p.j+k'))->Way oc mask k p { p with j:=p.j+k,more:=p.more-k }
 | 0,p,_,_ =>.here p
 | k+1,p,h,ho=>by
  have e:adv mask p={ p with j:=p.j+1,more:=p.more-1 }:=by unfold adv;rw[if_pos (by omega)]
  refine .step (ho 0 (by omega)) ?_
  rw[e]
  have:=mJ oc mask k { p with j:=p.j+1,more:=p.more-1 } (by dsimp only;omega) λk' hk=>by
   have:=ho (k'+1) (by omega)
   rw[show p.j+(k'+1)=p.j+1+k' by omega] at this
   exact this
  dsimp only at this
  rw[show p.j+1+k=p.j+(k+1) by omega,show p.more-1-k=p.more-(k+1) by omega] at this
  exact this
theorem fD {owner:Array (Option Nat)}{mask j:Nat}(hs:owner.size=mask+1)(hj:j<=mask):(owner.getD j (some 0)).isNone=true↔¬ ocw owner j:=by
 have hl:j<owner.size:=by omega
 have e:owner[j]? = some owner[j]:=AN hl
 rw[show owner.getD j (some 0)=owner[j] by simp[Array.getD,hl]]
 unfold ocw
 rw[e]
 cases owner[j] with
 | none=>simp
 | some k=>simp
theorem lI {mask i:Nat}(h:i<=mask):runEnd mask i<=mask/\i<=runEnd mask i:=by
 unfold runEnd;split <;> omega
theorem sS {mask:Nat}{owner:Array (Option Nat)}(hs:owner.size=mask+1):∀(fuel i pe j:Nat),i<=mask->SetTable.layClean.free mask owner fuel i pe=some j →
  ¬ ocw owner j/\∃n q,Way (ocw owner) mask n (cO mask i pe) q/\q.j=j:=by
 intro fuel
 induction fuel with
 | zero=>intro i pe j hi h;unfold SetTable.layClean.free at h;cases h
 | succ fuel ih =>
  intro i pe j hi h
  unfold SetTable.layClean.free at h
  obtain ⟨r1,r2⟩:=lI hi
  have no:∀k,k<runEnd mask i+1-i->((owner.getD (i+k) (some 0)).isNone=false)->ocw owner (i+k):=λk hk e=>by
   by_cases o:ocw owner (i+k)
   ·exact o
   ·rw[(fD hs (by omega)).mpr o] at e;cases e
  cases hf:(BL (runEnd mask i+1-i)).find? λk=>(owner.getD (i+k) (some 0)).isNone with
  | some k =>
   rw[hf] at h
   dsimp only at h
   cases h
   rw[List.find?_range_eq_some] at hf
   obtain ⟨f1,f2,f3⟩:=hf
   rw[Bp] at f2
   refine ⟨(fD hs (by omega)).mp f1,k,_,mJ (ocw owner) mask k (cO mask i pe) (by show k<=runEnd mask i-i;omega) λk' hk =>?_,rfl⟩
   refine no k' (by omega) ?_
   have:=f3 k' hk
   simpa using this
  | none =>
   rw[hf] at h
   dsimp only at h
   rw[EV] at hf
   have all:∀k,k<runEnd mask i+1-i->ocw owner (i+k):=λk hk=>no k hk (by simpa using hf k hk)
   obtain ⟨g1,n,q,w,eq⟩:=ih _ _ _ (Dr (Cu _ (DE mask))) h
   refine ⟨g1,?_⟩
   have w0:=mJ (ocw owner) mask (runEnd mask i-i) (cO mask i pe) (Ah _) λk' hk=>all k' (by omega)
   have w1:Way (ocw owner) mask (n+1) { (cO mask i pe) with j:=(cO mask i pe).j+(runEnd mask i-i),more:=(cO mask i pe).more-(runEnd mask i-i) } q:=by
    refine .step (all (runEnd mask i-i) (by omega)) ?_
    have e:adv mask { (cO mask i pe) with j:=(cO mask i pe).j+(runEnd mask i-i),more:=(cO mask i pe).more-(runEnd mask i-i) }=cO mask (leap mask i pe).1 (leap mask i pe).2:=by
     unfold adv
     rw[if_neg (by show ¬ (runEnd mask i-i-(runEnd mask i-i))>0;omega)]
     rfl
    rw[e]
    exact w
   obtain ⟨k,w2⟩:=w0.trans w1
   exact ⟨k,q,w2,eq⟩
theorem sT {mask:Nat}{owner:Array (Option Nat)}(hs:owner.size=mask+1):∀(fuel i pe k:Nat),i<=mask->k<fuel->¬ ocw owner (cq mask k (i,pe)).1->∃j,SetTable.layClean.free mask owner fuel i pe=some j:=by
 intro fuel
 induction fuel with
 | zero=>intro i pe k _ h;omega
 | succ fuel ih =>
  intro i pe k hi hk he
  unfold SetTable.layClean.free
  obtain ⟨r1,r2⟩:=lI hi
  cases hf:(BL (runEnd mask i+1-i)).find? λk=>(owner.getD (i+k) (some 0)).isNone with
  | some k=>exact ⟨_,rfl⟩
  | none =>
   dsimp only
   rw[EV] at hf
   cases k with
   | zero =>
    have h0:=hf 0 (by omega)
    have:(owner.getD (i+0) (some 0)).isNone=true:=(fD hs (by omega)).mpr he
    rw[this] at h0
    cases h0
   | succ k=>exact ih _ _ k (Dr (Cu _ (DE mask))) (by omega) he
structure Own (mask:Nat)(owner:Array (Option Nat))(hs:List Int):Prop where
 size:owner.size=mask+1
 cov:∀(k:Nat) (h:Int),hs[k]? = some h->∃j n q,owner[j]? = some (some k)/\Way (ocw owner) mask n (start mask h) q/\q.j=j
 bnd:∀j k:Nat,owner[j]? = some (some k)->k<hs.length
 inj:∀i j k:Nat,owner[i]? = some (some k)->owner[j]? = some (some k)->i=j
theorem Own.step {mask:Nat}(hm:Msk mask){owner:Array (Option Nat)}{hs:List Int}(O:Own mask owner hs)(h:Int)(hl:hs.length<=mask) :
  ∃j,SetTable.layClean.free mask owner (turns mask) (bits h%(mask+1)) (bits h)=some j/\Own mask (owner.setIfInBounds j (some hs.length)) (hs++[h]):=by
 obtain ⟨e,he,hne⟩:=lH (mask:=mask) (n:=hs.length) (ocw owner) (λj=>(owner.getD j none).getD 0)
  (λj _ ⟨k,ek⟩=>by
   have:=eA ek
   show (owner.getD j none).getD 0<_
   rw[show owner.getD j none=some k by rw[B1,ek];rfl]
   exact O.bnd j k ek)
  (λi j _ _ ⟨a,ea⟩ ⟨b,eb⟩ q=>by
   have q':(owner.getD i none).getD 0=(owner.getD j none).getD 0:=q
   rw[show owner.getD i none=some a by rw[B1,ea];rfl,show owner.getD j none=some b by rw[B1,eb];rfl] at q'
   have q'':a=b:=q'
   subst q''
   exact O.inj i j a ea eb) hl
 have i0:bits h%(mask+1)<=mask:=Dr (Cu _ (DE mask))
 obtain ⟨k,k1,k2⟩:=jP hm (h:=h) he
 obtain ⟨j,hj⟩:=sT O.size (turns mask) _ _ k i0 k1 (by rw[k2];exact hne)
 obtain ⟨hno,n,q,w,eq⟩:=sS O.size _ _ _ _ i0 hj
 have hjm:j<=mask:=by rw[<- eq];exact w.le (nP mask h)
 have hjs:j<owner.size:=by rw[O.size];omega
 have ej:owner[j]? = some none:=by
  rw[AN hjs]
  cases ho:owner[j] with
  | none=>rfl
  | some k=>exact absurd ⟨k,by rw[AN hjs,ho]⟩ hno
 have get:∀i:Nat,(owner.setIfInBounds j (some hs.length))[i]? = if i=j then some (some hs.length) else owner[i]? := λi=>by
  rw[Array.getElem?_setIfInBounds]
  by_cases q:j=i
  ·rw[if_pos q,if_pos q.symm,if_pos hjs]
  ·rw[if_neg q,if_neg (Ca q)]
 have up:∀i,ocw owner i->ocw (owner.setIfInBounds j (some hs.length)) i:=by
  rintro i ⟨k,ek⟩
  refine ⟨k,?_⟩
  rw[get,if_neg (λq=>by rw[q,ej] at ek;cases ek)]
  exact ek
 refine ⟨j,hj,by rw[ES];exact O.size,λk h' eh =>?_,λi k ek =>?_,λi i' k ei ei' =>?_⟩
 ·by_cases lk:k<hs.length
  ·rw[Cf lk] at eh
   obtain ⟨j',n',q',a,b,c⟩:=O.cov k h' eh
   refine ⟨j',n',q',?_,b.mono up,c⟩
   rw[get,if_neg (λq=>by rw[q,ej] at a;cases a)]
   exact a
  ·rw[Cb (by omega)] at eh
   have:k-hs.length=0:=by
    cases hk:k-hs.length with
    | zero=>rfl
    | succ m=>rw[hk] at eh;cases eh
   rw[this] at eh
   cases eh
   obtain rfl:k=hs.length:=by omega
   exact ⟨j,n,q,by rw[get,if_pos rfl],w.mono up,eq⟩
 ·rw[Am,Bw]
  rw[get] at ek
  split at ek
  ·cases ek;omega
  ·have:=O.bnd _ _ ek;omega
 ·rw[get] at ei ei'
  by_cases q1:i=j
  ·by_cases q2:i'=j
   ·rw[q1,q2]
   ·rw[if_pos q1] at ei;rw[if_neg q2] at ei'
    cases ei
    have:=O.bnd _ _ ei';omega
  ·rw[if_neg q1] at ei
   by_cases q2:i'=j
   ·rw[if_pos q2] at ei'
    cases ei'
    have:=O.bnd _ _ ei;omega
   ·rw[if_neg q2] at ei'
    exact O.inj _ _ _ ei ei'
theorem nU {mask:Nat}(hm:Msk mask):∀(l:List Int) (owner:Array (Option Nat)) (hs:List Int),Own mask owner hs->hs.length+l.length<=mask+1 →
    ∃owner',l.foldl (λacc h=>do
      let (owner,k) ← acc
      let j ← SetTable.layClean.free mask owner (turns mask) (bits h%(mask+1)) (bits h)
      pure (owner.setIfInBounds j (some k),k+1)) (some (owner,hs.length))=some (owner',hs.length+l.length)/\Own mask owner' (hs++l)
  | [],owner,hs,O,_=>⟨owner,rfl,by rw[AZ];exact O⟩
  | h :: l,owner,hs,O,hl=>by
    rw[Ba] at hl
    obtain ⟨j,hj,O'⟩:=O.step hm h (by omega)
    obtain ⟨owner',e,O''⟩:=nU hm l _ _ O' (by rw[Am,Bw];omega)
    refine ⟨owner',?_,by rw[A9] at O'';exact O''⟩
    rw[Hn]
    have:(do
      let (owner,k) ← some (owner,hs.length)
      let j ← SetTable.layClean.free mask owner (turns mask) (bits h%(mask+1)) (bits h)
      pure (owner.setIfInBounds j (some k),k+1):Option (Array (Option Nat)×Nat))=some (owner.setIfInBounds j (some hs.length),(hs++[h]).length):=by
      show (SetTable.layClean.free mask owner (turns mask) (bits h%(mask+1)) (bits h)).bind _=_
      rw[hj,Am]
      rfl
    rw[this,e]
    rw[Am,Bw,Ba]
    congr 2
    omega
theorem nV {mask:Nat}(hm:Msk mask)(hs:Array Int)(hl:hs.size<=mask+1):∃owner,SetTable.layClean mask hs=some owner/\Own mask owner hs.toList:=by
  have O0:Own mask (Array.replicate (mask+1) none) []:=by
    refine ⟨by simp,λk h e=>by simp at e,λj k e =>?_,λi j k e =>?_⟩
    · rw[EW] at e;split at e <;> cases e
    · rw[EW] at e;split at e <;> cases e
  obtain ⟨owner,e,O⟩:=nU hm hs.toList _ [] O0 (by rw[Dj,Ak];omega)
  refine ⟨owner,?_,by rw[Em] at O;exact O⟩
  unfold SetTable.layClean
  rw[<- Array.foldl_toList]
  have e':hs.toList.foldl (λacc h=>do
      let (owner,k) ← acc
      let j ← SetTable.layClean.free mask owner (turns mask) (bits h%(mask+1)) (bits h)
      pure (owner.setIfInBounds j (some k),k+1)) (some (Array.replicate (mask+1) none,0))=some (owner,0+hs.toList.length):=e
  rw[e']
  rfl
theorem filterMap_get {α β:Type}{f:α -> Option β}:∀(l:List α),(∀x∈l,(f x).isSome=true)->∀i:Nat,(l.filterMap f)[i]? = l[i]?.bind f
 | [],_,i=>by simp
 | x :: l,h,i=>by
  obtain ⟨y,hy⟩:=EO.mp (h x AU)
  rw[List.filterMap_cons_some hy]
  cases i with
  | zero=>simp[hy]
  | succ i =>
   rw[C4,C4]
   exact filterMap_get l (λz hz=>h z (AM _ hz)) i
theorem wH {mask:Nat}(hm:Msk mask)(finger moves:Nat)(led plain:Bool)(es:Array (Int×Ae))(hl:es.size<=mask) :
  ∃t order,SetTable.laid mask finger moves led plain (es.map (·.1))=some (t,order)/\order.toList.Perm (BL es.size)/\Tab t ((order.filterMap (es[·]?)).map (·.1))/\(order.filterMap (es[·]?)).toList.Perm es.toList/\t.led=led/\t.plain=plain/\t.mask=mask:=by
 obtain ⟨owner,e,O⟩:=nV hm (es.map (·.1)) (by rw[BO];omega)
 refine ⟨_,_,by unfold SetTable.laid;rw[e];rfl,?_⟩
 generalize hlive:((BL (mask+1)).filterMap λj=>(owner.getD j none).map (j, ·))=live
 have mem:∀j k,(j,k)∈live↔owner[j]? = some (some k):=λj k=>by
  rw[<- hlive,C8]
  constructor
  ·rintro ⟨a,ha,ea⟩
   rw[B1] at ea
   cases ho:owner[a]? with
   | none=>rw[ho] at ea;cases ea
   | some x =>
    rw[ho] at ea
    cases x with
    | none=>cases ea
    | some k'=>cases ea;exact ho
  ·intro ho
   refine ⟨j,?_,?_⟩
   ·rw[Bp, <- O.size];exact eA ho
   ·rw[B1,ho];rfl
 have pw:live.Pairwise (λa b=>a.1<b.1):=by
  rw[<- hlive,List.pairwise_filterMap]
  refine Ir (λ{a b} hab x hx y hy =>?_) Fu
  have hx':x.1=a:=by cases ho:owner.getD a none with
   | none=>rw[ho] at hx;cases hx
   | some k=>rw[ho] at hx;cases hx;rfl
  have hy':y.1=b:=by cases ho:owner.getD b none with
   | none=>rw[ho] at hy;cases hy
   | some k=>rw[ho] at hy;cases hy;rfl
  rw[hx',hy'];exact hab
 have nd:(live.map (·.2)).Nodup:=by
  unfold List.Nodup
  rw[Bm]
  refine DF (λ{a b} ha hb hab q =>?_) pw
  have:=O.inj a.1 b.1 a.2 ((mem _ _).mp ha) (by rw[q];exact (mem _ _).mp hb)
  omega
 have hlen:(es.map (·.1)).toList.length=es.size:=by rw[Ak,BO]
 have perm:(live.map (·.2)).Perm (BL es.size):=by
  rw[Cd nd Hi]
  intro k
  rw[Bp,AG]
  constructor
  ·rintro ⟨⟨j,k'⟩,hm',rfl⟩
   have:=O.bnd _ _ ((mem _ _).mp hm')
   rw[hlen] at this
   exact this
  ·intro hk
   obtain ⟨j,_,_,ej,_⟩:=O.cov k _ (Aw (by rw[hlen];exact hk))
   exact ⟨(j,k),(mem _ _).mpr ej,rfl⟩
 have all:∀x∈live.map (·.2),(es[x]?).isSome=true:=λx hx=>by
  have:=(perm.mem_iff).mp hx
  rw[Bp] at this
  rw[AN this];rfl
 have tl:(live.map (·.2)).toArray.toList=live.map (·.2):=rfl
 have ll:live.length=es.size:=by have:=perm.length_eq;rw[Ac,DS] at this;exact this
 have fm:((live.map (·.2)).toArray.filterMap (es[·]?)).toList=(live.map (·.2)).filterMap (es[·]?):=by simp
 have fl:((live.map (·.2)).filterMap (es[·]?)).Perm es.toList:=by
  have p1:=perm.filterMap (es[·]?)
  have:(BL es.size).filterMap (es[·]?)=es.toList:=by
   apply EU
   intro i
   rw[filterMap_get _ (λx hx=>by rw[Bp] at hx;rw[AN hx];rfl)]
   by_cases hi:i<es.size
   ·rw[List.getElem?_range hi,Aq];rfl
   ·rw[D2 (by rw[DS];omega),D2 (by rw[Ak];omega)];rfl
  rw[this] at p1
  exact p1
 refine ⟨perm,?_,by rw[fm];exact fl,rfl,rfl,rfl⟩
 have sz:(((live.map (·.2)).toArray.filterMap (es[·]?)).map (·.1)).size=es.size:=by
  rw[BO, <- Ak,fm,fl.length_eq,Ak]
 have occ_of:∀j,ocw owner j->occ { mask:=mask,place:=(live.map (·.1)).toArray,dummies := #[],finger:=finger,led:=led,moves:=moves,plain:=plain } j:=by
  rintro j ⟨k,ek⟩
  obtain ⟨i,hi,ei⟩:=List.getElem_of_mem ((mem j k).mpr ek)
  refine ⟨i,?_⟩
  show (live.map (·.1)).toArray[i]? = some j
  rw[Bk,AO,Aw hi,ei]
  rfl
 refine ⟨rfl,λi j a b ea eb hij =>?_,?_,λi j ej =>?_,hm,by rw[sz];exact hl,λi j h ej eh =>?_⟩
 ·have ea':(live.map (·.1)).toArray[i]? = some a:=ea
  have eb':(live.map (·.1)).toArray[j]? = some b:=eb
  rw[Bk] at ea' eb'
  have pw':(live.map (·.1)).Pairwise (· < ·):=by rw[Bm];exact pw
  obtain ⟨hi,xi⟩:=Al.mp ea'
  obtain ⟨hj,xj⟩:=Al.mp eb'
  rw[<- xi, <- xj]
  exact Du.mp pw' i j hi hj hij
 ·show (live.map (·.1)).toArray.size=_
  rw[sz,Aj,Ac,ll]
 ·have ej':(live.map (·.1)).toArray[i]? = some j:=ej
  rw[Bk,AO] at ej'
  cases hx:live[i]? with
  | none=>rw[hx] at ej';cases ej'
  | some x =>
   rw[hx] at ej'
   cases ej'
   have:=eA ((mem x.1 x.2).mp (AJ hx))
   show x.1<=mask
   rw[O.size] at this
   omega
 ·have ej':(live.map (·.1)).toArray[i]? = some j:=ej
  rw[Bk,AO] at ej'
  cases hx:live[i]? with
  | none=>rw[hx] at ej';cases ej'
  | some x =>
   rw[hx] at ej'
   cases ej'
   have ho:=(mem x.1 x.2).mp (AJ hx)
   have hk:=O.bnd _ _ ho
   rw[Gx, <- Aq,fm,filterMap_get _ all,AO,hx] at eh
   have eh':(es[x.2]?).map (·.1)=some h:=eh
   obtain ⟨j',n,q,a,b,c⟩:=O.cov x.2 h (by rw[D7,AO,Aq];exact eh')
   obtain rfl:=O.inj _ _ _ ho a
   exact ⟨n,q,b.mono occ_of,c⟩
open PySem PySem.SetTable PyProof.Rows
section
variable  {prog:Au}{w:AX}{A:A7}{E:Ae->Ag->Prop}{s:Ag}
abbrev TK (prog:Au)(w:AX):=IsTupleKey (prog:=prog) (w:=w) (intKind prog w)
def cf (prog:Au)(w:AX)(ks:List Int):Int:=tupleKeyHash (intKind prog w) ks
def aW (es:Array (Int×Ae))(ep:Nat)(t:SetTable):Obj:={ cls :=.type "set",dict:=none,data :=.set es ep t }
def ElT (prog:Au)(w:AX)(h:Heap)(e:Int×Ae)(ks:List Int):Prop:=∃b,e=(cf prog w ks,.ref b)/\TK prog w h ks b
theorem mK (d:Nat){v:Ae}(h:carriedByValue v=true):ofAClassStatement d v=pure false:=by
 cases v with
 | ref a=>simp[carriedByValue] at h
 | _=>cases d <;> rfl
theorem ig {ks:List Int}{b:Addr}{Q:Bool->Ag->Prop}(hk:TK prog w s.heap ks b)(h:Q false s):AL (AQ prog w) A (ofAClassStatement 8 (.ref b)) Q E s:=by
 have hT:=hk.typeIs
 obtain ⟨o,items,n,ho,_,hd,hi⟩:=hk
 unfold ofAClassStatement
 refine Af (EC hT ?_)
 dsimp only
 rw[if_pos (by decide)]
 refine Af (An ?_)
 simp only[BQ,AE,if_false]
 refine Af (EL ho hd ?_)
 dsimp only
 refine Af ?_
 rw[<- Gy]
 refine Fn _ (λrest r s'=>r.1=none/\s'=s/\∀v∈rest,carriedByValue v=true) _ ?_ ?_ _ _ ⟨rfl,rfl,hi.byValue⟩
 ·rintro v rest r s' ⟨hr,rfl,hall⟩
  rw[mK _ (hall v AU)]
  refine Af (An ?_)
  simp only[AE,if_false]
  exact An ⟨rfl,rfl,λu hu'=>hall u (AM _ hu')⟩
 ·rintro ⟨r1,r2⟩ s' ⟨hr,rfl,_⟩
  simp only at hr
  subst hr
  exact An h
theorem yK {ks:List Int}{b:Addr}{vs:List Ae}{Q:Bool->Ag->Prop}(hk:TK prog w s.heap ks b)(hv:∀v∈vs,∃ks' b',v = .ref b'/\TK prog w s.heap ks' b')(h:Q false s) :
  AL (AQ prog w) A (searchCouldBeSeen (.ref b) vs) Q E s:=by
 unfold searchCouldBeSeen
 refine Af ?_
 refine Fn _ (λrest r s'=>r.1=none/\s'=s/\∀v∈rest,∃ks' b',v = .ref b'/\TK prog w s.heap ks' b') _ ?_ ?_ _ _ ⟨rfl,rfl,hv⟩
 ·rintro v rest r s' ⟨hr,rfl,hall⟩
  obtain ⟨ks',b',rfl,hk'⟩:=hall v AU
  have go:∀u∈rest,∃ks' b',u = .ref b'/\TK prog w s'.heap ks' b':=λu hu'=>hall u (AM _ hu')
  dsimp only
  split
  ·exact An ⟨rfl,rfl,go⟩
  ·refine Af (FL hk ?_)
   simp only[BQ,AE,if_false]
   refine Af (FL hk' ?_)
   simp only[BQ,AE,if_false]
   refine Af (ig hk ?_)
   simp only[AE,if_false]
   refine Af (ig hk' ?_)
   simp only[AE,if_false]
   exact An ⟨rfl,rfl,go⟩
 ·rintro ⟨r1,r2⟩ s' ⟨hr,rfl,_⟩
  simp only at hr
  subst hr
  exact An h
theorem wI {m:Nat}(h:Msk m):(m%2 == 0)=false:=by rcases h with rfl | rfl | rfl | rfl | rfl <;> rfl
theorem bL {a:Addr}{es:Array (Int×Ae)}{ep:Nat}{t:SetTable}{Q:(Array (Int×Ae)×Nat×SetTable)->Ag->Prop}(ho:s.heap.get? a=some (aW es ep t))(T:Tab t (es.map (·.1)))(h:Q (es,ep,t) s) :
  AL (AQ prog w) A (setState a) Q E s:=wpAny_setState_of ho rfl (by have:=T.fits;rwa [BO] at this) h
theorem pW (es:Array (Int×Ae))(i:Nat)(e:Int×Ae)(h:es[i]? = some e):(es.map (·.1))[i]? = some e.1:=by rw[Gx,h];rfl
theorem Way.split {oc:Nat->Prop}{mask k:Nat}{p r:Probe}(h:Way oc mask k p r):∀{k':Nat} {r':Probe},Way oc mask k' p r'->k<=k'->Way oc mask (k'-k) r r':=by
 induction h with
 | here p=>intro k' r' h2 _;exact h2
 | @step n p q a _ ih =>
  intro k' r' h2 l
  cases h2 with
  | here=>omega
  | @step m _ _ _ h2=>rw[show m+1-(n+1)=m-n by omega];exact ih h2 (by omega)
theorem pX {a b:Addr}{es:Array (Int×Ae)}{ep:Nat}{t:SetTable}{ks:List Int}{Q:SetFound->Ag->Prop}(hu:A.units<cLine)(ho:s.heap.get? a=some (aW es ep t))(T:Tab t (es.map (·.1)))
    (els:∀e∈es,∃ks',ElT prog w s.heap e ks') (hk:TK prog w s.heap ks b) {q:Probe} (he:¬ occ t q.j) :
    ∀(fuel n:Nat) (st:Option Probe) (p:Probe),st.getD (start t.mask (cf prog w ks))=p->Way (occ t) t.mask n p q->n<fuel->n<10*turns t.mask->p.dummy=none →
      ((∃(k:Nat) (r:Probe) (i:Nat) (e:Int×Ae),Way (occ t) t.mask k p r/\t.place[i]? = some r.j/\es[i]? = some e/\ElT prog w s.heap e ks)->Q (.there none) s) →
      ((¬ ∃(k:Nat) (r:Probe) (i:Nat) (e:Int×Ae),Way (occ t) t.mask k p r/\t.place[i]? = some r.j/\es[i]? = some e/\ElT prog w s.heap e ks)->Q (.free q.j false) s) →
      AL (AQ prog w) A (setSearchFrom a (.ref b) (cf prog w ks) true fuel st) Q E s:=by
  intro fuel
  induction fuel with
  | zero=>intro n st p _ _ h;omega
  | succ fuel ih =>
    intro n st p hst W hn hn2 hd hit mis
    unfold setSearchFrom
    refine Af (bL ho T ?_)
    dsimp only
    rw[show t.gaveWay=false from wI T.msk]
    simp only[AE,if_false]
    rw[show st.getD (t.probeStart (cf prog w ks))=p from hst]
    rcases uU T (H:=λi=>(es[i]?.map (·.1)).getD 0) (h:=cf prog w ks) W he hn2 hd with ⟨g,no⟩ | ⟨k,r,i,k1,w1,e1,h1,g,w2,d2,no⟩
    · erw [g]
      dsimp only
      refine An (mis ?_)
      rintro ⟨k,r,i,e,wr,er,ee,eb,rfl,_⟩
      refine no k r i wr er ?_
      show (es[i]?.map (·.1)).getD 0=_
      rw[ee]
      rfl
    · erw [g]
      dsimp only
      have hi:i<es.size:=by have:=eA e1;rw[T.size,BO] at this;exact this
      have ee:es[i]? = some es[i]:=AN hi
      obtain ⟨ks',b',eq,hk'⟩:=els es[i] (Array.getElem_mem hi)
      rw[eq] at ee
      have hh:cf prog w ks'=cf prog w ks:=by
        have h1':(es[i]?.map (·.1)).getD 0=cf prog w ks:=h1
        rw[ee] at h1'
        exact h1'
      have tail:AL (AQ prog w) A (do
          let equal ← Gm [As b'] (eqBool (.ref b') (.ref b))
          let (es',_,t') ← setState a
          if (true && equal)=true then return .there none
          let some same:=t'.sameMemory t.moves t.mask | unsupported "set.changed-during-lookup:is-the-new-block-at-the-old-address"
          let still ← match (if same then t'.slot r.j else .empty) with
            | .live i'=>match es'[i']? with
              | some (_,y')=>do pure (if ← isSame y' (.ref b') then some i' else none)
              | none=>pure none
            | _=>pure none
          match still with
          | none=>rule "set.search.anew";setSearchFrom a (.ref b) (cf prog w ks) true fuel none
          | some i'=>if equal then return .there (some i') else setSearchFrom a (.ref b) (cf prog w ks) true fuel (some (adv t.mask r))) Q E s:=by
        refine Af (B4 (GH hu hk' hk ?_))
        refine Af (bL ho T ?_)
        dsimp only
        by_cases hks:ks'=ks
        · subst hks
          rw[decide_eq_true rfl]
          simp only[Bool.and_self,if_true]
          exact An (hit ⟨k,r,i,_,w1,e1,ee,b',rfl,hk'⟩)
        · rw[decide_eq_false hks]
          simp only[EJ,AE,if_false]
          rw[show t.sameMemory t.moves t.mask=some true by unfold SetTable.sameMemory;simp]
          dsimp only
          simp only[if_true]
          rw[iN T.rise e1]
          dsimp only
          rw[ee]
          dsimp only
          refine Af (wpAny_isSame_ref_self (Af (An ?_)))
          simp only[if_true]
          refine ih (n-k-1) _ _ rfl w2 (by omega) (by omega) d2 (λx=>hit ?_) λx=>mis λy=>x ?_
          · obtain ⟨k',r',i',e',a1,a2,a3,a4⟩:=x
            obtain ⟨k'',w''⟩:=w1.trans (.step ⟨i,e1⟩ a1)
            exact ⟨k'',r',i',e',w'',a2,a3,a4⟩
          · obtain ⟨k',r',i',e',a1,a2,a3,a4⟩:=y
            have hx:(es[i']?.map (·.1)).getD 0=cf prog w ks:=by
              obtain ⟨bb,rfl,_⟩:=a4
              rw[a3];rfl
            by_cases lt:k'<k
            · exact absurd hx (no k' r' i' lt a1 a2)
            · have w3:=w1.split a1 (by omega)
              cases hd3:k'-k with
              | zero =>
                rw[hd3] at w3
                cases w3
                obtain rfl:i=i':=(below_at T.rise e1).symm.trans (below_at T.rise a2)
                obtain ⟨bb,rfl,hbb⟩:=a4
                rw[ee] at a3
                injection a3 with a3
                injection a3 with a31 a32
                injection a32 with a32
                subst a32
                exact absurd (hk'.inj hbb) hks
              | succ m =>
                rw[hd3] at w3
                cases w3 with
                | step _ w3=>exact ⟨m,r',i',e',w3,a2,a3,a4⟩
      cases hl:t.led with
      | true =>
        simp only[BQ,AE,if_false]
        rw[ee]
        exact tail
      | false =>
        simp only[FV,if_true]
        refine Af (yK hk (λv hv =>?_) ?_)
        · obtain ⟨e',he',rfl⟩:=AG.mp hv
          obtain ⟨ks2,b2,e2,hk2⟩:=els e' (Array.mem_of_mem_filter (BH.mp he'))
          exact ⟨ks2,b2,by rw[e2],hk2⟩
        · simp only[AE,if_false]
          rw[ee]
          exact tail
end
open PySem PySem.SetTable PyProof.Rows
section
variable  {prog:Au}{w:AX}{A:A7}{E:Ae->Ag->Prop}{s:Ag}
def dP (w:AX)(h:Heap)(a:Addr)(es:Array (Int×Ae)):Prop :=
 ∃ep t,h.get? a=some (aW es ep t)/\Tab t (es.map (·.1))/\es.size*5<t.mask*3/\t.led = !w.params.followText "set-order" /\ t.plain=true
theorem dP.at {h h':Heap}{a:Addr}{es:Array (Int×Ae)}(x:dP w h a es)(e:∀o,h.get? a=some o->h'.get? a=some o):dP w h' a es :=
 let ⟨ep,t,ho,r⟩:=x;⟨ep,t,e _ ho,r⟩
theorem nW {m n:Nat}(hm:Msk m)(h1:n*5<m*3)(h2:(n+1)*5≥m*3)(h3:n<1000):Msk (sizeAbove (grown (n+1))-1)/\n+1<=sizeAbove (grown (n+1))-1/\(n+1)*5<(sizeAbove (grown (n+1))-1)*3/\sizeAbove (grown (n+1))<=2048:=by
 have c:n=4\/n=18\/n=76\/n=306:=by
  rcases hm with rfl | rfl | rfl | rfl | rfl <;> omega
 unfold Msk
 rcases c with rfl | rfl | rfl | rfl <;> decide
theorem lJ:2048<=Ai:=by rw[Fd];omega
theorem nX {a:Addr}{es es':Array (Int×Ae)}{ep:Nat}{t t':SetTable}{Q:Unit->Ag->Prop}(ho:s.heap.get? a=some (aW es ep t))(hz:es'.size<=2048)
  (h:∀h',Heap.SameBut a s.heap h'->h'.get? a=some (aW es' (ep+1) t')->Q () { s with heap:=h' }):AL (AQ prog w) A (storeSet a es' t') Q E s:=by
 refine wpAny_storeSet_of (o:=aW es ep t) ho rfl ?_ (A8 hz lJ)
 refine h _ (Dz s.heap a _) ?_
 have:=Bj (Obj.putSet es' t') ho (by rw[putSet_of es' t' (o:=aW es ep t) rfl];rfl)
 rw[putSet_of es' t' (o:=aW es ep t) rfl] at this
 exact this
theorem Tab.tooFull {t:SetTable}{hs:Array Int}(T:Tab t hs):t.tooFull=decide (hs.size*5≥t.mask*3):=by
 unfold SetTable.tooFull;rw[T.fill]
theorem sU {t:SetTable}{es:Array (Int×Ae)}(T:Tab t (es.map (·.1))){n:Nat}(hn:es.size=n+1)(h1:n*5<t.mask*3)(h2:(n+1)*5≥t.mask*3)(h3:n<1000) :
  ∃t' order,t.relaid (es.map (·.1)) (grown (n+1))=some (t',order)/\order.toList.Perm (BL es.size)/\Tab t' ((order.filterMap (es[·]?)).map (·.1))/\(order.filterMap (es[·]?)).toList.Perm es.toList/\t'.led=t.led/\t'.plain=t.plain/\(n+1)*5<t'.mask*3:=by
 obtain ⟨k1,k2,k3,k4⟩:=nW T.msk h1 h2 h3
 obtain ⟨t',order,e,pm,T',pe,l,p,m⟩:=wH k1 t.finger (t.movedTo (sizeAbove (grown (n+1))-1)) t.led t.plain es (by omega)
 exact ⟨t',order,e,pm,T',pe,l,p,by rw[m];exact k3⟩
theorem pY {ks:List Int}{b:Addr}{Q:Bool->Ag->Prop}(hk:TK prog w s.heap ks b)(h:Q true s):AL (AQ prog w) A (hashByValue 8 (.ref b)) Q E s:=by
 have hT:=hk.typeIs
 obtain ⟨o,items,n,ho,_,hd,hi⟩:=hk
 unfold hashByValue
 refine Af (wpAny_specialOf hT F.slot_tuple_hash.lookup ?_)
 dsimp only
 refine Af (EL ho hd ?_)
 refine Af ?_
 show AL _ _ (forIn items _ _) _ _ s
 rw[<- Gy]
 have hall0:∀v∈items.toList,∃k t,v = .int k t:=by
  clear hd ho
  generalize items.toList=l at hi
  induction hi with
  | nil=>intro v hv;cases hv
  | cons h1 _ ih =>
   intro v hv
   rcases AH.mp hv with rfl | hv
   ·obtain ⟨t,e⟩:=GJ h1;exact ⟨_,t,e⟩
   ·exact ih v hv
 refine Fn _ (λrest r s'=>r.1=none/\s'=s/\∀v∈rest,∃k t,v=CO k t) _ ?_ ?_ _ _ ⟨rfl,rfl,hall0⟩
 ·rintro v rest r s' ⟨hr,rfl,hall⟩
  obtain ⟨k,t,rfl⟩:=hall v AU
  rw[show hashByValue 7 (.int k t)=pure true from rfl]
  refine Af (An ?_)
  simp only[BQ,AE,if_false]
  exact An ⟨rfl,rfl,λu hu'=>hall u (AM _ hu')⟩
 ·rintro ⟨r1,r2⟩ s' ⟨hr,rfl,_⟩
  simp only at hr
  subst hr
  exact An h
theorem wJ {a b:Addr}{es:Array (Int×Ae)}{ks:List Int}{Q:Bool->Ag->Prop}(hu:A.units<cLine)(I:dP w s.heap a es)(els:∀e∈es,∃ks',ElT prog w s.heap e ks')(hk:TK prog w s.heap ks b)(hz:es.size<1000)
  (hin:(∃e∈es,ElT prog w s.heap e ks)->Q false s)
  (hnew:(¬ ∃e∈es,ElT prog w s.heap e ks)->∀h' es',Heap.SameBut a s.heap h'->dP w h' a es'->es'.toList.Perm ((cf prog w ks,.ref b) :: es.toList)->Q true { s with heap:=h' }) :
  AL (AQ prog w) A (setAddHashed a (.ref b) (cf prog w ks)) Q E s:=by
 obtain ⟨ep,t,ho,T,rm,hl,hp⟩:=I
 unfold setAddHashed setAddHashedIn
 refine B4 (Af (bL ho T ?_))
 dsimp only
 rw[show byScan (.ref b) es=false from rfl]
 simp only[AE,if_false]
 obtain ⟨n,q,hn,W,he,hq,hd⟩:=T.ends (cf prog w ks)
 have hn':n<100000:=by
  have:t.mask<=2047:=by rcases T.msk with e | e | e | e | e <;> omega
  unfold turns at hn
  omega
 unfold setSearch
 refine Af (pX hu ho T els hk he 100000 n none _ rfl W hn' hn rfl (λx =>?_) λx =>?_)
 ·obtain ⟨k,r,i,e,_,_,ee,el⟩:=x
  exact An (hin ⟨e,Array.mem_of_getElem? ee,el⟩)
 ·have nx:¬ ∃e∈es,ElT prog w s.heap e ks:=by
   rintro ⟨e,he',el⟩
   obtain ⟨i,hi,ei⟩:=Array.getElem_of_mem he'
   have ee:es[i]? = some e:=by rw[AN hi,ei]
   have hpl:i<t.place.size:=by rw[T.size,BO];exact hi
   obtain ⟨bb,rfl,hbb⟩:=el
   obtain ⟨k,r,w1,er⟩:=T.reach i _ _ (AN hpl) (pW es i _ ee)
   exact x ⟨k,r,i,_,w1,by rw[er];exact AN hpl,ee,bb,rfl,hbb⟩
  dsimp only
  refine Af (bL ho T ?_)
  dsimp only
  rw[T.yJ]
  dsimp only
  rw[hp]
  simp only[if_true]
  have hz':(es.map (·.1)).size+1<=t.mask:=by
   rw[BO];have:=T.fit;rw[BO] at this
   rcases T.msk with e | e | e | e | e <;> rw[e] at rm ⊢ <;> omega
  have T':=T.put W he hq hz'
  rw[<- mH es (below t.place q.j) (cf prog w ks,As b) (·.1),hp] at T'
  have sz:(insertAt es (below t.place q.j) (cf prog w ks,As b)).size=es.size+1:=cH _ _ _
  refine Af (pY hk ?_)
  simp only[if_true]
  refine Af (nX ho (by rw[sz];omega) λh1 sb1 ho1 =>?_)
  have pm1:=insertAt_perm es (below t.place q.j) (cf prog w ks,As b)
  rw[T'.tooFull,BO,sz]
  by_cases full:(es.size+1)*5≥t.mask*3
  ·rw[if_pos (by simpa using full)]
   unfold setRelay
   obtain ⟨t2,order,e2,pm2,T2,pe2,l2,p2,rm2⟩:=sU T' sz (n:=es.size) (by simpa using rm) full hz
   obtain ⟨_,_,_,sa⟩:=nW T.msk rm full hz
   refine Af (Af (bL (s:={ s with heap:=h1 }) ho1 T' ?_))
   dsimp only
   rw[if_neg (Nat.not_lt.mpr (A8 sa lJ))]
   rw[e2]
   have z2:(order.filterMap ((insertAt es (below t.place q.j) (cf prog w ks,As b))[·]?)).size=es.size+1:=by
    rw[<- Ak,pe2.length_eq,Ak,sz]
   refine Af ?_
   show AL _ _ (if ((order.filterMap ((insertAt es (below t.place q.j) (cf prog w ks,As b))[·]?)).size != (insertAt es (below t.place q.j) (cf prog w ks,As b)).size)=true then _ else _) _ _ _
   rw[if_neg (by rw[z2,sz];simp)]
   refine An ?_
   dsimp only
   refine nX (s:={ s with heap:=h1 }) ho1 (by rw[z2];omega) λh2 sb2 ho2 =>?_
   refine An (hnew nx h2 _ (sb1.trans sb2) ⟨_,_,ho2,T2,by rw[z2];exact rm2,by rw[l2];exact hl,by rw[p2]⟩ (pe2.trans pm1))
  ·rw[if_neg (by simpa using full)]
   refine An (hnew nx h1 _ sb1 ⟨_,_,ho1,T',?_,hl,rfl⟩ pm1)
   rw[sz]
   exact Dy full
end
open PySem PySem.SetTable PyProof.Rows PySem.Spec
def TS (h h':Heap):Prop:=∀b o,o.cls = .type "tuple" -> h.get? b=some o->h'.get? b=some o
structure Kd (prog:Au)(w:AX)(κ:Type) where
 El:Heap->Ae -> κ -> Prop
 hash:κ -> Int
 room:A7->Prop
 keeps:∀{h h':Heap} {v:Ae} {k:κ},El h v k->TS h h'->El h' v k
 inj:∀{h:Heap} {v:Ae} {k k':κ},El h v k->El h v k'->k=k'
 add:∀{A:A7} {E:Ae->Ag->Prop} {s:Ag} {a:Addr} {es:Array (Int×Ae)} {v:Ae} {k:κ} {Q:Bool->Ag->Prop},room A->dP w s.heap a es->(∀e∈es,∃k',e.1=hash k'/\El s.heap e.2 k')->El s.heap v k->es.size<1000 →
  ((∃e∈es,El s.heap e.2 k)->∀tk,s.toks<=tk->Q false { s with toks:=tk }) →
  ((¬ ∃e∈es,El s.heap e.2 k)->∀h' es' tk,s.toks<=tk->Heap.SameBut a s.heap h'->dP w h' a es'->es'.toList.Perm ((hash k,v) :: es.toList)->Q true { s with heap:=h',toks:=tk }) →
  AL (AQ prog w) A (setAdd a v) Q E s
theorem TK.keep {prog:Au}{w:AX}{h h':Heap}{ks:List Int}{b:Addr}(x:TK prog w h ks b)(t:TS h h'):TK prog w h' ks b :=
 let ⟨o,items,n,ho,hc,r⟩:=x;⟨o,items,n,t b o hc ho,hc,r⟩
def i8 (prog:Au)(w:AX):Kd prog w (List Int) where
 El:=λh v ks=>∃b,v = .ref b/\TK prog w h ks b
 hash:=cf prog w
 room:=λA=>A.units<cLine
 keeps:=λ⟨b,e,x⟩ t=>⟨b,e,x.keep t⟩
 inj:=λ⟨b,e,x⟩ ⟨b',e',x'⟩=>by
  rw[e] at e';injection e' with e';subst e';exact x.inj x'
 add:=by
  intro A E s a es v k Q hu I els hv hz hin hnew
  obtain ⟨b,rfl,hk⟩:=hv
  unfold setAdd
  refine B4 (Af (wpAny_pyHash_tuple hu hk ?_))
  have els':∀e∈es,∃ks',ElT prog w s.heap e ks':=λe he=>by
   obtain ⟨k',e1,b',e2,x⟩:=els e he
   exact ⟨k',b',Iq e1 e2,x⟩
  have conv:∀e∈es,(ElT prog w s.heap e k↔∃b,e.2 = .ref b/\TK prog w s.heap k b):=λe he=>by
   constructor
   ·rintro ⟨b',rfl,x⟩;exact ⟨b',rfl,x⟩
   ·rintro ⟨b',e2,x⟩
    obtain ⟨k',e1,b2,e3,x2⟩:=els e he
    rw[e2] at e3;injection e3 with e3;subst e3
    obtain rfl:=x.inj x2
    exact ⟨b',Iq e1 e2,x⟩
  refine wJ (s:={ s with toks:=s.toks+(k.length+1) }) hu I els' hk hz (λx=>hin ?_ _ (Co _ _)) λx h' es' sb I' pm=>hnew ?_ h' es' _ (Co _ _) sb I' pm
  ·obtain ⟨e,he,x⟩:=x;exact ⟨e,he,(conv e he).mp x⟩
  ·rintro ⟨e,he,y⟩;exact x ⟨e,he,(conv e he).mpr y⟩
section
variable  {prog:Au}{w:AX}{κ:Type}(kd:Kd prog w κ)
structure Good (h:Heap)(es:Array (Int×Ae))(l:List κ):Prop where
 el:∀e∈es,∃k,k∈l/\e.1=kd.hash k/\kd.El h e.2 k
 all:∀k∈l,∃e∈es,kd.El h e.2 k
 dis:es.toList.Pairwise (λe e'=>∀k,kd.El h e.2 k->¬ kd.El h e'.2 k)
 len:es.size<=l.length
variable  {kd}
theorem Good.keeps {h h':Heap}{es:Array (Int×Ae)}{l:List κ}(G:Good kd h es l)(t:TS h h'):Good kd h' es l:=by
 refine ⟨λe he =>?_,λk hk =>?_,?_,G.len⟩
 ·obtain ⟨k,a,b,c⟩:=G.el e he;exact ⟨k,a,b,kd.keeps c t⟩
 ·obtain ⟨e,a,b⟩:=G.all k hk;exact ⟨e,a,kd.keeps b t⟩
 ·refine DF (λ{e e'} he he' x k y z =>?_) G.dis
  obtain ⟨k1,_,_,c1⟩:=G.el e (BH.mp he)
  obtain ⟨k2,_,_,c2⟩:=G.el e' (BH.mp he')
  obtain rfl:=kd.inj y (kd.keeps c1 t)
  obtain rfl:=kd.inj z (kd.keeps c2 t)
  exact x _ c1 c2
theorem Good.nil (h:Heap):Good kd h #[] []:=⟨λe he=>(by simp at he),λk hk=>(by cases hk),(by simp),Ah _⟩
theorem Good.same {h:Heap}{es:Array (Int×Ae)}{l:List κ}(G:Good kd h es l){k:κ}(x:∃e∈es,kd.El h e.2 k):Good kd h es (l++[k]):=by
 refine ⟨λe he =>?_,λk' hk =>?_,G.dis,by rw[Am];have:=G.len;omega⟩
 ·obtain ⟨k,a,b⟩:=G.el e he;exact ⟨k,Cp _ a,b⟩
 ·rcases Ax.mp hk with hk | hk
  ·exact G.all k' hk
  ·rw[AB] at hk;subst hk;exact x
theorem Good.more {h:Heap}{es es':Array (Int×Ae)}{l:List κ}(G:Good kd h es l){k:κ}{v:Ae}(hv:kd.El h v k)(x:¬ ∃e∈es,kd.El h e.2 k)(pm:es'.toList.Perm ((kd.hash k,v) :: es.toList)):Good kd h es' (l++[k]):=by
 have mem:∀e,e∈es'↔e=(kd.hash k,v)\/e∈es:=λe=>by
  rw[<- BH,pm.mem_iff,AH,BH]
 refine ⟨λe he =>?_,λk' hk =>?_,?_,?_⟩
 ·rcases (mem e).mp he with rfl | he
  ·exact ⟨k,AY _ (AB.mpr rfl),rfl,hv⟩
  ·obtain ⟨k,a,b⟩:=G.el e he;exact ⟨k,Cp _ a,b⟩
 ·rcases Ax.mp hk with hk | hk
  ·obtain ⟨e,a,b⟩:=G.all k' hk;exact ⟨e,(mem e).mpr (.inr a),b⟩
  ·rw[AB] at hk;subst hk;exact ⟨_,(mem _).mpr (.inl rfl),hv⟩
 ·rw[pm.pairwise_iff (λ{a b} z k y1 y2=>z k y2 y1)]
  refine List.Pairwise.cons (λe he k' y1 y2 =>?_) G.dis
  obtain rfl:=kd.inj y1 hv
  exact x ⟨e,BH.mp he,y2⟩
 ·have:=pm.length_eq
  rw[Ba,Ak,Ak] at this
  rw[Am,Bw]
  have:=G.len
  omega
end
section
variable  {prog:Au}{w:AX}{A:A7}{R:Result->Ag->Prop}{I:Addr}{fp:List Addr}{G:Array GenState->Array GenState->Prop}{n:Nat}{P:Nat->Ae->Prop}{St:Nat->Ag->Prop}{κ:Type}{kd:Kd prog w κ}
theorem nY (W:WalksS prog w A.in1 I fp [I] G n P St)(hrm:kd.room A.in1)(hI:∀i s,St i s->∃o,s.heap.get? I=some o/\o.cls ≠ .type "tuple")(S:Addr)(hSf:S∉fp)(hIf:I∈fp)(ks:List κ)(hn:n=ks.length)(hb:n<1000) :
  ∀(k i:Nat) (s:Ag) (es:Array (Int×Ae)),n-i=k->i<=n->St i s->(∀j v,P j v->∃q,ks[j]? = some q/\kd.El s.heap v q) →
   dP w s.heap S es->Good kd s.heap es (ks.take i) →
   (∀s' es',Moved [S,I] G s s'->dP w s'.heap S es'->Good kd s'.heap es' ks->R (.ok (.ret .none)) s') →
   EN (AQ prog w) A (.builtin "set.update.loop" ⟨[.ref S,.ref I],[]⟩) R s:=by
 have hSI:S≠I:=λe=>hSf (e ▸ hIf)
 have ts:∀i s s',St i s->Moved [I] G s s'->TS s.heap s'.heap:=λi s s' hst hm b o hc e=>by
  refine hm.heap b o (λhb =>?_) e
  rw[AB] at hb
  obtain ⟨o',e',c'⟩:=hI i s hst
  rw[hb,e'] at e;cases e;exact c' hc
 intro k
 induction k with
 | zero =>
  intro i s es hk hi hst hv hS hG hR
  have hin:i=n:=by omega
  subst hin
  refine Bv Fb ?_
  rw[BJ C5 _]
  show AL _ A.in1 (pyNext (.ref I) >>= _) _ _ s
  refine Af (W.done s _ _ hst λs' hm =>?_)
  show AL _ A.in1 (ret BR) _ _ s'
  rw[AA (by omega)] at hG
  exact An (hR s' es (hm.mono λb hb=>by rw[AB] at hb;simp[hb]) (hS.at λo e=>hm.heap S o (by rw[AB];exact hSI) e) (hG.keeps (ts _ _ _ hst hm)))
 | succ k ih =>
  intro i s es hk hi hst hv hS hG hR
  have hlt:i<n:=by omega
  refine Bv Fb ?_
  rw[BJ C5 _]
  show AL _ A.in1 (pyNext (.ref I) >>= _) _ _ s
  refine Af (W.item i s _ _ hlt hst λv s' hP hst' hm =>?_)
  have t0:=ts _ _ _ hst hm
  obtain ⟨q,eq,hq⟩:=hv i v hP
  have hS':dP w s'.heap S es:=hS.at λo e=>hm.heap S o (by rw[AB];exact hSI) e
  have hG':=hG.keeps t0
  have tk:ks.take (i+1)=ks.take i++[q]:=by rw[HI,eq];rfl
  show AL _ A.in1 (Gm [v] (setAdd S v) >>= _) _ _ s'
  have hm2:Moved [S,I] G s s':=hm.mono λb hb=>by rw[AB] at hb;simp[hb]
  refine Af (B4 (kd.add hrm hS' (λe he =>?_) (kd.keeps hq t0) ?_ (λx tk' htk =>?_) λx h' es' tk' htk sb I' pm =>?_))
  ·obtain ⟨k',_,a,b⟩:=hG'.el e he;exact ⟨k',a,b⟩
  ·have:=hG'.len;rw[Bg] at this;omega
  ·refine An ⟨Ds C5 _,ih (i+1) _ es (by omega) hlt (W.frame _ s' _ _ hst' htk λb _ o e=>e) (λj v' p =>?_) hS' (by rw[tk];exact hG'.same x) λs'' es'' hm'' a b =>?_⟩
   ·obtain ⟨q',a,b⟩:=hv j v' p;exact ⟨q',a,kd.keeps b t0⟩
   ·exact hR s'' es'' (Im W.gtrans (hm2.then_heap htk λb o _ e=>e) hm'') a b
  ·have t1:TS s'.heap h':=λb o hc e=>by
    rw[sb.2 b (λhb=>by
     obtain ⟨ep,t,ho,_⟩:=hS'
     rw[hb,ho] at e;cases e;simp[aW] at hc)]
    exact e
   refine An ⟨Ds C5 _,ih (i+1) _ es' (by omega) hlt (W.frame _ s' _ _ hst' htk λb hb o e =>?_) (λj v' p =>?_) I' (by rw[tk];exact (hG'.more (kd.keeps hq t0) x pm).keeps t1) λs'' es'' hm'' a b =>?_⟩
   ·rw[sb.2 b (λh:b=S=>hSf (h ▸ hb))];exact e
   ·obtain ⟨q',a,b⟩:=hv j v' p;exact ⟨q',a,kd.keeps (kd.keeps b t0) t1⟩
   ·refine hR s'' es'' (Im W.gtrans (hm2.then_heap htk λb o hb e =>?_) hm'') a b
    rw[sb.2 b (λh:b=S=>hb (by rw[h];exact AU))];exact e
end
section
variable  {prog:Au}{w:AX}{A:A7}{E:Ae->Ag->Prop}{s:Ag}
theorem qX (a:Ae){Q₁:Ae->Ag->Prop}
    (h:Q₁ (.ref s.heap.objs.size) { s with heap:=s.heap.push (aW #[] 0 (.fresh 0 0 (!w.params.followText "set-order"))) }) :
    EN (AQ prog w) A (.call (.builtin "set.__new__") ⟨[.type "set",a],[]⟩) (wants Q₁ E) s:=by
  refine Eo ?_
  show AL _ A.in1 (do checkBuiltinCall "set.__new__" ⟨[.type "set",a],[]⟩;again (.builtin "set.__new__" ⟨[.type "set",a],[]⟩)) _ _ s
  refine Af (Hy (PySem.F.newCall_set_1 a) (An ⟨Ds Hs _,Bv F.entry_set_new ?_⟩))
  rw[BJ Hs _]
  unfold Builtin.«set.__new__» Builtin.Frozenset.newClass
  have hsub:=sub_set_self
  obtain ⟨hp,g,d,tk,os⟩:=s
  dsimp only
  wp_walk
  refine Fo (An ?_)
  dsimp only
  simp only[newObj]
  refine Af (wpAny_alloc (An ?_))
  exact An h
theorem sV (led:Bool):Tab (.fresh 0 0 led) #[]:=by
 refine ⟨rfl,λi j a b e =>?_,rfl,λi j e =>?_,.inl rfl,A5 _,λi j h e =>?_⟩ <;> (simp[SetTable.fresh] at e)
theorem jQ {h:Heap}{a:Addr}(ho:h.get? a=some (aW #[] 0 (.fresh 0 0 (!w.params.followText "set-order")))):dP w h a #[] :=
 ⟨0,_,ho,(by rw[Array.map_empty];exact sV _),(by show 0*5<7*3;decide),rfl,rfl⟩
theorem sub_tuple_set:isSubtype (.type "tuple") (.type "set")=pure false:=by rw[DY];kernel_rfl
theorem sub_tuple_frozenset:isSubtype (.type "tuple") (.type "frozenset")=pure false:=by rw[DY];kernel_rfl
end
open PySem PySem.SetTable PyProof.Rows PySem.Spec
section
variable  {prog:Au}{w:AX}{A:A7}{E:Ae->Ag->Prop}{s:Ag}
set_option maxHeartbeats 3200000 in
theorem jR {κ:Type}{kd:Kd prog w κ}{l:Addr}{items:Array Ae}{ks:List κ}{Q:Ae->Ag->Prop}
  (hh:A.handled=none) (hrm:kd.room A.in1.in1.in1) (hl:s.heap.IsTuple l items) (hz:items.size=ks.length) (hi:∀(i:Nat) v,items[i]? = some v->∃q,ks[i]? = some q/\kd.El s.heap v q) (hb:items.size<1000)
  (h:∀(h':Heap) (es:Array (Int×Ae)) (tk:Nat),s.toks<=tk->dP w h' s.heap.objs.size es->Good kd h' es ks →
   (∀b o,s.heap.get? b=some o->h'.get? b=some o)->Q (.ref s.heap.objs.size) { s with heap:=h',toks:=tk }) :
  AL (AQ prog w) A (call (.type "set") [.ref l]) Q E s:=by
 obtain ⟨c,tl,hmro⟩:=BN.mro
 have hmade:=BN.made
 have hsub:=BN.sub
 refine Ei (Eo ?_)
 show AL _ _ (callAny (.type "set") _) _ _ _
 refine An ⟨CL _ (by decide +kernel),Bv GQ ?_⟩
 rw[Gz (FN "set" [.ref l] []) rfl]
 have h1:=BN.notType
 have h2:=BN.canCreate
 have hct:=Fv (.ref l)
 repeat (any_goals (first | assumption | wp_step))
 have gd:(s.heap.push (aW #[] 0 (.fresh 0 0 (!w.params.followText "set-order")))).objs.size=s.heap.objs.size+1:=CP _ _
 refine CN (qX (w:=w) (.ref l) (E:=E) (Q₁:=λobj s₁=>obj = .ref s.heap.objs.size/\s₁={ s with heap:=s.heap.push (aW #[] 0 (.fresh 0 0 (!w.params.followText "set-order"))) }) ⟨rfl,rfl⟩) λr s₁ hr =>?_
 cases r with
 | error e=>exact hr
 | ok fl =>
  cases fl with
  | ret obj =>
   obtain ⟨rfl,rfl⟩:=hr
   generalize hled:(!w.params.followText "set-order")=led at gd ⊢
   have hS:(s.heap.push (aW #[] 0 (.fresh 0 0 led))).get? s.heap.objs.size=some (aW #[] 0 (.fresh 0 0 led)):=Av _ rfl
   have hT:Shared.TypeIs { s with heap:=s.heap.push (aW #[] 0 (.fresh 0 0 led)) } (.ref s.heap.objs.size) "set" :=⟨_,hS,rfl⟩
   have hli:=BN.init.lookup
   have hbi:=BN.init.bind (.ref s.heap.objs.size)
   repeat (any_goals (first | assumption | wp_step))
   refine CN (B6 (R:=wants (λr s₂=>r = .none/\∃h' es tk,s₂={ s with heap:=h',toks:=tk }/\s.toks<=tk ∧
     dP w h' s.heap.objs.size es/\Good kd h' es ks ∧
     (∀b o,s.heap.get? b=some o->h'.get? b=some o)) E) BN.init.plain Hj (check_set_init_1 hT ?_)) λr₂ s₂ hr₂ =>?_
   ·obtain ⟨ol,hol,hcl,nl,hdl⟩:=id hl
    obtain ⟨ocls,odict,odata,oslots⟩:=ol
    simp only at hcl hdl
    subst hcl;subst hdl
    have hol':(s.heap.push (aW #[] 0 (.fresh 0 0 led))).get? l=some { cls :=.type "tuple",dict:=odict,data :=.seq items nl,slots:=oslots }:=Ad _ hol
    have hsls:=sub_tuple_set
    have hslf:=sub_tuple_frozenset
    have hne:(B7 "tuple" == B7 "dict")=false:=by decide
    have hl1:(s.heap.push (aW #[] 0 (.fresh 0 0 led))).IsTuple l items:=⟨_,hol',rfl,nl,rfl⟩
    unfold Builtin.«set.__init__» noKeywords Builtin.Frozenset.updateFrom
    generalize hPI:pyIter=PI
    wp_walk
    subst hPI
    refine CM hl1 ?_
    refine Af (EM ?_)
    have hlS:l<s.heap.objs.size:=Ar hol
    have hh3:A.in1.in1.in1.handled=none:=by simp[hh]
    have hneI:l≠(s.heap.push (aW #[] 0 (.fresh 0 0 led))).objs.size:=by
     rw[gd];exact AI (BP hlS)
    have hSf:s.heap.objs.size∉[(s.heap.push (aW #[] 0 (.fresh 0 0 led))).objs.size,l]:=by
     rw[gd];simp only[AH,AB,B9,or_false,not_or]
     exact ⟨AI (CI _),CZ hlS⟩
    refine nY (kd:=kd) ((Ht hh3 _ l hneI items).toS) hrm (λi s' st =>?hI) s.heap.objs.size hSf AU ks hz hb (items.size-0) 0 _ #[] (by omega) (A5 _)
     ⟨⟨_,Av _ rfl,rfl,rfl⟩,(hl1.push _)⟩ ?hv (by subst hled;exact jQ (Ad _ hS)) (Good.nil _) ?hR
    case hI =>
     obtain ⟨o,ho,hc,_⟩:=st.1
     exact ⟨o,ho,by rw[hc];decide⟩
    case hv =>
     intro j v hv
     obtain ⟨q,e,x⟩:=hi j v hv
     exact ⟨q,e,kd.keeps x λb o _ e=>Ad _ (Ad _ e)⟩
    case hR =>
     intro s' es' hm hS' hG'
     obtain ⟨h',g',d',tk',os'⟩:=s'
     have eg:g'=s.gens:=hm.gens
     have ed:d'=s.drawn:=hm.drawn
     have eo:os'=s.os:=hm.os
     subst eg;subst ed;subst eo
     show AL _ _ _ _ _ _
     refine An ?_
     show AL _ _ (ret BR) _ _ _
     refine An ⟨rfl,h',es',tk',rfl,hm.toks,hS',hG',λb o e =>?_⟩
     have hbb:=Ar e
     have hb1:b≠s.heap.objs.size:=AI hbb
     have hb2:b≠(s.heap.push (aW #[] 0 (.fresh 0 0 led))).objs.size:=by
      rw[gd];exact AI (BP hbb)
     exact hm.heap b o (by simp only[AH,AB,B9,or_false,not_or];exact ⟨hb1,hb2⟩) (Ad _ (Ad _ e))
   ·cases r₂ with
    | error e=>exact hr₂
    | ok fl₂ =>
     cases fl₂ with
     | ret r =>
      obtain ⟨rfl,h',es,tk,rfl,htk,hS',hG',hk'⟩:=hr₂
      repeat (any_goals (first | assumption | wp_step))
      exact h _ _ _ htk hS' hG' hk'
     | _=>exact hr₂.elim
  | _=>exact hr.elim
end
open PySem PySem.SetTable PyProof.Rows PySem.Spec
section
variable  {prog:Au}{w:AX}{A:A7}{E:Ae->Ag->Prop}{s:Ag}
set_option maxHeartbeats 3200000 in
theorem call_set_list {κ:Type}{kd:Kd prog w κ}{l:Addr}{items:Array Ae}{ks:List κ}{Q:Ae->Ag->Prop}
  (hh:A.handled=none) (hrm:kd.room A.in1.in1.in1) (hl:s.heap.IsList l items) (hz:items.size=ks.length) (hi:∀(i:Nat) v,items[i]? = some v->∃q,ks[i]? = some q/\kd.El s.heap v q) (hb:items.size<1000)
  (h:∀(h':Heap) (es:Array (Int×Ae)) (tk:Nat),s.toks<=tk->dP w h' s.heap.objs.size es->Good kd h' es ks →
   (∀b o,s.heap.get? b=some o->h'.get? b=some o)->Q (.ref s.heap.objs.size) { s with heap:=h',toks:=tk }) :
  AL (AQ prog w) A (call (.type "set") [.ref l]) Q E s:=by
 obtain ⟨c,tl,hmro⟩:=BN.mro
 have hmade:=BN.made
 have hsub:=BN.sub
 refine Ei (Eo ?_)
 show AL _ _ (callAny (.type "set") _) _ _ _
 refine An ⟨CL _ (by decide +kernel),Bv GQ ?_⟩
 rw[Gz (FN "set" [.ref l] []) rfl]
 have h1:=BN.notType
 have h2:=BN.canCreate
 have hct:=Fv (.ref l)
 repeat (any_goals (first | assumption | wp_step))
 have gd:(s.heap.push (aW #[] 0 (.fresh 0 0 (!w.params.followText "set-order")))).objs.size=s.heap.objs.size+1:=CP _ _
 refine CN (qX (w:=w) (.ref l) (E:=E) (Q₁:=λobj s₁=>obj = .ref s.heap.objs.size/\s₁={ s with heap:=s.heap.push (aW #[] 0 (.fresh 0 0 (!w.params.followText "set-order"))) }) ⟨rfl,rfl⟩) λr s₁ hr =>?_
 cases r with
 | error e=>exact hr
 | ok fl =>
  cases fl with
  | ret obj =>
   obtain ⟨rfl,rfl⟩:=hr
   generalize hled:(!w.params.followText "set-order")=led at gd ⊢
   have hS:(s.heap.push (aW #[] 0 (.fresh 0 0 led))).get? s.heap.objs.size=some (aW #[] 0 (.fresh 0 0 led)):=Av _ rfl
   have hT:Shared.TypeIs { s with heap:=s.heap.push (aW #[] 0 (.fresh 0 0 led)) } (.ref s.heap.objs.size) "set" :=⟨_,hS,rfl⟩
   have hli:=BN.init.lookup
   have hbi:=BN.init.bind (.ref s.heap.objs.size)
   repeat (any_goals (first | assumption | wp_step))
   refine CN (B6 (R:=wants (λr s₂=>r = .none/\∃h' es tk,s₂={ s with heap:=h',toks:=tk }/\s.toks<=tk ∧
     dP w h' s.heap.objs.size es/\Good kd h' es ks ∧
     (∀b o,s.heap.get? b=some o->h'.get? b=some o)) E) BN.init.plain Hj (check_set_init_1 hT ?_)) λr₂ s₂ hr₂ =>?_
   ·obtain ⟨ol,hol,hcl,nl,hdl⟩:=id hl
    obtain ⟨ocls,odict,odata,oslots⟩:=ol
    simp only at hcl hdl
    subst hcl;subst hdl
    have hol':(s.heap.push (aW #[] 0 (.fresh 0 0 led))).get? l=some { cls :=.type "list",dict:=odict,data :=.seq items nl,slots:=oslots }:=Ad _ hol
    have hsls:=PySem.F.sub_list_set
    have hslf:=PySem.F.sub_list_frozenset
    have hne:(B7 "list" == B7 "dict")=false:=by decide
    have hl1:(s.heap.push (aW #[] 0 (.fresh 0 0 led))).IsList l items:=⟨_,hol',rfl,nl,rfl⟩
    unfold Builtin.«set.__init__» noKeywords Builtin.Frozenset.updateFrom
    generalize hPI:pyIter=PI
    wp_walk
    subst hPI
    refine DT hl1 ?_
    refine Af (EM ?_)
    have hlS:l<s.heap.objs.size:=Ar hol
    have hh3:A.in1.in1.in1.handled=none:=by simp[hh]
    have hneI:l≠(s.heap.push (aW #[] 0 (.fresh 0 0 led))).objs.size:=by
     rw[gd];exact AI (BP hlS)
    have hSf:s.heap.objs.size∉[(s.heap.push (aW #[] 0 (.fresh 0 0 led))).objs.size,l]:=by
     rw[gd];simp only[AH,AB,B9,or_false,not_or]
     exact ⟨AI (CI _),CZ hlS⟩
    refine nY (kd:=kd) ((Walks.list hh3 _ l hneI items).toS) hrm (λi s' st =>?hI) s.heap.objs.size hSf AU ks hz hb (items.size-0) 0 _ #[] (by omega) (A5 _)
     ⟨⟨_,Av _ rfl,rfl,rfl⟩,(hl1.push _)⟩ ?hv (by subst hled;exact jQ (Ad _ hS)) (Good.nil _) ?hR
    case hI =>
     obtain ⟨o,ho,hc,_⟩:=st.1
     exact ⟨o,ho,by rw[hc];decide⟩
    case hv =>
     intro j v hv
     obtain ⟨q,e,x⟩:=hi j v hv
     exact ⟨q,e,kd.keeps x λb o _ e=>Ad _ (Ad _ e)⟩
    case hR =>
     intro s' es' hm hS' hG'
     obtain ⟨h',g',d',tk',os'⟩:=s'
     have eg:g'=s.gens:=hm.gens
     have ed:d'=s.drawn:=hm.drawn
     have eo:os'=s.os:=hm.os
     subst eg;subst ed;subst eo
     show AL _ _ _ _ _ _
     refine An ?_
     show AL _ _ (ret BR) _ _ _
     refine An ⟨rfl,h',es',tk',rfl,hm.toks,hS',hG',λb o e =>?_⟩
     have hbb:=Ar e
     have hb1:b≠s.heap.objs.size:=AI hbb
     have hb2:b≠(s.heap.push (aW #[] 0 (.fresh 0 0 led))).objs.size:=by
      rw[gd];exact AI (BP hbb)
     exact hm.heap b o (by simp only[AH,AB,B9,or_false,not_or];exact ⟨hb1,hb2⟩) (Ad _ (Ad _ e))
   ·cases r₂ with
    | error e=>exact hr₂
    | ok fl₂ =>
     cases fl₂ with
     | ret r =>
      obtain ⟨rfl,h',es,tk,rfl,htk,hS',hG',hk'⟩:=hr₂
      repeat (any_goals (first | assumption | wp_step))
      exact h _ _ _ htk hS' hG' hk'
     | _=>exact hr₂.elim
  | _=>exact hr.elim
end
open PySem PySem.SetTable PyProof.Rows
namespace F9
theorem eY:Slot "set_iterator" "__next__" "set_iterator.__next__" :=
 .of (owner := "set_iterator") (n := "__next__") (by rw[typeLookup_type,FO];kernel_rfl) (by decide +kernel) (by decide +kernel) (by decide +kernel)
  (by first | exact .inl (by decide +kernel) | exact .inr (by decide +kernel)) (by rw[DY];kernel_rfl)
theorem kD:entryFor table "set_iterator.__next__" = some Builtin.«set_iterator.__next__» := entryFor_of_tree (by kernel_rfl)
theorem mL (a:Ae):argsOk "set_iterator.__next__" ⟨[a],[]⟩:=by
 unfold argsOk;kernel_rfl
theorem jS:entryFor table "set.__iter__" = some Builtin.«frozenset.__iter__» :=
 entryFor_alias (id' := "frozenset.__iter__") (by kernel_rfl) rfl (by decide +kernel) (by kernel_rfl)
end F9
theorem jT {α:Type}:∀(l:List α) (i:Nat) (x:α),l[i]? = some x->(x :: l.eraseIdx i).Perm l
 | [],i,x,h=>by simp at h
 | y :: l,0,x,h=>by simp at h;subst h;exact CS _
 | y :: l,i+1,x,h=>by
  rw[C4] at h
  rw[E8]
  exact (List.Perm.swap y x _).trans (List.Perm.cons y (jT l i x h))
theorem qY {α:Type}(next:Nat->Nat):∀(fuel k:Nat) (left:List α) (out:Array α),left.length=fuel->(pickOrder.go next fuel k left out).toList.Perm (out.toList++left)
 | 0,k,left,out,h=>by
  have:left=[]:=E9.mp h
  subst this
  unfold pickOrder.go
  rw[AZ]
 | fuel+1,k,left,out,h=>by
  unfold pickOrder.go
  have hl:next k%left.length<left.length:=Cu _ (by omega)
  have e:=Aw hl
  rw[e]
  dsimp only
  have ih:=qY next fuel (k+1) (left.eraseIdx (next k%left.length)) (out.push left[next k%left.length]) (by rw[List.length_eraseIdx,if_pos hl];omega)
  refine ih.trans ?_
  rw[BX,A9]
  exact BZ _ (jT _ _ _ e)
theorem sW {α:Type}(next:Nat->Nat)(xs:Array α):(pickOrder next xs).toList.Perm xs.toList:=by
 unfold pickOrder
 have:=qY next xs.size 0 xs.toList #[] (by simp)
 simpa using this
section
variable  {prog:Au}{w:AX}{A:A7}{E:Ae->Ag->Prop}{s:Ag}
def walkVals (w:AX)(a:Addr)(es:Array (Int×Ae))(ep:Nat):List Ae :=
 if w.params.followText "set-order" = true then (pickOrder (w.params.setOrder a ep) es).toList.map (·.2) else es.toList.map (·.2)
theorem lK (w:AX)(a:Addr)(es:Array (Int×Ae))(ep:Nat):(walkVals w a es ep).Perm (es.toList.map (·.2)):=by
 unfold walkVals
 split
 ·exact (sW _ _).map _
 ·exact CS _
theorem iO {Q:Bool->Ag->Prop}(h:Q (w.params.followText "set-order") s):AL (AQ prog w) A setsByText Q E s:=by
 unfold setsByText
 exact Af (Fo (An h))
theorem pZ {a:Addr}{es:Array (Int×Ae)}{ep:Nat}{t:SetTable}{Q:Option (Ae×Nat)->Ag->Prop}(ho:s.heap.get? a=some (aW es ep t))(T:Tab t (es.map (·.1)))(hl:t.led = !w.params.followText "set-order")(hp:t.plain=true){slot i:Nat}
  (hs:w.params.followText "set-order" = false->below t.place slot=i)
  (hy:∀x slot',(walkVals w a es ep)[i]? = some x->(w.params.followText "set-order" = false->below t.place slot'=i+1)->Q (some (x,slot')) s)
  (hn:(walkVals w a es ep)[i]? = none->Q none s):AL (AQ prog w) A (setNext a slot i ep) Q E s:=by
 unfold setNext
 refine Af (bL ho T ?_)
 dsimp only
 refine Af (iO ?_)
 cases hb:w.params.followText "set-order" with
 | true =>
  rw[hb] at hs hy
  simp only[bne_self_eq_false,AE,if_true,if_false]
  refine Af ?_
  unfold setWalk
  refine Af (bL ho T ?_)
  dsimp only
  refine Af (iO ?_)
  rw[hb]
  simp only[if_true]
  refine Af (Fo (An ?_))
  refine An ?_
  have ew:(walkVals w a es ep)[i]? = ((pickOrder (w.params.setOrder a ep) es)[i]?).map (·.2):=by
   unfold walkVals
   rw[if_pos hb,AO,Aq]
  show Q (((pickOrder (w.params.setOrder a ep) es)[i]?).map λe=>(e.2,slot)) s
  cases hx:(pickOrder (w.params.setOrder a ep) es)[i]? with
  | none=>rw[hx] at ew;exact hn ew
  | some e=>rw[hx] at ew;exact hy _ _ ew (λq=>by cases q)
 | false =>
  have hs':=hs hb
  simp only[AE,if_false]
  have ew:(walkVals w a es ep)[i]? = (es[i]?).map (·.2):=by
   unfold walkVals
   rw[if_neg (by rw[hb];exact Ao),AO,Aq]
  show AL _ _ (if (!t.plain && decide (es.size>1))=true then _ else _) _ _ _
  rw[hp]
  simp only[BQ,DW,AE,if_false]
  refine Af ?_
  show AL _ _ (if (!t.led && !es.isEmpty)=true then _ else _) _ _ _
  rw[hl,hb]
  simp only[FV,BQ,DW,AE,if_false]
  refine An ?_
  rw[hs']
  by_cases hi:i<es.size
  ·have ee:es[i]? = some es[i]:=AN hi
   have hpl:i<t.place.size:=by rw[T.size,BO];exact hi
   have ep':t.place[i]? = some t.place[i]:=AN hpl
   rw[ee,ep']
   rw[ee] at ew
   exact An (hy _ _ ew λ_=>pP T.rise ep')
  ·have ee:es[i]? = none:=CG (by omega)
   rw[ee]
   rw[ee] at ew
   exact An (hn ew)
def iP (h:Heap)(it a:Addr)(slot i n ep:Nat):Prop:=h.get? it=some { cls :=.type "set_iterator",data :=.fields #[.int slot 0,.int i 0,.ref a,.int n 0,.int ep 0] }
theorem iP.typeIs {it a:Addr}{slot i n ep:Nat}(x:iP s.heap it a slot i n ep):s.TypeIs (.ref it) "set_iterator" :=⟨_,x,rfl⟩
end
open PySem PySem.SetTable PyProof.Rows
section
variable  {prog:Au}{w:AX}{A:A7}{E:Ae->Ag->Prop}{s:Ag}
structure qa (w:AX)(h:Heap)(it a:Addr)(es:Array (Int×Ae))(ep i:Nat):Prop where
 st:∃t slot,h.get? a=some (aW es ep t)/\Tab t (es.map (·.1))/\t.led=(!w.params.followText "set-order")/\t.plain=true/\(w.params.followText "set-order" = false->below t.place slot=i)/\iP h it a slot i es.size ep
theorem qZ {it a:Addr}{es:Array (Int×Ae)}{ep i:Nat}{Q:Option Ae->Ag->Prop}(hh:A.handled=none)(hne:it≠a)(O:qa w s.heap it a es ep i)
  (hy:∀x h',(walkVals w a es ep)[i]? = some x->qa w h' it a es ep (i+1)->Heap.SameBut it s.heap h'->Q (some x) { s with heap:=h' })
  (hn:(walkVals w a es ep)[i]? = none->∀h',Heap.ExtBut it s.heap h'->Q none { s with heap:=h' }) :
  AL (AQ prog w) A (pyNext (.ref it)) Q E s:=by
 obtain ⟨t,slot,ho,T,hl,hp,hs,hit⟩:=O.st
 have hf:t.fits es.size=true:=by have:=T.fits;rwa [BO] at this
 unfold pyNext
 refine Af (Eh (B5 (name:=Str.ofString "__next__") hit.typeIs F9.eY
  (BC F9.eY hit.typeIs F9.kD ?_ (F9.mL _))))
 show AL _ _ (fieldsOf (.ref it) >>= _) _ _ s
 refine Af (wpAny_fieldsOf hit rfl ?_)
 show AL _ _ (setEntries a >>= _) _ _ s
 refine Af (F8 ho rfl hf ?_)
 rw[if_neg (by simp)]
 show AL _ _ (setNext a ((slot:Int).toNat) ((i:Int).toNat) ((ep:Int).toNat) >>= _) _ _ s
 rw[Bb,Bb,Bb]
 refine Af (pZ ho T hl hp hs (λx slot' ex hs' =>?_) λex =>?_)
 ·dsimp only
  refine Af (ED hit (by simp) λh1 e1 sb1 =>?_)
  refine Af (ED e1 (by simp) λh2 e2 sb2 =>?_)
  refine An ⟨x,rfl,An (hy x h2 ex ⟨t,slot',?_,T,hl,hp,hs',?_⟩ (sb1.trans sb2))⟩
  ·rw[(sb1.trans sb2).2 a (Ca hne)];exact ho
  ·unfold iP
   rw[e2]
   simp[EE]
 ·dsimp only
  refine Af (ED hit (by simp) λh1 e1 sb1 =>?_)
  show AL _ _ (newExc (.type "StopIteration") [] >>= _) _ _ _
  refine Af ?_
  simp only[newExc,newTuple]
  refine Af (Cv ?_ (by size_fits))
  refine Af (m:=firstArgMember _ _) (Hy (a:=BR) (by first | rfl | (simp only[firstArgMember];rfl)) ?_)
  refine Cv ?_ (by size_fits)
  simp only[raiseNew]
  refine Af (wpAny_handled ?_)
  first | rw[show A.in1.handled=none from hh] | rw[hh]
  refine Af (An (wpAny_throw ?_))
  refine Af (D8 (T := "StopIteration") (b:=true) ⟨_,Av _ rfl,rfl⟩ FY ?_)
  exact An (hn ex _ ((sb1.extBut.push _).push _))
theorem nZ {it a S:Addr}{es:Array (Int×Ae)}{ep:Nat}{res:Ae}{R:Result->Ag->Prop}(hh:A.in1.handled=none)(hne:it≠a)(hSI:S≠it)(hSa:S≠a)(hz:es.size<1000) :
  ∀(k i:Nat) (h:Heap) (acc:Array Ae) (c:Nat),es.size-i=k->i<=es.size->qa w h it a es ep i->h.get? S=some { cls :=.type "list",dict:=none,data :=.seq acc c,slots := #[] }->acc.toList=(walkVals w a es ep).take i →
  (∀h' acc' c',(∀b o,b≠S->b≠it->h.get? b=some o->h'.get? b=some o)->h'.get? S=some { cls :=.type "list",dict:=none,data :=.seq acc' c',slots := #[] }->acc'.toList=walkVals w a es ep->R (.ok (.ret res)) { s with heap:=h' }) →
  EN (AQ prog w) A (.builtin "list.extend.loop" ⟨[.ref S,.ref it,res],[]⟩) R { s with heap:=h }:=by
 have lw:(walkVals w a es ep).length=es.size:=by rw[(lK w a es ep).length_eq,Ac,Ak]
 have zl:1000<=Ai:=by rw[Fd];omega
 intro k
 induction k with
 | zero =>
  intro i h acc c hk hi O hS ha hR
  have hin:i=es.size:=by omega
  subst hin
  refine Bv F3 ?_
  rw[BJ DB _]
  show AL _ A.in1 (pyNext (.ref it) >>= _) _ _ { s with heap:=h }
  refine Af (qZ hh hne O (λx h' ex =>?_) λex h' xb =>?_)
  ·rw[D2 (by omega)] at ex;cases ex
  ·refine An (hR h' acc c (λb o _ hb e=>xb b o hb e) (xb S _ hSI hS) ?_)
   rw[ha,AA (by omega)]
 | succ k ih =>
  intro i h acc c hk hi O hS ha hR
  have hlt:i<es.size:=by omega
  refine Bv F3 ?_
  rw[BJ DB _]
  show AL _ A.in1 (pyNext (.ref it) >>= _) _ _ { s with heap:=h }
  refine Af (qZ hh hne O (λx h' ex O' sb =>?_) λex =>?_)
  ·have hS':h'.get? S=some { cls :=.type "list",dict:=none,data :=.seq acc c,slots := #[] }:=by rw[sb.2 S hSI];exact hS
   have hal:acc.size=i:=by rw[<- Ak,ha,Bg];omega
   show AL _ A.in1 (updateSeq S (·.push x) >>= _) _ _ _
   refine Af ?_
   refine FP (s:={ s with heap:=h' }) hS' rfl (An ⟨Ds DB _,ih (i+1) _ (acc.push x) _ (by omega) hlt ?_ (Bj _ hS' rfl) ?_ λh'' acc' c' kk hS'' ha' =>?_⟩)
    (by rw[hal];omega) (by show (acc.push x).size<=Ai+1;rw[CB,hal];omega)
   ·obtain ⟨t,slot,ho,T,hl,hp,hs,hit⟩:=O'.st
    exact ⟨t,slot,(Bl _ _ hSa).trans ho,T,hl,hp,hs,(Bl _ _ hSI).trans hit⟩
   ·rw[BX,ha,HI,ex];rfl
   ·refine hR h'' acc' c' (λb o hb hb2 e=>kk b o hb hb2 ?_) hS'' ha'
    refine (Bl _ _ (Ca hb)).trans ?_
    rw[sb.2 b hb2];exact e
  ·rw[Aw (by omega)] at ex;cases ex
theorem n5 {a:Addr}{es:Array (Int×Ae)}{R:List Ae->Ag->Prop}(hh:A.handled=none)(I:dP w s.heap a es)(hz:es.size<1000)
  (h:∀h1 vs,vs.Perm (es.toList.map (·.2))->(∀b o,s.heap.get? b=some o->h1.get? b=some o)->s.heap.objs.size<=h1.objs.size->R vs { s with heap:=h1 }) :
  AL (AQ prog w) A (collect (.ref a)) R E s:=by
 obtain ⟨ep,t,ho,T,rm,hl,hp⟩:=I
 have hf:t.fits es.size=true:=by have:=T.fits;rwa [BO] at this
 have hlt:=Ar ho
 unfold collect
 refine Af (EM (Bv F.entry_proto_collect ?_))
 rw[BJ F.plain_proto_collect _]
 show AL _ A.in1 (newList [] >>= λl=>again (.builtin "list.__iadd__" ⟨[l,.ref a],[]⟩)) _ _ s
 refine Af (Cv ?_)
 refine An ⟨Ds GR _,Bv F.entry_list_iadd ?_⟩
 rw[BJ GR _]
 show AL _ A.in1 (CD (.ref s.heap.objs.size) (.ref a) (.ref s.heap.objs.size)) _ _ _
 unfold CD
 have hSa:s.heap.objs.size≠a:=CZ hlt
 have z1:(s.heap.push { cls :=.type "list",data :=.seq ([]:List Ae).toArray }).objs.size=s.heap.objs.size+1:=CP _ _
 have ho1:(s.heap.push { cls :=.type "list",data :=.seq ([]:List Ae).toArray }).get? a=some (aW es ep t):=Ad _ ho
 have hT1:Shared.TypeIs { s with heap:=s.heap.push { cls :=.type "list",data :=.seq ([]:List Ae).toArray } } (.ref a) "set" :=⟨_,ho1,rfl⟩
 refine Af (EC hT1 ?_)
 have h1:E6 (.ref s.heap.objs.size) (.ref a)=false:=by simp[E6,hSa]
 have h2:(B7 "set" == B7 "list")=false:=by decide
 have h3:(B7 "set" == B7 "tuple")=false:=by decide
 simp only[h1,h2,h3,Ib,AE,if_false]
 refine Af (DU hT1 Hu (BC Hu hT1 F9.jS ?_ (F.args_set_iter_1 _)))
 unfold Builtin.«frozenset.__iter__» Builtin.Frozenset.slot0 slotArgs
 simp only[List.isEmpty_nil,BQ,AE, ↓reduceIte,bind_assoc,Dj,bne_self_eq_false]
 unfold Builtin.Frozenset.addrOf Builtin.Frozenset.sizeOf
 refine Af (An ?_)
 try dsimp only
 refine Af (An ?_)
 refine Af (Af (F8 ho1 rfl hf (An ?_)))
 refine Af ?_
 unfold setDrawn
 refine Af (bL ho1 T ?_)
 dsimp only
 refine Af (iO ?_)
 show AL _ _ (pure (!w.params.followText "set-order" && (!t.plain && decide (es.size>1)))) _ _ _
 rw[hp]
 simp only[BQ,DW,EJ]
 refine An ?_
 simp only[AE,if_false]
 refine Af (An ?_)
 refine Af (wpAny_setEpoch_of ho1 rfl hf ?_)
 refine Af (Cv (An ⟨_,rfl, "set_iterator",_,⟨_,Av _ rfl,rfl⟩,F9.eY.lookup,?_⟩))
 have zit:(s.heap.push { cls :=.type "list",data :=.seq ([]:List Ae).toArray }).objs.size=s.heap.objs.size+1:=z1
 show AL _ A.in1 (Gm [.ref (s.heap.push { cls :=.type "list",data :=.seq ([]:List Ae).toArray }).objs.size] (Ep (.ref a)) >>= _) _ _ { s with heap:=(s.heap.push { cls :=.type "list",data :=.seq ([]:List Ae).toArray }).push { cls :=.type "set_iterator",data :=.fields #[EE 0,EE 0,.ref a,EE es.size,EE ep] } }
 rw[zit]
 generalize hH:(s.heap.push { cls :=.type "list",data :=.seq ([]:List Ae).toArray }).push { cls :=.type "set_iterator",data :=.fields #[EE 0,EE 0,.ref a,EE es.size,EE ep] }=H
 have kH:∀b o,(s.heap.push { cls :=.type "list",data :=.seq ([]:List Ae).toArray }).get? b=some o->H.get? b=some o:=λb o e=>by rw[<- hH];exact Ad _ e
 have zH:H.objs.size=s.heap.objs.size+2:=by rw[<- hH,CP,z1]
 have hit:iP H (s.heap.objs.size+1) a 0 0 es.size ep:=by
  unfold iP
  rw[<- hH, <- z1]
  exact Av _ rfl
 have hT2:Shared.TypeIs { s with heap:=H } (.ref a) "set" :=⟨_,kH _ _ ho1,rfl⟩
 refine Af (B4 ?_)
 unfold Ep
 refine Af (wpAny_specialOf hT2 F.slot_set_len.lookup ?_)
 dsimp only
 rw[show splitId "set.__len__" = some ("set", "__len__") by kernel_rfl]
 dsimp only
 refine Af (D8 hT2 sub_set_self ?_)
 simp only[BQ,AE,if_false]
 show AL _ _ (typeOf (.ref a) >>= _) _ _ _
 refine Af (EC hT2 ?_)
 refine An ?_
 show AL _ A.in1 (rule "list.extend.makes-room" >>= λ_=>Builtin.List.listTouch (.ref s.heap.objs.size) >>= λ_ =>
  again (.builtin "list.extend.loop" ⟨[.ref s.heap.objs.size,.ref (s.heap.objs.size+1),.ref s.heap.objs.size],[]⟩)) _ _ _
 refine Af (DV ?_)
 have hS₁:H.get? s.heap.objs.size=some { cls :=.type "list",data :=.seq ([]:List Ae).toArray }:=kH _ _ (Av _ rfl)
 refine Af ?_
 show AL _ A.in1 (updateSeq s.heap.objs.size (·.push .none) >>= λ_=>updateSeq s.heap.objs.size (·.pop)) _ _ _
 refine Af (FP (s:={ s with heap:=H }) hS₁ rfl ?_)
 have hS₂:=Bj (Ce (·.push BR)) hS₁ rfl
 refine FP hS₂ rfl ?_
 have hS₃:=Bj (Ce (·.pop)) hS₂ rfl
 have oth:∀b o,b≠s.heap.objs.size->H.get? b=some o->((H.update s.heap.objs.size (Ce (·.push BR))).update s.heap.objs.size (Ce (·.pop))).get? b=some o :=
  λb o hb e=>(Bl _ _ (Ca hb)).trans ((Bl _ _ (Ca hb)).trans e)
 refine An ⟨Ds DB _,nZ (it:=s.heap.objs.size+1) (a:=a) (es:=es) (ep:=ep) (s:=s) hh (CZ (BP hlt)) (AI (CI _)) hSa hz es.size 0 _ _ _ rfl (A5 _)
  ⟨t,0,oth a _ (Ca hSa) (kH _ _ ho1),T,hl,hp,λ_=>pQ T.rise,oth _ _ (CZ (CI _)) hit⟩ hS₃ rfl λh' acc' c' kk hS' ha =>?_⟩
 show AL _ A (load s.heap.objs.size >>= _) _ _ { s with heap:=h' }
 refine Af (H9 hS' ?_)
 have kf:∀b o,s.heap.get? b=some o->h'.get? b=some o:=λb o e=>by
  have:=Ar e
  exact kk b o (AI this) (AI (BP this)) (oth b o (AI this) (kH b o (Ad _ e)))
 refine An ?_
 rw[ha]
 exact h h' _ (lK w a es ep) kf (D1 (Ar hS'))
end
open PySem PySem.SetTable PyProof.Rows Srt
def Kd.sub {prog:Au}{w:AX}{κ:Type}(kd:Kd prog w κ)(M:Ae->Prop):Kd prog w κ where
 El:=λh v k=>kd.El h v k/\M v
 hash:=kd.hash
 room:=kd.room
 keeps:=λx t=>⟨kd.keeps x.1 t,x.2⟩
 inj:=λx y=>kd.inj x.1 y.1
 add:=by
  intro A E s a es v k Q hr I els hv hz hin hnew
  refine kd.add hr I (λe he =>?_) hv.1 hz (λx tk htk=>hin ?_ tk htk) λx h' es' tk htk sb I' pm=>hnew ?_ h' es' tk htk sb I' pm
  ·obtain ⟨k',a1,a2,a3⟩:=els e he;exact ⟨k',a1,a2⟩
  ·obtain ⟨e,he,y⟩:=x
   obtain ⟨k',a1,a2,a3⟩:=els e he
   exact ⟨e,he,y,a3⟩
  ·rintro ⟨e,he,y,_⟩;exact x ⟨e,he,y⟩
section
variable  {prog:Au}{w:AX}{A:A7}{E:Ae->Ag->Prop}{s:Ag}{O:Ee}{key:Ae->O.α}
theorem qb {a:Addr}{es:Array (Int×Ae)}{Q:Ae->Ag->Prop}(hh:A.handled=none)(I:dP w s.heap a es)(hz:es.size<1000)(C:∀vs:List Ae,vs.Perm (es.toList.map (·.2))->mE prog w s vs O key)
  (h:∀(h':Heap) (p:Addr) (out:List Ae) (n:Nat),(∀b o,s.heap.get? b=some o->h'.get? b=some o)->s.heap.objs.size<=p->h'.get? p=some (seqObj "list" out.toArray n)->out.Perm (es.toList.map (·.2))->out.Pairwise (λx y=>O.kle (key x) (key y))->Q (.ref p) { s with heap:=h' }) :
  AL (AQ prog w) A (call (.builtin "sorted") [.ref a]) Q E s:=by
 refine EI kind_sorted plain_sorted entry_sorted (args_sorted1 _) ?_
 unfold Builtin.«sorted»
 refine Af (m:=checkCount "sorted" 1 1 _) (An ?_)
 refine Af (n5 (by simpa using hh) I hz λh1 vs pv k1 z1 =>?_)
 have hz':vs.length<=Ai:=by
  rw[pv.length_eq,Ac,Ak]
  have:1000<=Ai:=by rw[Fd];omega
  omega
 refine Af (Fh ?_ hz')
 have hoL:(h1.push (seqObj "list" vs.toArray 0)).get? h1.objs.size=some (seqObj "list" vs.toArray 0):=Av _ rfl
 have kL:∀b o,s.heap.get? b=some o->(h1.push (seqObj "list" vs.toArray 0)).get? b=some o:=λb o e=>Ad _ (k1 b o e)
 refine Af (B4 (BC slot_list_sort ⟨_,hoL,rfl⟩ entry_list_sort (gv (key:=key) (O:=O) hoL hz' (λh2 h6 k6 =>?_) λout pm ps=>⟨_,rfl,?_⟩) (args_list_sort _)))
 ·exact (C vs pv).ok h2 _ h6 λb o e=>k6 b o (AI (Ay (Ar e) z1)) (kL b o e)
 ·obtain ⟨n,en⟩:=sortedHeap_at (out:=out.toArray) hoL
  refine An ⟨_,rfl,h _ _ out n (λb o e =>?_) z1 en (pm.trans pv) ps⟩
  have lt:=Ay (Ar e) z1
  rw[sortedHeap_old (AI lt) (by rw[Ia];exact BP lt)]
  exact kL b o e
end
end STab
namespace L2
open PySem PySem.Spec PyProof.Rows
section
variable  {X:Cx}
def fE (w:AX)(a:Addr)(ys:List V):HO :=.ext λh=>∃es,STab.dP w h a es/\Vals ys (es.toList.map (·.2))
theorem wK {prog:Au}{w:AX}{H:Hp}{h:Heap}{a:Addr}{ys:List V}{es:Array (Int×Ae)}(I:STab.dP w h a es)(r:Vals ys (es.toList.map (·.2))):bj prog w (upd H a (fE w a ys)) h a (fE w a ys):=by
 refine ⟨⟨es,I,r⟩,?_,λh1 h2 ⟨es',I',r'⟩ k=>⟨es',I'.at k,r'⟩⟩
 obtain ⟨ep,t,ho,_⟩:=I
 exact ⟨_,ho⟩
theorem n6:∀{ns:List Int} {xs:List Ae} {prog:Au} {w:AX},Ea xs ns->ItemsAre (intKind prog w) ns xs
 | _,_,_,_,.nil =>.nil
 | _,_,_,_,.cons n t r =>.cons (intKind_is _ _ _ _) (n6 r)
theorem Inv.tk {pins:List (Addr×Obj)}{σ:St}{H:Hp}{s:Ag}(I:Inv X pins σ H s){b:Addr}{ns:List Int}(h:SqT X.K H b (ns.map V.int)):STab.TK X.prog X.w s.heap ns b:=by
 obtain ⟨its,r,⟨o,e,c,n,d⟩,_⟩:=I.tuple h
 exact ⟨o,_,n,e,c,d,n6 (by simpa using eX r)⟩
theorem pull {α β:Type}{f:α -> β}{ts:List α}:∀{l:List β},(∀v∈l,∃t∈ts,v=f t)->∃us:List α,l=us.map f/\∀t∈us,t∈ts
 | [],_=>⟨[],rfl,λt h=>by cases h⟩
 | v :: l,h=>by
  obtain ⟨t,ht,e⟩:=h v AU
  obtain ⟨us,e2,m⟩:=pull (l:=l) λv' hv=>h v' (AM _ hv)
  refine ⟨t :: us,by rw[AV, <- e, <- e2],λt' ht' =>?_⟩
  rcases AH.mp ht' with rfl | h'
  ·exact ht
  ·exact m _ h'
theorem tf (hh:X.A.handled=none)(hu:X.A.units+64<cLine):b8 X (.type "set") (λxs H Q=>∃(p:Addr) (ts:List (Addr×List Int)),xs=[.ref p]/\(SqL X.K H p (ts.map λt =>.ref t.1)\/SqT X.K H p (ts.map λt =>.ref t.1))/\(∀t∈ts,SqT X.K H t.1 (t.2.map V.int))/\ts.length<1000 ∧
  ∀(a:Addr) (us:List (Addr×List Int)),H a=none->(∀t∈us,t∈ts)->(us.map (·.2)).Nodup->(∀t∈ts,t.2∈us.map (·.2))->us.length<=ts.length->Q (.ref a) (upd H a (fE X.w a (us.map λt =>.ref t.1)))):=by
 intro pins s σ H xs vs Q I r h
 obtain ⟨p,ts,rfl,hs,ht,hl,q⟩:=h
 obtain ⟨u,rfl,ru⟩:=vals1 r
 cases (show u=As p from ru)
 have goal:∀(items:Array Ae),items.toList=(ts.map λt=>As t.1)->∀(h':Heap) (es:Array (Int×Ae)) (tk:Nat),s.toks<=tk->STab.dP X.w h' s.heap.objs.size es->STab.Good ((STab.i8 X.prog X.w).sub (· ∈ items.toList)) h' es (ts.map (·.2)) →
   (∀b o,s.heap.get? b=some o->h'.get? b=some o)->EP X pins σ Q (.ref s.heap.objs.size) { s with heap:=h',toks:=tk }:=by
  intro items ei h' es tk _ S G k
  obtain ⟨us,eu,mu⟩:=pull (f:=λt:Addr×List Int=>As t.1) (ts:=ts) (l:=es.toList.map (·.2)) (λv hv=>by
   obtain ⟨e,he,rfl⟩:=AG.mp hv
   obtain ⟨_,_,_,_,m⟩:=G.el e (BH.mp he)
   rw[ei] at m
   obtain ⟨t,ht',e'⟩:=AG.mp m
   exact ⟨t,ht',e'.symm⟩)
  have tk':∀t∈us,STab.TK X.prog X.w h' t.2 t.1:=λt m=>(I.tk (ht t (mu t m))).keep λb o _ e=>k b o e
  have elu:∀t∈us,((STab.i8 X.prog X.w).sub (· ∈ items.toList)).El h' (.ref t.1) t.2:=λt m=>⟨⟨t.1,rfl,tk' t m⟩,by
   rw[ei];exact AG.mpr ⟨t,mu t m,rfl⟩⟩
  have nd:(us.map (·.2)).Nodup:=by
   have d:=G.dis
   have d2:(es.toList.map (·.2)).Pairwise (λv v'=>∀k,((STab.i8 X.prog X.w).sub (· ∈ items.toList)).El h' v k->¬ ((STab.i8 X.prog X.w).sub (· ∈ items.toList)).El h' v' k):=by
    rw[Bm];exact d
   rw[eu,Bm] at d2
   unfold List.Nodup
   rw[Bm]
   refine d2.imp_of_mem λ{t t'} m m' x e=>x t.2 (elu t m) ?_
   have:=elu t' m'
   rw[<- e] at this
   exact this
  have cov:∀t∈ts,t.2∈us.map (·.2):=λt m=>by
   obtain ⟨e,he,x,_⟩:=G.all t.2 (AG.mpr ⟨t,m,rfl⟩)
   have:e.2∈us.map λt=>As t.1:=by rw[<- eu];exact AG.mpr ⟨e,BH.mpr he,rfl⟩
   obtain ⟨u,hu',e'⟩:=AG.mp this
   obtain ⟨b,eb,x⟩:=x
   rw[<- e'] at eb
   injection eb with eb
   subst eb
   exact AG.mpr ⟨u,hu',(tk' u hu').inj x⟩
  have hlen:us.length<=ts.length:=by
   have:=G.len
   rw[Ac] at this
   have e2:=congrArg List.length eu
   rw[Ac,Ac,Ak] at e2
   omega
  refine ⟨.ref s.heap.objs.size,_,I.laid k (Ah _) (wK (ys:=us.map λt=>V.ref t.1) S (by rw[eu];exact d9)),rfl,q _ us (I.hok.fresh (Ah _)) mu nd cov hlen⟩
 have rm:((STab.i8 X.prog X.w).sub (λv=>True)).room X.A.in1.in1.in1:=by show X.A.units+1+1+1<cLine;omega
 have itm:∀(its:List Ae),its=(ts.map λt=>As t.1)->∀(i:Nat) (v:Ae),its.toArray[i]? = some v->∃q,(ts.map (·.2))[i]? = some q/\((STab.i8 X.prog X.w).sub (· ∈ its.toArray.toList)).El s.heap v q:=by
  intro its ei i v hv
  rw[Bk,ei,AO] at hv
  cases ht':ts[i]? with
  | none=>rw[ht'] at hv;cases hv
  | some t =>
   rw[ht'] at hv
   cases hv
   have m:=AJ ht'
   refine ⟨t.2,by rw[AO,ht'];rfl,⟨t.1,rfl,I.tk (ht t m)⟩,?_⟩
   show As t.1∈its
   rw[ei]
   exact AG.mpr ⟨t,m,rfl⟩
 rcases hs with hs | hs
 ·obtain ⟨its,rv,⟨o,n,e,c,dn,d⟩,z⟩:=I.list hs
  have ei:=d8 rv
  have lz:its.length=ts.length:=by rw[ei,Ac]
  refine STab.call_set_list (kd:=(STab.i8 X.prog X.w).sub (· ∈ its.toArray.toList)) (items:=its.toArray) (ks:=ts.map (·.2)) hh rm ⟨o,e,c,n,d⟩ (by simp[lz]) (λi v hv =>?_) (by simpa [lz] using hl) (goal its.toArray (by simpa using ei))
  exact itm its ei i v hv
 ·obtain ⟨its,rv,⟨o,e,c,n,d⟩,z⟩:=I.tuple hs
  have ei:=d8 rv
  have lz:its.length=ts.length:=by rw[ei,Ac]
  refine STab.jR (kd:=(STab.i8 X.prog X.w).sub (· ∈ its.toArray.toList)) (items:=its.toArray) (ks:=ts.map (·.2)) hh rm ⟨o,e,c,n,d⟩ (by simp[lz]) (λi v hv =>?_) (by simpa [lz] using hl) (goal its.toArray (by simpa using ei))
  exact itm its ei i v hv
theorem Inv.fE {pins:List (Addr×Obj)}{σ:St}{H:Hp}{s:Ag}(I:Inv X pins σ H s){a:Addr}{ys:List V}(h:H a=some (fE X.w a ys)):∃es,STab.dP X.w s.heap a es/\Vals ys (es.toList.map (·.2)):=by
 exact (I.hok a _ h).1
theorem kE (hh:X.A.handled=none):b8 X (.builtin "sorted") (λxs H Q=>∃(a:Addr) (ts:List (Addr×List Int)),xs=[.ref a]/\H a=some (fE X.w a (ts.map λt =>.ref t.1))/\(∀t∈ts,SqT X.K H t.1 (t.2.map V.int)/\t.2≠[])/\ts.length<1000 ∧
  ∀(l:Addr) (out:List (Addr×List Int)),H l=none->out.Perm ts->out.Pairwise (λa b=>HT.lexLt b.2 a.2=false)->Q (.ref l) (upd H l (.lst (out.map λt =>.ref t.1)))):=by
 intro pins s σ H xs us Q I r h
 obtain ⟨a,ts,rfl,hs,ht,hl,q⟩:=h
 obtain ⟨u,rfl,ru⟩:=vals1 r
 cases (show u=As a from ru)
 obtain ⟨es,S,rv⟩:=I.fE hs
 have ei:=d8 rv
 have lz:es.size=ts.length:=by have:=rv.length;simp at this;omega
 have tup:∀t∈ts,Srt.dk s.heap (As t.1) t.2:=λt hm=>by
  obtain ⟨jts,jr,⟨jo,je,jc,jn,jd⟩,_⟩:=I.tuple (ht t hm).1
  exact ⟨t.1,jo,_,jn,rfl,je,jc,jd,by simpa using eX jr⟩
 have hv:∀v∈es.toList.map (·.2),∃ns,Srt.dk s.heap v ns/\ns≠[]:=λv hv=>by
  rw[ei] at hv
  obtain ⟨t,hm,rfl⟩:=AG.mp hv
  exact ⟨t.2,tup t hm,(ht t hm).2⟩
 refine STab.qb (O:=Srt.lexOrd) (key:=Srt.cG s.heap) hh S (by omega) (λvs pv=>Srt.ic λv hm=>hv v (pv.mem_iff.mp hm)) λh' l out m k hl' el pm ps =>?_
 rw[ei] at pm
 obtain ⟨out',pm',rfl⟩:=jN pm
 have z:ts.length<=Ai:=by have:1000<=Ai:=(by rw[Fd];omega);omega
 refine ⟨.ref l,_,I.newList k hl' el d9 (by rw[Ac,pm'.length_eq];exact z),rfl,q l _ (I.hok.fresh hl') pm' ?_⟩
 refine (Bm.mp ps).imp_of_mem λ{a b} ha hb le =>?_
 have le':HT.lexLt (Srt.cG s.heap (As b.1)) (Srt.cG s.heap (As a.1))=false:=le
 rw[(tup a (pm'.mem_iff.mp ha)).ints,(tup b (pm'.mem_iff.mp hb)).ints] at le'
 exact le'
end
open PySem PySem.Spec PyProof.Rows
section
variable  {X:Cx}{w:AX}
theorem jU (hw:X.w=w)(hh:X.A.handled=none)(hu:X.A.units+64<cLine):b8 X (.type "set") (λxs H Q=>∃(p:Addr) (ts:List (Addr×List Int)),xs=[.ref p]/\(SqL X.K H p (ts.map λt =>.ref t.1)\/SqT X.K H p (ts.map λt =>.ref t.1))/\(∀t∈ts,SqT X.K H t.1 (t.2.map V.int))/\ts.length<1000 ∧
  ∀(a:Addr) (us:List (Addr×List Int)),H a=none->(∀t∈us,t∈ts)->(us.map (·.2)).Nodup->(∀t∈ts,t.2∈us.map (·.2))->us.length<=ts.length->Q (.ref a) (upd H a (fE w a (us.map λt =>.ref t.1)))):=by
 subst hw
 exact tf hh hu
theorem fF (hw:X.w=w)(hh:X.A.handled=none):b8 X (.builtin "sorted") (λxs H Q=>∃(a:Addr) (ts:List (Addr×List Int)),xs=[.ref a]/\H a=some (fE w a (ts.map λt =>.ref t.1))/\(∀t∈ts,SqT X.K H t.1 (t.2.map V.int)/\t.2≠[])/\ts.length<1000 ∧
  ∀(l:Addr) (out:List (Addr×List Int)),H l=none->out.Perm ts->out.Pairwise (λa b=>HT.lexLt b.2 a.2=false)->Q (.ref l) (upd H l (.lst (out.map λt =>.ref t.1)))):=by
 subst hw
 exact kE hh
end
open PySem PySem.Spec PyProof.Rows
section
variable  {X:Cx}
theorem lL:∀{ns:List Int} {xs:List Ae} {prog:Au} {w:AX},Ea xs ns->ItemsAre (intKind prog w) ns xs
 | _,_,_,_,.nil =>.nil
 | _,_,_,_,.cons n t r =>.cons (intKind_is _ _ _ _) (lL r)
theorem Inv.tkA {pins:List (Addr×Obj)}{σ:St}{H:Hp}{s:Ag}(I:Inv X pins σ H s){b:Addr}{ns:List Int}(h:SqT X.K H b (ns.map V.int))(prog:Au)(w:AX):IsTupleKey (intKind prog w) s.heap ns b:=by
 obtain ⟨its,r,⟨o,e,c,n,d⟩,_⟩:=I.tuple h
 exact ⟨o,_,n,e,c,d,lL (by simpa using intsAre_of r)⟩
theorem Inv.eqT {pins:List (Addr×Obj)}{σ:St}{H:Hp}{s:Ag}(I:Inv X pins σ H s){A:A7}(hu:A.units<cLine){a b:Addr}{ns ms:List Int}(h1:SqT X.K H a (ns.map V.int))(h2:SqT X.K H b (ms.map V.int)):DG A s (.ref a) (.ref b) (decide (ns=ms)) :=
 λprog w E Q q=>GH hu (I.tkA h1 prog w) (I.tkA h2 prog w) q
theorem cA:∀{ps:List (Addr×List Int)} {us:List Ae},Vals (ps.map λx=>V.ref x.1) us->us=ps.map λx=>As x.1
 | [],_,r=>by cases r;rfl
 | p :: ps,_,r=>by
  cases r with
  | cons h t=>rw[AV, <- cA t,show _=As p.1 from h]
noncomputable def bW (ts:List (Addr×List Int))(m:List Int):Ae->Bool:=λv=>decide (∃t∈ts,v = .ref t.1/\t.2=m)
theorem cC {pins:List (Addr×Obj)}{σ:St}{H:Hp}{s:Ag}(I:Inv X pins σ H s){ts:List (Addr×List Int)}(ht:∀t∈ts,SqT X.K H t.1 (t.2.map V.int)){m:List Int}{t:Addr×List Int}(hm:t∈ts):bW ts m (.ref t.1)=decide (t.2=m):=by
 unfold bW
 by_cases e:t.2=m
 ·rw[decide_eq_true e,decide_eq_true ⟨t,hm,rfl,e⟩]
 ·rw[decide_eq_false e,decide_eq_false]
  rintro ⟨t',m',e1,e2⟩
  injection e1 with e1
  have:=I.iK (ht t hm) (by rw[e1];exact ht t' m')
  have inj:Function.Injective V.int:=λa b h=>by injection h
  have:t.2=t'.2:=(GA (λx y h=>inj h)).mp this
  exact e (this.trans e2)
theorem jV {pins:List (Addr×Obj)}{σ:St}{H:Hp}{s:Ag}(I:Inv X pins σ H s){ts:List (Addr×List Int)}(ht:∀t∈ts,SqT X.K H t.1 (t.2.map V.int)){m:List Int}:∀us:List (Addr×List Int),(∀t∈us,t∈ts)->(us.map λt=>As t.1).countP (bW ts m)=(us.map (·.2)).count m
 | [],_=>rfl
 | u :: us,h=>by
  rw[AV,AV,List.countP_cons,List.count_cons,jV I ht us (λt hm=>h t (AM _ hm)),cC I ht (h u AU)]
  by_cases e:u.2=m
  ·rw[decide_eq_true e,e];simp
  ·rw[decide_eq_false e];simp[e]
theorem ij {pins:List (Addr×Obj)}{σ:St}{H:Hp}{s:Ag}(I:Inv X pins σ H s){ts:List (Addr×List Int)}(ht:∀t∈ts,SqT X.K H t.1 (t.2.map V.int)){m:List Int}:∀us:List (Addr×List Int),(∀t∈us,t∈ts)->(us.map λt=>As t.1).any (bW ts m)=decide (m∈us.map (·.2))
 | [],_=>by simp
 | u :: us,h=>by
  rw[AV,AV,Dp,ij I ht us (λt hm=>h t (AM _ hm)),cC I ht (h u AU)]
  by_cases e:u.2=m
  ·rw[decide_eq_true e,e];simp
  ·rw[decide_eq_false e,GB]
   have:(m∈u.2 :: us.map (·.2))↔m∈us.map (·.2):=by
    rw[AH]
    exact ⟨λh=>h.elim (λh=>absurd h.symm e) id,.inr⟩
   exact decide_eq_decide.mpr this.symm
theorem yL (hu:X.A.units+8<cLine):MtR X "tuple.count" (λx vs H Q=>∃(p b:Addr) (ts:List (Addr×List Int)) (m:List Int),x = .ref p/\vs=[.ref b]/\H p=some (.tup (ts.map λt =>.ref t.1))/\(∀t∈ts,H t.1=some (.tup (t.2.map V.int)))/\H b=some (.tup (m.map V.int))/\Q (.int ((ts.map (·.2)).count m:Nat)) H):=by
 intro pins s σ H x vs v us Q I rx rv h
 obtain ⟨p,b,ts,m,rfl,rfl,hp,ht,hb,q⟩:=h
 cases rx
 obtain ⟨u,rfl,ru⟩:=vals1 rv
 cases (show u=As b from ru)
 have ht':∀t∈ts,SqT X.K H t.1 (t.2.map V.int):=λt hm=>SqT.of (ht t hm)
 obtain ⟨z,its,r,ob,e1,⟨c1,d1⟩,n,s1⟩:=(show bj X.prog X.w H s.heap p (.tup _) from I.hok p _ hp)
 have ei:=cA r
 obtain ⟨cls,dd,data,sl⟩:=ob
 simp only at c1 s1
 subst c1 s1
 refine GX PySem.F.slot_tuple_count ⟨_,e1,rfl⟩ PySem.F.entry_tuple_count (PySem.F.args_tuple_count_2 _ _) (SeqAt.tuple_countAt p its.toArray n dd sl (.ref b) (bW ts m)) ⟨e1,λy hy =>?_,?_⟩
 ·have hy':y∈its:=by simpa using hy
  rw[ei] at hy'
  obtain ⟨t,hm,rfl⟩:=AG.mp hy'
  rw[cC I ht' hm]
  exact I.eqT (by show X.A.units+1<cLine;omega) (ht' t hm) (SqT.of hb)
 ·rw[show its.toArray.toList=its from rfl,ei,jV I ht' ts (λt h=>h)]
  exact ⟨.int _,H,I.tok _,⟨_,rfl⟩,q⟩
theorem mM (hu:X.A.units+8<cLine):OpR X (Bo .In) (λx y H Q=>∃(p b:Addr) (ts:List (Addr×List Int)) (m:List Int),x = .ref b/\y = .ref p/\H p=some (.tup (ts.map λt =>.ref t.1))/\(∀t∈ts,H t.1=some (.tup (t.2.map V.int)))/\H b=some (.tup (m.map V.int))/\Q (.bl (decide (m∈ts.map (·.2)))) H):=by
 intro pins s σ H x y v u Q I rx ry h
 obtain ⟨p,b,ts,m,rfl,rfl,hp,ht,hb,q⟩:=h
 cases rx
 cases ry
 have ht':∀t∈ts,SqT X.K H t.1 (t.2.map V.int):=λt hm=>SqT.of (ht t hm)
 obtain ⟨its,r,pl,hz⟩:=I.tuple (SqT.of (K:=X.K) hp)
 have ei:=cA r
 refine SeqAt.in_tupleAt (bW ts m) pl (λy hy =>?_) ⟨.bl _,H,I,rfl,?_⟩
 ·have hy':y∈its:=by simpa using hy
  rw[ei] at hy'
  obtain ⟨t,hm,rfl⟩:=AG.mp hy'
  rw[cC I ht' hm]
  exact I.eqT (by show X.A.units+1<cLine;omega) (ht' t hm) (SqT.of hb)
 ·rw[show its.toArray.any (bW ts m)=its.any (bW ts m) by simp,ei,ij I ht' ts (λt h=>h)]
  exact q
end
open PySem PySem.Spec PyProof.Rows
section
variable  {κ:Type}[DecidableEq κ]
def ip (kvs:List (κ×V))(k:κ):Option V:=(kvs.find? λkv=>decide (kv.1=k)).map (·.2)
def putK (kvs:List (κ×V))(k:κ)(v:V):List (κ×V) :=
 if (kvs.any λkv=>decide (kv.1=k))=true then kvs.map (λkv=>if kv.1=k then (kv.1,v) else kv) else kvs++[(k,v)]
theorem iq {p:κ×V}{r:List (κ×V)}{k:κ}(e:p.1=k):ip (p :: r) k=some p.2:=by simp[ip,Dk,e]
theorem ir {p:κ×V}{r:List (κ×V)}{k:κ}(e:¬ p.1=k):ip (p :: r) k=ip r k:=by simp[ip,Dk,e]
theorem jW (k:κ):∀kvs:List (κ×V),(kvs.any λkv=>decide (kv.1=k))=(ip kvs k).isSome
 | []=>rfl
 | p :: r=>by
  rw[Dp]
  by_cases e:p.1=k
  ·simp only[iq e,decide_eq_true e,Bool.true_or,Option.isSome_some]
  ·rw[ir e,decide_eq_false e,GB];exact jW k r
theorem i9 (kvs:List (κ×V))(k:κ)(v:V):(putK kvs k v).length<=kvs.length+1:=by
 unfold putK
 split
 ·rw[Ac];omega
 ·rw[Am,Ba,Dj];omega
theorem jB.iQ {o:Option V}{u:Option Ae}(r:jB o u):o.isSome=u.isSome:=by
 cases o with
 | none=>cases u with
  | none=>rfl
  | some _=>exact (show False from r).elim
 | some _=>cases u with
  | none=>exact (show False from r).elim
  | some _=>rfl
theorem KV.val {kvs:List (κ×V)}{vs:List (κ×Ae)}(r:KV kvs vs)(k:κ):jB (ip kvs k) (valueAt vs k):=by
 unfold KV at r
 induction r with
 | nil=>exact True.intro
 | @cons p q ps qs h t ih =>
  obtain ⟨h1,h2⟩:=h
  by_cases e:p.1=k
  ·have e':q.1=k:=h1.symm.trans e
   have b:valueAt (q :: qs) k=some q.2:=by simp[valueAt,Dk,e']
   rw[iq e,b];exact h2
  ·have e':¬ q.1=k:=λz=>e (h1.trans z)
   have b:valueAt (q :: qs) k=valueAt qs k:=by simp[valueAt,Dk,e']
   rw[ir e,b];exact ih
theorem KV.any {kvs:List (κ×V)}{vs:List (κ×Ae)}(r:KV kvs vs)(k:κ):(kvs.any λkv=>decide (kv.1=k))=vs.any λkv=>decide (kv.1=k):=by
 unfold KV at r
 induction r with
 | nil=>rfl
 | cons h t ih=>rw[Dp,Dp,ih,h.1]
theorem KV.yM {kvs:List (κ×V)}{vs:List (κ×Ae)}(r:KV kvs vs)(k:κ){y:V}{u:Ae}(ry:RelV y u) :
  KV (kvs.map λkv=>if kv.1=k then (kv.1,y) else kv) (vs.map λkv=>if kv.1=k then (kv.1,u) else kv):=by
 unfold KV at r ⊢
 induction r with
 | nil=>exact .nil
 | @cons p q ps qs h t ih =>
  rw[AV,AV]
  refine .cons ?_ ih
  obtain ⟨h1,h2⟩:=h
  by_cases e:p.1=k
  ·rw[if_pos e,if_pos (h1.symm.trans e)];exact ⟨h1,ry⟩
  ·rw[if_neg e,if_neg (λz=>e (h1.trans z))];exact ⟨h1,h2⟩
theorem KV.put {kvs:List (κ×V)}{vs:List (κ×Ae)}(r:KV kvs vs)(k:κ){y:V}{u:Ae}(ry:RelV y u):KV (putK kvs k y) (stored vs k u):=by
 unfold putK stored
 rw[r.any k]
 by_cases e:(vs.any λkv=>decide (kv.1=k))=true
 ·rw[if_pos e,if_pos e];exact r.yM k ry
 ·rw[if_neg e,if_neg e];exact Io r ⟨rfl,ry⟩
theorem KV.length {kvs:List (κ×V)}{vs:List (κ×Ae)}(r:KV kvs vs):kvs.length=vs.length:=Dn r
end
theorem uV {P:Au}{w:AX}{k:Key}{u:Ae}(r:RelV (kV k) u):(bY P w).is k u=true:=by
 cases k with
 | inl i=>obtain ⟨t,e⟩:=(show ∃t,u=CO i t from r);subst e;exact ni P w i t
 | inr x=>obtain ⟨t,e⟩:=(show ∃t,u=Value.str x t from r);subst e;exact nj P w x t
theorem lM {P:Au}{w:AX}:∀{ks:List Key} {us:List Ae},Vals (ks.map kV) us->ItemsAre (bY P w) ks us
 | [],_,r=>by rw[GZ] at r;cases r;exact .nil
 | k :: ks,_,r=>by
  rw[AV] at r
  cases r with
  | cons h t=>exact .cons (uV h) (lM t)
abbrev KT (H:Hp):List (List Key×V)->List (List Key×Addr×Ae)->Prop:=Paired λp q=>p.1=q.1/\H q.2.1=some (.tup (p.1.map kV))/\RelV p.2 q.2.2
theorem KT.val {H:Hp}{kvs:List (List Key×V)}{xs:List (List Key×Addr×Ae)}(r:KT H kvs xs)(k:List Key):jB (ip kvs k) ((atKey xs k).map (·.2)):=by
 induction r with
 | nil=>exact True.intro
 | @cons p q ps qs h t ih =>
  obtain ⟨h1,_,h2⟩:=h
  by_cases e:p.1=k
  ·have e':q.1=k:=h1.symm.trans e
   have b:atKey (q :: qs) k=some q.2:=by simp[atKey,Dk,e']
   rw[iq e,b];exact h2
  ·have e':¬ q.1=k:=λz=>e (h1.trans z)
   have b:atKey (q :: qs) k=atKey qs k:=by simp[atKey,Dk,e']
   rw[ir e,b];exact ih
theorem KT.yM {H:Hp}{kvs:List (List Key×V)}{xs:List (List Key×Addr×Ae)}(r:KT H kvs xs)(k:List Key){y:V}{u:Ae}(ry:RelV y u) :
  KT H (kvs.map λkv=>if kv.1=k then (kv.1,y) else kv) (xs.map (putAt k u)):=by
 induction r with
 | nil=>exact .nil
 | @cons p q ps qs h t ih =>
  rw[AV,AV]
  refine .cons ?_ ih
  obtain ⟨h1,h2,h3⟩:=h
  unfold putAt
  by_cases e:p.1=k
  ·rw[if_pos e,if_pos (h1.symm.trans e)];exact ⟨h1,h2,ry⟩
  ·rw[if_neg e,if_neg (λz=>e (h1.trans z))];exact ⟨h1,h2,h3⟩
theorem KT.put {H:Hp}{kvs:List (List Key×V)}{xs:List (List Key×Addr×Ae)}(r:KT H kvs xs)(k:List Key){b:Addr}{y:V}{u:Ae}(hb:H b=some (.tup (k.map kV)))(ry:RelV y u) :
  KT H (putK kvs k y) (storedH xs k b u):=by
 have e:(kvs.any λkv=>decide (kv.1=k))=(atKey xs k).isSome:=by
  rw[jW,(r.val k).iQ,GS]
 unfold putK storedH
 rw[e]
 by_cases q:(atKey xs k).isSome=true
 ·rw[if_pos q,if_pos q];exact r.yM k ry
 ·rw[if_neg q,if_neg q];exact Io r ⟨rfl,hb,ry⟩
theorem KT.keeps {H H':Hp}{kvs:List (List Key×V)}{xs:List (List Key×Addr×Ae)}(r:KT H kvs xs)(ht:∀b ys,H b=some (.tup ys)->H' b=some (.tup ys)):KT H' kvs xs :=
 Paired.x6 r λ_ _ z=>⟨z.1,ht _ _ z.2.1,z.2.2⟩
section
variable  {P:Au}{w:AX}{H:Hp}{h:Heap}{a:Addr}
theorem xO {u:HO}(ok:HOk P w H h)(e:Rd H a u):bj P w H h a u:=e.ok ok
theorem xP {kvs:List (Key×V)}(ok:HOk P w H h)(e:Rd H a (.dK kvs)):kvs.length<=Ai/\(a == sysModules)=false/\∃vs,KV kvs vs/\h.DictOf (bY P w) a vs :=
 show bj P w H h a (.dK kvs) from xO ok e
theorem zR {kvs:List (Key×V)}(ok:HOk P w H h)(e:H a=some (.dK kvs)):kvs.length<=Ai/\(a == sysModules)=false/\∃vs,KV kvs vs/\h.DictOf (bY P w) a vs:=xP ok (.inl e)
theorem qc {ks:List Key}(ok:HOk P w H h)(e:H a=some (.tup (ks.map kV))):(tupleKind (bY P w)).is h ks a:=by
 obtain ⟨_,its,r,o,h1,h2,n,h3⟩:=(show bj P w H h a (.tup (ks.map kV)) from ok a _ e)
 exact ⟨o,its.toArray,n,h1,h2.1,h3,by simpa using lM r⟩
theorem xQ {kvs:List (List Key×V)}(ok:HOk P w H h)(e:Rd H a (.dT kvs)):kvs.length<=Ai/\(a == sysModules)=false ∧
  ∃xs,KT H kvs xs/\h.DictOfH (tupleKind (bY P w)) a xs:=by
 obtain ⟨z,y,xs,r,o,es,ep,h1,h2,h3,h4,h5⟩:=(show bj P w H h a (.dT kvs) from xO ok e)
 refine ⟨z,y,xs,r,o,es,ep,h1,h2,h3,h4,λx hx =>?_,h5⟩
 have all:∀{l:List (List Key×V)} {m:List (List Key×Addr×Ae)},KT H l m->∀x∈m,(tupleKind (bY P w)).is h x.1 x.2.1:=by
  intro l m q
  induction q with
  | nil=>intro x hx;exact nomatch hx
  | @cons p q ps qs hq t ih =>
   intro x hx
   rcases AH.mp hx with e | hx
   ·subst e
    exact qc ok (by rw[<- hq.1];exact hq.2.1)
   ·exact ih x hx
 exact all r x hx
theorem xR {kvs:List (List Key×V)}(ok:HOk P w H h)(e:H a=some (.dT kvs)):kvs.length<=Ai/\(a == sysModules)=false ∧
  ∃xs,KT H kvs xs/\h.DictOfH (tupleKind (bY P w)) a xs:=xQ ok (.inl e)
end
def tq (H:Hp)(a:Addr)(y:V)(r:Option V):Prop :=
 (∃kvs k,Rd H a (.dK kvs)/\y=kV k/\r=ip kvs k)\/∃kvs k b,Rd H a (.dT kvs)/\y = .ref b/\H b=some (.tup (k.map kV))/\r=ip kvs k
def uW (H:Hp)(a:Addr)(y v:V)(H':Hp):Prop :=
 (∃kvs k,H a=some (.dK kvs)/\y=kV k/\kvs.length<Ai/\H'=upd H a (.dK (putK kvs k v))) ∨
 ∃kvs k b,H a=some (.dT kvs)/\y = .ref b/\H b=some (.tup (k.map kV))/\kvs.length<Ai/\H'=upd H a (.dT (putK kvs k v))
theorem tq.t {H:Hp}{a b:Addr}{kvs:List (List Key×V)}{k:List Key}(e:H a=some (.dT kvs))(eb:H b=some (.tup (k.map kV))):tq H a (.ref b) (ip kvs k) :=.inr ⟨kvs,k,b,.inl e,rfl,eb,rfl⟩
theorem uW.t {H:Hp}{a b:Addr}{kvs:List (List Key×V)}{k:List Key}{v:V}(e:H a=some (.dT kvs))(eb:H b=some (.tup (k.map kV)))(hl:kvs.length<Ai) :
  uW H a (.ref b) v (upd H a (.dT (putK kvs k v))) :=.inr ⟨kvs,k,b,e,rfl,eb,hl,rfl⟩
section
variable  {X:Cx}{pins:List (Addr×Obj)}{σ:St}{H:Hp}{s:Ag}{a:Addr}{y v:V}{u r:Ae}{o:Option V}{A:A7}{E:Ae->Ag->Prop}
theorem Inv.big (I:Inv X pins σ H s):sysModules<s.heap.objs.size:=by
 have h:AR<s.heap.objs.size:=(I.mod.glob.keeps I.bk).lt
 exact Nat.lt_trans (by decide) h
theorem d_in {Q:Ae->Ag->Prop}(hu:A.units+1<cLine)(I:Inv X pins σ H s)(g:tq H a y o)(ry:RelV y u)(h:∀s',Inv X pins σ H s'->Q (.bool o.isSome) s') :
  AL (AQ X.prog X.w) A (Bo .In u (.ref a)) Q E s:=by
 rcases g with ⟨kvs,k,e,ey,l⟩ | ⟨kvs,k,b,e,ey,eb,l⟩
 ·subst ey
  obtain ⟨z,hd,vs,rel,dd⟩:=xP I.hok e
  refine wpAny_in_of (uV ry) hd dd.mapOf ?_
  rw[<- (rel.val k).iQ, <- l]
  exact h _ (I.tok _)
 ·subst ey
  cases (show u=As b from ry)
  obtain ⟨z,hd,xs,rel,dd⟩:=xQ I.hok e
  refine wpAny_in_heap (GI hu) (qc I.hok eb) hd dd ?_
  have q:=(rel.val k).iQ
  rw[GS] at q
  rw[<- q, <- l]
  exact h _ (I.tok _)
theorem q8 {h':Heap}{t':Nat}{ob:HO}(I:Inv X pins σ H s)(mu:Mut (H a))(hs:Heap.SameBut a s.heap h')(he:∃q,h'.get? a=some q)(new:bj X.prog X.w (upd H a ob) h' a ob) :
  Inv X pins σ (upd H a ob) { s with heap:=h',toks:=t' } :=
 I.write (x:=a) (e:=a) mu (.inl rfl) (λb q hb z=>(hs.2 b hb).trans z) he new
theorem yN {P:Au}{w:AX}{H':Hp}{h':Heap}{kvs:List (Key×V)}{vs:List (Key×Ae)}(z:kvs.length<=Ai)(hd:(a == sysModules)=false)(rel:KV kvs vs)(dd:h'.DictOf (bY P w) a vs) :
  bj P w H' h' a (.dK kvs):=⟨z,hd,vs,rel,dd⟩
theorem tD {H':Hp}{Q:Unit->Ag->Prop}(hu:A.units+1<cLine)(I:Inv X pins σ H s)(g:uW H a y v H')(ry:RelV y u)(rv:RelV v r)(h:∀s',Inv X pins σ H' s'->Q () s') :
  AL (AQ X.prog X.w) A (setItem (.ref a) u r) Q E s:=by
 rcases g with ⟨kvs,k,e,ey,l,eH⟩ | ⟨kvs,k,b,e,ey,eb,l,eH⟩
 ·subst ey eH
  obtain ⟨z,hd,vs,rel,dd⟩:=zR I.hok e
  have hz:vs.length<=Ai:=by rw[<- rel.length];exact z
  have hl:(putK kvs k v).length<=Ai:=by have:=i9 kvs k v;omega
  refine wpAny_setItem_pairs (hsz:=hz) (uV ry) dd λh' dd' hs=>h _ ?_
  have he:∃q,h'.get? a=some q:=let ⟨q,_,_,hq,_⟩:=dd';⟨q,hq⟩
  exact q8 I (by rw[e];exact True.intro) hs he (yN hl hd (rel.put k rv) dd')
 ·subst ey eH
  cases (show u=As b from ry)
  obtain ⟨z,hd,xs,rel,dd⟩:=xR I.hok e
  have hz:xs.length<=Ai:=by rw[<- Dn rel];exact z
  have hl:(putK kvs k v).length<=Ai:=by have:=i9 kvs k v;omega
  refine wpAny_setItem_heap (hsz:=hz) (GI hu) (qc I.hok eb) dd λh' dd' hs=>h _ ?_
  obtain ⟨q,es,ep,hq,h2,h3,h4,_,h5⟩:=dd'
  refine q8 I (by rw[e];exact True.intro) hs ⟨q,hq⟩ ⟨hl,hd,_,(rel.put k eb rv).keeps λc ys ec =>?_,q,es,ep,hq,h2,h3,h4,h5⟩
  rw[au (jC ec e (λz=>nomatch z))]
  exact ec
end
section
variable  {X:Cx}{pins:List (Addr×Obj)}{σ:St}{H:Hp}{s:Ag}{a:Addr}{kvs:List (Key×V)}{k:Key}{u:Ae}{A:A7}{E:Ae->Ag->Prop}
end
def tDIn (ty td:TE):TE:=λσ H Q=>ty σ H λy H1=>td σ H1 λx H2=>∃a o,x = .ref a/\tq H2 a y o/\Q (.bl o.isSome) H2
def zS (td ty tv:TE):TS:=λD σ H=>tv σ H λv H1=>td σ H1 λx H2=>ty σ H2 λy H3=>∃a H4,x = .ref a/\uW H3 a y v H4/\D.nx σ H4
section
variable  {X:Cx}{o i e value:Expr}{pos pos' tpos:Pos}{td ty tv:TE}
theorem yO (hu:X.A.units+1<cLine)(hi:PE X i ty)(ho:PE X o td):PC X .In i o (tDIn ty td):=by
 intro pins s σ H Q I h
 refine thn (hi pins s σ H _ I h) λiv s1 ⟨y,H1,I1,ry,q1⟩=>thn (ho pins s1 σ H1 _ I1 q1) λu s2 ⟨x,H2,I2,rx,a,ov,ex,g,q2⟩ =>?_
 subst ex
 obtain rfl:u=As a:=rx
 exact d_in hu I2 g ry λs3 I3=>⟨.bl ov.isSome,H2,I3,rfl,q2⟩
theorem wL (hu:X.A.units+1<cLine)(ho:PE X o td)(hi:PE X i ty)(hv:PE X value tv)(hs:swapsWith value (some (.Subscript o i pos')) pos.line X.env=pure false) :
  PS X (.Assign [.Subscript o i pos'] value pos) (zS td ty tv):=by
 intro pins s σ H D I h
 refine wpAny_Assign_Subscript (thn (hv pins s σ H _ I h) λr s1 ⟨v,H1,I1,rv,q1⟩=>thn (ho pins s1 σ H1 _ I1 q1) λu s2 ⟨x,H2,I2,rx,q2⟩=>thn (hi pins s2 σ H2 _ I2 q2) λiv s3 ⟨y,H3,I3,ry,a,H4,ex,g,q3⟩ =>?_) hs
 subst ex
 obtain rfl:u=As a:=rx
 exact tD hu I3 g ry rv λs4 I4=>⟨σ,H4,I4,q3⟩
end
theorem va {P:Au}{w:AX}{H:Hp}(h:Heap)(hb:sysModules<h.objs.size):bj P w H (h.push { cls :=.type "dict",data :=.dict #[] }) h.objs.size (.dK []) :=
 ⟨A5 _,beq_eq_false_iff_ne.mpr (Ca (AI hb)),[],.nil,Heap.DictOf.new h⟩
theorem vb {P:Au}{w:AX}{H:Hp}(h:Heap)(hb:sysModules<h.objs.size):bj P w H (h.push { cls :=.type "dict",data :=.dict #[] }) h.objs.size (.dT []) :=
 ⟨A5 _,beq_eq_false_iff_ne.mpr (Ca (AI hb)),[],.nil,_, #[],0,Av _ rfl,⟨rfl,rfl,rfl⟩,rfl,rfl,DX⟩
def yP:TE:=λ_ H Q=>∀p,H p=none->Q (.ref p) (upd H p (.dK []))
def yQ:TE:=λ_ H Q=>∀p,H p=none->Q (.ref p) (upd H p (.dT []))
section
variable  {X:Cx}{pos:Pos}
theorem n8:PE X (.Dict [] [] pos) yP:=λpins s σ H Q I h =>
 wpAny_Dict_empty ⟨.ref s.heap.objs.size,_,I.laid (a:=s.heap.objs.size) (o :=.dK []) (t':=s.toks) (λ_ _ q=>Ad _ q) (Ah _) (va s.heap I.big),rfl,h _ (I.hok.fresh (Ah _))⟩
theorem vc:PE X (.Dict [] [] pos) yQ:=λpins s σ H Q I h =>
 wpAny_Dict_empty ⟨.ref s.heap.objs.size,_,I.laid (a:=s.heap.objs.size) (o :=.dT []) (t':=s.toks) (λ_ _ q=>Ad _ q) (Ah _) (vb s.heap I.big),rfl,h _ (I.hok.fresh (Ah _))⟩
end
section
variable  {X:Cx}{pins:List (Addr×Obj)}{σ:St}{H:Hp}{s:Ag}{a:Addr}{y d:V}{u r:Ae}{o:Option V}{A:A7}{E:Ae->Ag->Prop}
end
section
variable  {X:Cx}{o e f:Expr}{apos cpos:Pos}{td ty tx:TE}
end
section
variable  {X:Cx}{pins:List (Addr×Obj)}{σ:St}{H:Hp}{s:Ag}{a:Addr}{kvs:List (Key×V)}{A:A7}{E:Ae->Ag->Prop}
end
section
variable  {X:Cx}{pins:List (Addr×Obj)}{σ:St}{H:Hp}{s:Ag}{a:Addr}{y:V}{u:Ae}{A:A7}{E:Ae->Ag->Prop}
end
open PySem PySem.Spec PyProof.Rows
section
variable  {X:Cx}
end
section
variable  {κ:Type}[DecidableEq κ]
end
end L2
namespace HT
open PySem PySem.Spec PyProof.Rows
section
variable  {prog:Au}{w:AX}{A:A7}{E:Ae->Ag->Prop}{s:Ag}{l:Addr}{xs:Array (Int×Tok)}
theorem lN {items:Array Ae}{Q:Ae->Ag->Prop}(hl:s.heap.IsTuple l items)
  (h:∀s₂:Ag,s₂={ s with heap:=s.heap.push { cls :=.type "tuple_iterator",data :=.fields #[.ref l,.int 0 0] } } →
   (s₂.heap.IsTupleIter s.heap.objs.size l 0/\s₂.heap.IsTuple l items)->(∀b∈[s.heap.objs.size,l],b<s₂.heap.objs.size)->l≠s.heap.objs.size->Q (.ref s.heap.objs.size) s₂) :
  AL (AQ prog w) A (pyIter (.ref l)) Q E s:=by
 have hlt:l<s.heap.objs.size:=by obtain ⟨_,e,_⟩:=hl;exact Ar e
 refine CM hl (h _ rfl ⟨⟨_,Av _ rfl,rfl,rfl⟩,?_⟩ (λb hb =>?_) (AI hlt))
 ·obtain ⟨o,e,c,d⟩:=hl
  exact ⟨o,Ad _ e,c,d⟩
 show b<(s.heap.push _).objs.size
 rw[CP]
 rcases AH.mp hb with rfl | hb
 ·exact CI _
 ·rcases AH.mp hb with rfl | hb
  ·exact BP hlt
  ·cases hb
theorem lO {h':Heap}(hk:∀b o,b∉[s.heap.objs.size]->(s.heap.push { cls :=.type "tuple_iterator",data :=.fields #[.ref l,.int 0 0] }).get? b=some o->h'.get? b=some o) :
  ∀b o,s.heap.get? b=some o->h'.get? b=some o:=λb o e=>by
 refine hk b o (λhm =>?_) (Ad _ e)
 rcases AH.mp hm with e1 | hm
 ·exact absurd (e1 ▸ Ar e) (Bn _)
 ·cases hm
theorem wM {Q:Ae->Ag->Prop}(hh:A.handled=none)(hl:s.heap.IsTuple l (DM xs))(hne:0<xs.size)
  (h:∀v h' tk,(DM xs)[argBest (λi j=>decide (numAt xs i>numAt xs j)) (xs.size-1)]? = some v->(∀b o,s.heap.get? b=some o->h'.get? b=some o)->Q v { s with heap:=h',toks:=tk }) :
  AL (AQ prog w) A (call (.builtin "max") [.ref l]) Q E s:=by
 refine call_max_walk (lN hl λs₂ e st hfp hlI =>?_)
 subst e
 refine ⟨_,_,_,_,_,_,_,rfl,Ht (A:=A.in1) hh _ l hlI (DM xs),st,hfp,by simpa [DM] using hne,CmpOf.ints_gt (numAt xs) (λ_ _=>intItems_at),λv h' tk hP hk =>?_⟩
 exact h v h' tk (by simpa [DM] using hP) (lO hk)
theorem wN {Q:Ae->Ag->Prop}(hh:A.handled=none)(hl:s.heap.IsTuple l (DM xs))(hne:0<xs.size)
  (h:∀v h' tk,(DM xs)[argBest (λi j=>decide (numAt xs i<numAt xs j)) (xs.size-1)]? = some v->(∀b o,s.heap.get? b=some o->h'.get? b=some o)->Q v { s with heap:=h',toks:=tk }) :
  AL (AQ prog w) A (call (.builtin "min") [.ref l]) Q E s:=by
 refine call_min_walk (lN hl λs₂ e st hfp hlI =>?_)
 subst e
 refine ⟨_,_,_,_,_,_,_,rfl,Ht (A:=A.in1) hh _ l hlI (DM xs),st,hfp,by simpa [DM] using hne,CmpOf.ints_lt (numAt xs) (λ_ _=>intItems_at),λv h' tk hP hk =>?_⟩
 exact h v h' tk (by simpa [DM] using hP) (lO hk)
end
end HT
namespace L2
open PySem PyProof.Rows
section
variable  {X:Cx}{K:Ab}
theorem ii2 {i j:Int}{t1 t2:Tok}:DM #[(i,t1),(j,t2)] = #[CO i t1,CO j t2]:=by simp[DM]
theorem tE (hc:X.calm=true)(hk:X.K=K:=by rfl):b8 X (.builtin "min") (λxs H Q=>∃(p:Addr) (i j:Int),xs=[.ref p]/\SqT K H p [.int i,.int j]/\Q (.int (if j<i then j else i)) H):=by
 subst hk
 intro pins s σ H xs us Q I r h
 obtain ⟨p,i,j,rfl,hq,q⟩:=h
 obtain ⟨u,rfl,ru⟩:=vals1 r
 cases (show u=As p from ru)
 obtain ⟨its,rv,ht,_⟩:=I.tuple hq
 obtain ⟨x,y,rfl,⟨t1,rfl⟩,⟨t2,rfl⟩⟩:=vals2 rv
 refine HT.wN (I.ok.hd hc) (xs := #[(i,t1),(j,t2)]) (by rw[ii2];exact ht) (by simp) λv h' tk hv k =>?_
 have ev:∃t,v = .int (if j<i then j else i) t:=by
  have hb:argBest (λa b=>decide (numAt #[(i,t1),(j,t2)] a<numAt #[(i,t1),(j,t2)] b)) (#[(i,t1),(j,t2)].size-1)=if j<i then 1 else 0:=by
   show (if decide (j<i)=true then 1 else 0)=_
   by_cases h:j<i
   ·rw[decide_eq_true h,if_pos h,if_pos rfl]
   ·rw[decide_eq_false h,if_neg h,if_neg Ao]
  rw[hb,ii2] at hv
  by_cases h:j<i
  ·rw[if_pos h] at hv ⊢
   exact ⟨t2,(A1 (show some (CO j t2)=some v from hv)).symm⟩
  ·rw[if_neg h] at hv ⊢
   exact ⟨t1,(A1 (show some (CO i t1)=some v from hv)).symm⟩
 obtain ⟨t,rfl⟩:=ev
 exact ⟨.int _,H,I.kept k,⟨_,rfl⟩,q⟩
theorem tF (hc:X.calm=true)(hk:X.K=K:=by rfl):b8 X (.builtin "max") (λxs H Q=>∃(p:Addr) (i j:Int),xs=[.ref p]/\SqT K H p [.int i,.int j]/\Q (.int (if j>i then j else i)) H):=by
 subst hk
 intro pins s σ H xs us Q I r h
 obtain ⟨p,i,j,rfl,hq,q⟩:=h
 obtain ⟨u,rfl,ru⟩:=vals1 r
 cases (show u=As p from ru)
 obtain ⟨its,rv,ht,_⟩:=I.tuple hq
 obtain ⟨x,y,rfl,⟨t1,rfl⟩,⟨t2,rfl⟩⟩:=vals2 rv
 refine HT.wM (I.ok.hd hc) (xs := #[(i,t1),(j,t2)]) (by rw[ii2];exact ht) (by simp) λv h' tk hv k =>?_
 have ev:∃t,v = .int (if j>i then j else i) t:=by
  have hb:argBest (λa b=>decide (numAt #[(i,t1),(j,t2)] a>numAt #[(i,t1),(j,t2)] b)) (#[(i,t1),(j,t2)].size-1)=if j>i then 1 else 0:=by
   show (if decide (j>i)=true then 1 else 0)=_
   by_cases h:j>i
   ·rw[decide_eq_true h,if_pos h,if_pos rfl]
   ·rw[decide_eq_false h,if_neg h,if_neg Ao]
  rw[hb,ii2] at hv
  by_cases h:j>i
  ·rw[if_pos h] at hv ⊢
   exact ⟨t2,(A1 (show some (CO j t2)=some v from hv)).symm⟩
  ·rw[if_neg h] at hv ⊢
   exact ⟨t1,(A1 (show some (CO i t1)=some v from hv)).symm⟩
 obtain ⟨t,rfl⟩:=ev
 exact ⟨.int _,H,I.kept k,⟨_,rfl⟩,q⟩
end
open PySem PyProof.Rows
section
variable  {X:Cx}
def lQ (ns ms:List Int)(j:Nat):Bool:=ns.getD j 0 == ms.getD j 0
theorem tG {ns ms:List Int}(h:ns.length=ms.length):((BL ns.length).all λj=>lQ ns ms j)=decide (ns=ms):=by
 rw[De,decide_eq_true_iff,Cn]
 constructor
 ·intro hh
  refine List.ext_getElem h λj h1 h2 =>?_
  have:=hh j (Bp.mpr h1)
  unfold lQ at this
  rw[BS,BS,Aw h1,Aw h2] at this
  exact of_decide_eq_true (by simpa using this)
 ·rintro rfl j _
  exact beq_self_eq_true _
theorem iR {ns ms:List Int}:((BL (min ns.length ms.length)).all (lQ ns ms) && ns.length == ms.length)=decide (ns=ms):=by
 by_cases h:ns.length=ms.length
 ·rw[<- h,FE,show (ns.length == ns.length)=true from beq_self_eq_true _,Bool.and_true]
  exact tG h
 ·have ne:ns≠ms:=λz=>h (by rw[z])
  rw[decide_eq_false ne,show (ns.length == ms.length)=false from by simpa using h,EJ]
theorem iS {ns:List Int}{us:List Ae}(r:Vals (ns.map V.int) us){j:Nat}(h:j<us.toArray.size):∃t,us.toArray[j] = .int (ns.getD j 0) t:=by
 have l:=r.length
 rw[Ac] at l
 rw[Aj] at h
 have e1:(ns.map V.int)[j]? = some (.int (ns.getD j 0)):=by
  rw[AO,BS,Aw (by omega)]
  rfl
 obtain ⟨u,g1,q1⟩:=r.get e1
 have f1:us.toArray[j]=u:=by simp[Al] at g1;obtain ⟨_,g⟩:=g1;simpa using g
 rw[f1]
 exact q1
theorem op_eqTI {k:Nat}(hr:bU k X.A):OpR X (Bo .Eq) (λx y H Q=>∃(a b:Addr) (ns ms:List Int),x = .ref a/\y = .ref b/\SqT X.K H a (ns.map V.int)/\SqT X.K H b (ms.map V.int)/\Q (.bl (decide (ns=ms))) H):=by
 intro pins s σ H x y v u Q I rx ry h
 obtain ⟨a,b,ns,ms,rfl,rfl,h1,h2,q⟩:=h
 cases (show v=As a from rx)
 cases (show u=As b from ry)
 obtain ⟨its,r1,p1,_⟩:=I.tuple h1
 obtain ⟨its2,r2,p2,_⟩:=I.tuple h2
 have l1:=r1.length
 have l2:=r2.length
 rw[Ac] at l1 l2
 have hu:=hr.un
 have hu1:X.A.units<cLine:=by omega
 have R:=EY (A:=X.A) (e:=lQ ns ms) (show s.heap.IsTuple a its.toArray from p1) (show s.heap.IsTuple b its2.toArray from p2) hu1 (by
  intro j h1 h2
  obtain ⟨t1,g1⟩:=iS r1 h1
  obtain ⟨t2,g2⟩:=iS r2 h2
  rw[g1,g2]
  exact C9 _ t1 _ t2)
 rw[Aj,Aj, <- l1, <- l2,iR] at R
 exact R _ _ _ _ ⟨.bl _,H,I,rfl,q⟩
theorem q9 {k:Nat}(hr:bU k X.A):OpR X (Bo .NotEq) (λx y H Q=>∃(a b:Addr) (ns ms:List Int),x = .ref a/\y = .ref b/\SqT X.K H a (ns.map V.int)/\SqT X.K H b (ms.map V.int)/\Q (.bl (!decide (ns=ms))) H):=by
 intro pins s σ H x y v u Q I rx ry h
 obtain ⟨a,b,ns,ms,rfl,rfl,h1,h2,q⟩:=h
 cases (show v=As a from rx)
 cases (show u=As b from ry)
 obtain ⟨its,r1,p1,_⟩:=I.tuple h1
 obtain ⟨its2,r2,p2,_⟩:=I.tuple h2
 have l1:=r1.length
 have l2:=r2.length
 rw[Ac] at l1 l2
 have hu:=hr.un
 have hu1:X.A.units<cLine:=by omega
 have R:=En (A:=X.A) (e:=lQ ns ms) (show s.heap.IsTuple a its.toArray from p1) (show s.heap.IsTuple b its2.toArray from p2) hu1 (by
  intro j h1 h2
  obtain ⟨t1,g1⟩:=iS r1 h1
  obtain ⟨t2,g2⟩:=iS r2 h2
  rw[g1,g2]
  exact C9 _ t1 _ t2)
 rw[Aj,Aj, <- l1, <- l2,iR] at R
 exact R _ _ _ _ ⟨.bl _,H,I,rfl,q⟩
def Wd (i:Int):Prop:=i.natAbs<2 ^ 4000
theorem Wd.bits {i:Int}(h:Wd i):Builtin.Int.intBits i<=2 ^ 20:=by
 unfold Builtin.Int.intBits
 split
 ·exact A5 _
 ·have:i.natAbs.log2<4000:=by
   rcases Nat.eq_zero_or_pos i.natAbs with h0 | hp
   ·rw[h0];decide
   ·exact (Nat.log2_lt (by omega)).mpr h
  omega
def zT (i j:Int):Prop:=Wd i/\Wd j
theorem mO:OpR X (binaryOp .Mult) (rI zT λi j =>.int (i*j)):=opI λ_ _ _ _ _ _ _ hc q=>mul_int q (IntMulOk.of_bits hc.1.bits hc.2.bits)
end
section
variable  {P:Au}{w:AX}{K:Ab}{mg:Str->Option Ae}{base:Heap}
end
end L2
namespace L2.Rem
open PySem PySem.SeqAt PySem.MeetsSeq
open AutoSeq1 (wpAny_loadPart')
end L2.Rem
namespace L2
open PySem PySem.Spec PyProof.Rows
section
variable  {X:Cx}
theorem qd (hu:X.A.units+8<cLine):OpR X (Bo .NotIn) (λx y H Q=>∃(p b:Addr) (ts:List (Addr×List Int)) (m:List Int),x = .ref b/\y = .ref p/\H p=some (.lst (ts.map λt =>.ref t.1))/\(∀t∈ts,H t.1=some (.tup (t.2.map V.int)))/\H b=some (.tup (m.map V.int))/\Q (.bl (!decide (m∈ts.map (·.2)))) H):=by
 intro pins s σ H x y v u Q I rx ry h
 obtain ⟨p,b,ts,m,rfl,rfl,hp,ht,hb,q⟩:=h
 cases rx
 cases ry
 have ht':∀t∈ts,SqT X.K H t.1 (t.2.map V.int):=λt hm=>SqT.of (ht t hm)
 obtain ⟨its,r,pl,hz⟩:=I.list (SqL.of (K:=X.K) hp)
 have ei:=cA r
 refine Gu (bW ts m) pl.isList (λy hy =>?_) ⟨.bl _,H,I,rfl,?_⟩
 ·have hy':y∈its:=by simpa using hy
  rw[ei] at hy'
  obtain ⟨t,hm,rfl⟩:=AG.mp hy'
  rw[cC I ht' hm]
  exact I.eqT (by show X.A.units+1<cLine;omega) (ht' t hm) (SqT.of hb)
 ·rw[show its.toArray.any (bW ts m)=its.any (bW ts m) by simp,ei,ij I ht' ts (λt h=>h)]
  exact q
end
open PySem PySem.Spec PyProof.Rows
def Pt (n:Nat)(H:Hp)(p:Addr):Prop:=∃xs:List Int,xs.length=n/\H p=some (.lst (xs.map V.int))
structure Bu (n:Nat)(p:Addr)(H H':Hp):Prop where
 pot:Pt n H' p
 st:∀q o,q≠p->H q=some o->H' q=some o
theorem Pt.same {n:Nat}{p:Addr}{H H1:Hp}(a:Pt n H p)(s:ay H H1):Pt n H1 p:=by obtain ⟨xs,l,e⟩:=a;exact ⟨xs,l,s _ _ e⟩
theorem Pt.ne {n:Nat}{p b:Addr}{H:Hp}(a:Pt n H p)(h:H b=none):b≠p:=by
 obtain ⟨xs,_,e⟩:=a
 exact Ca (aA e h)
theorem Pt.neT {n:Nat}{p b:Addr}{H:Hp}{ys:List V}(a:Pt n H p)(h:H b=some (.tup ys)):b≠p:=by
 obtain ⟨xs,_,e⟩:=a
 exact jC h e (by intro z;cases z)
theorem Bu.refl {n:Nat}{p:Addr}{H:Hp}(h:Pt n H p):Bu n p H H:=⟨h,λ_ _ _ z=>z⟩
theorem Bu.trans {n:Nat}{p:Addr}{H H1 H2:Hp}(a:Bu n p H H1)(b:Bu n p H1 H2):Bu n p H H2:=⟨b.pot,λq o m z=>b.st q o m (a.st q o m z)⟩
theorem Bu.same {n:Nat}{p:Addr}{H H1 H2:Hp}(a:Bu n p H H1)(b:ay H1 H2):Bu n p H H2:=⟨a.pot.same b,λq o m z=>b _ _ (a.st q o m z)⟩
theorem Bu.put {n:Nat}{p:Addr}{H H1:Hp}(a:Bu n p H H1){ys:List Int}(l:ys.length=n):Bu n p H (upd H1 p (.lst (ys.map V.int))):=⟨⟨ys,l,ae⟩,λq o m z=>by rw[au m];exact a.st q o m z⟩
theorem Bu.jX {n:Nat}{p l:Addr}{H H1:Hp}(a:Bu n p H H1)(hl:H l=none)(np:l≠p)(o:HO):Bu n p H (upd H1 l o):=⟨by obtain ⟨xs,z,e⟩:=a.pot;exact ⟨xs,z,by rw[au np.symm];exact e⟩,λq u m z=>by rw[au (aA z hl)];exact a.st q u m z⟩
theorem Bu.tup {n:Nat}{p q:Addr}{H H1:Hp}(a:Bu n p H H1)(h:Pt n H p){xs:List V}(t:H q=some (.tup xs)):H1 q=some (.tup xs):=a.st q _ (h.neT t) t
theorem Bu.fresh {n:Nat}{p:Addr}{H H':Hp}{o:HO}(h:H p=none)(b:Bu n p (upd H p o) H'):ay H H':=λq u e=>by
 have m:q≠p:=aA e h
 refine b.st q u m ?_
 rw[au m]
 exact e
def Tus (H:Hp)(ts:List (Addr×List Int)):Prop:=∀u∈ts,H u.1=some (.tup (u.2.map V.int))
theorem Tus.same {H H':Hp}{ts:List (Addr×List Int)}(h:Tus H ts)(s:ay H H'):Tus H' ts:=λu hu=>s _ _ (h u hu)
theorem Tus.bu {n:Nat}{p:Addr}{H H':Hp}{ts:List (Addr×List Int)}(h:Tus H ts)(b:Bu n p H H')(hp:Pt n H p):Tus H' ts:=λu hu=>b.tup hp (h u hu)
variable  {X:Cx}
open PySem PySem.Spec PyProof.Rows
section
variable  {X:Cx}
def rb (K:Ab):R2:=λx y H Q=>∃a b xs ys,x = .ref a/\y = .ref b/\SqT K H a xs/\SqT K H b ys/\xs.length+ys.length<=Ai/\(xs=[]->Q (.ref b) H)/\(ys=[]->Q (.ref a) H)/\(xs≠[]->ys≠[]->∀p,H p=none->Q (.ref p) (upd H p (.tup (xs++ys))))
theorem vd:OpR X (binaryOp .Add) (rb X.K):=by
 intro pins s σ H x y v u Q I rx ry h
 obtain ⟨a,b,xs,ys,rfl,rfl,ha,hb,hz,q1,q2,q3⟩:=h
 by_cases hx:xs=[]
 ·cases rx
  cases ry
  obtain ⟨its,r1,p1,_⟩:=I.tuple ha
  obtain ⟨its2,r2,p2,_⟩:=I.tuple hb
  obtain ⟨⟨c1,d1,da1,s1⟩,o1,k1,n1,g1⟩:=id p1
  obtain ⟨⟨c2,d2,da2,s2⟩,o2,k2,n2,g2⟩:=id p2
  simp only at k1 g1 k2 g2
  subst k1 g1 k2 g2
  have e0:its=[]:=r1.js.mpr hx
  exact FK ⟨_,o1,rfl⟩ ⟨_,o2,rfl⟩ Fm GG DN DH (DD _ _)
   (tuple_addW0 a b its.toArray its2.toArray n1 n2 d1 d2 s1 s2 (by simp[e0])) ⟨o1,o2,⟨.ref b,H,I,rfl,q1 hx⟩⟩
 ·exact vZ pins s σ H _ _ v u Q I rx ry ⟨a,b,xs,ys,rfl,rfl,ha,hb,hx,hz,q2,λhy=>q3 hx hy⟩
theorem rb.one {K:Ab}{H:Hp}{Q:VK}{a b:Addr}{xs ys:List V}(ha:H a=some (.tup xs))(hb:H b=some (.tup ys))(hz:xs.length+ys.length<=Ai)(q:∀p H',ay H H'->H' p=some (.tup (xs++ys))->Q (.ref p) H'):rb K (.ref a) (.ref b) H Q:=by
 refine ⟨a,b,xs,ys,rfl,rfl,SqT.of ha,SqT.of hb,hz,λz =>?_,λz =>?_,λ_ _ p hp=>q p _ (af hp _) ae⟩
 ·subst z;exact q b H (ay.refl _) hb
 ·subst z;exact q a H (ay.refl _) (by rw[AZ];exact ha)
end
open PySem PySem.Spec PyProof.Rows
section
variable  {X:Cx}
def EqS (K:Ab)(H:Hp):Nat->V->V->Prop
 | 0,x,y=>(∃i,x = .int i/\y = .int i)\/(∃i,x = .str i/\y = .str i)\/∃a,x = .ref a/\y = .ref a
 | n+1,x,y=>(∃i,x = .int i/\y = .int i)\/(∃i,x = .str i/\y = .str i)\/(∃a,x = .ref a/\y = .ref a)\/∃a b xs ys,x = .ref a/\y = .ref b/\((SqT K H a xs/\SqT K H b ys)\/(SqL K H a xs/\SqL K H b ys))/\Paired (EqS K H n) xs ys
theorem gh {K:Ab}{H:Hp}{n:Nat}{s:Ag}{A:A7}{xs ys:List V}{us vs:List Ae}(p:Paired (EqS K H n) xs ys)(r1:Vals xs us)(r2:Vals ys vs)
  (ih:∀x y u v,EqS K H n x y->RelV x u->RelV y v->DG A s u v true):∀j (h1:j<us.toArray.size) (h2:j<vs.toArray.size),DG A s us.toArray[j] vs.toArray[j] true:=λj h1 h2=>by
 rw[Aj] at h1 h2
 have l1:=r1.length
 have l2:=r2.length
 have e1:xs[j]? = some xs[j]:=Aw (by omega)
 have e2:ys[j]? = some ys[j]:=Aw (by omega)
 obtain ⟨u,g1,q1⟩:=r1.get e1
 obtain ⟨v,g2,q2⟩:=r2.get e2
 have f1:us.toArray[j]=u:=by simp[Al] at g1;obtain ⟨_,g⟩:=g1;simpa using g
 have f2:vs.toArray[j]=v:=by simp[Al] at g2;obtain ⟨_,g⟩:=g2;simpa using g
 rw[f1,f2]
 exact ih _ _ u v (lq p e1 e2) q1 q2
theorem du {A:A7}{s:Ag}{x y:V}{u v:Ae}(h:(∃i,x = .int i/\y = .int i)\/(∃i,x = .str i/\y = .str i)\/∃a,x = .ref a/\y = .ref a)(ru:RelV x u)(rv:RelV y v):DG A s u v true:=by
 rcases h with ⟨i,rfl,rfl⟩ | ⟨i,rfl,rfl⟩ | ⟨a,rfl,rfl⟩
 ·obtain ⟨t,rfl⟩:=(show ∃t,u=CO i t from ru)
  obtain ⟨t',rfl⟩:=(show ∃t,v=CO i t from rv)
  have:=C9 (A:=A) (s:=s) i t i t'
  rw[beq_self_eq_true] at this
  exact this
 ·obtain ⟨t,rfl⟩:=(show ∃t,u=Value.str i t from ru)
  obtain ⟨t',rfl⟩:=(show ∃t,v=Value.str i t from rv)
  have:=Gs (A:=A) (s:=s) i t i t'
  rw[show (i == i)=true by simp] at this
  exact this
 ·cases (show u=As a from ru)
  cases (show v=As a from rv)
  exact DI _
theorem qe {pins:List (Addr×Obj)}{σ:St}{H:Hp}{s:Ag}(I:Inv X pins σ H s):∀(n:Nat) (A:A7) (x y:V) (u v:Ae),A.units+n<cLine->EqS X.K H n x y->RelV x u->RelV y v->DG A s u v true
 | 0,A,x,y,u,v,_,h,ru,rv=>du h ru rv
 | n+1,A,x,y,u,v,hA,h,ru,rv=>by
  rcases h with h | h | h | ⟨a,b,xs,ys,rfl,rfl,hs,p⟩
  ·exact du (.inl h) ru rv
  ·exact du (.inr (.inl h)) ru rv
  ·exact du (.inr (.inr h)) ru rv
  ·cases (show u=As a from ru)
   cases (show v=As b from rv)
   by_cases hab:a=b
   ·subst hab;exact DI _
   refine SeqAt.EqAt.of_refs hab ?_
   have ih:∀x y u v,EqS X.K H n x y->RelV x u->RelV y v->DG A.in1 s u v true:=λx y u v h1 h2 h3=>qe I n A.in1 x y u v (by show A.units+1+n<cLine;omega) h1 h2 h3
   have pl:=Dn p
   rcases hs with ⟨h1,h2⟩ | ⟨h1,h2⟩
   ·obtain ⟨its,r1,p1,_⟩:=I.tuple h1
    obtain ⟨its2,r2,p2,_⟩:=I.tuple h2
    have q:=EY (e:=λ_=>true) (show s.heap.IsTuple a its.toArray from p1) (show s.heap.IsTuple b its2.toArray from p2) (by omega) (gh p r1 r2 ih)
    have ez:its.toArray.size=its2.toArray.size:=by rw[Aj,Aj, <- r1.length, <- r2.length,pl]
    rw[all_true,ez,beq_self_eq_true] at q
    exact q
   ·obtain ⟨its,r1,p1,_⟩:=I.list h1
    obtain ⟨its2,r2,p2,_⟩:=I.list h2
    have q:=SeqAt.RcAt.lists (e:=λ_=>true) p1.isList p2.isList (by rw[Aj,Aj, <- r1.length, <- r2.length,pl]) (by omega) (gh p r1 r2 ih)
    rw[all_true] at q
    exact q
theorem iu {k:Nat}(hr:bU k X.A):OpR X (Bo .NotEq) (λx y H Q=>∃a b xs ys,x = .ref a/\y = .ref b/\SqT X.K H a xs/\SqT X.K H b ys/\Paired (EqS X.K H 20) xs ys/\Q (.bl false) H):=by
 intro pins s σ H x y v u Q I rx ry h
 obtain ⟨a,b,xs,ys,rfl,rfl,h1,h2,p,q⟩:=h
 cases (show v=As a from rx)
 cases (show u=As b from ry)
 obtain ⟨its,r1,p1,_⟩:=I.tuple h1
 obtain ⟨its2,r2,p2,_⟩:=I.tuple h2
 have l1:=r1.length
 have l2:=r2.length
 have pl:=Dn p
 have hu:=hr.un
 have hu1:X.A.units<cLine:=by omega
 have R:=En (A:=X.A) (e:=λ_=>true) (show s.heap.IsTuple a its.toArray from p1) (show s.heap.IsTuple b its2.toArray from p2) hu1 (gh p r1 r2 λx y u v h1 h2 h3=>qe I 20 _ x y u v (by show X.A.units+1+_<cLine;omega) h1 h2 h3)
 rw[Aj,Aj, <- l1, <- l2,pl,FE,beq_self_eq_true,all_true] at R
 exact R _ _ _ _ ⟨.bl false,H,I,rfl,q⟩
theorem wO {k:Nat}(hr:bU k X.A):OpR X (Bo .Eq) (λx y H Q=>∃a b xs ys,x = .ref a/\y = .ref b/\SqT X.K H a xs/\SqT X.K H b ys/\Paired (EqS X.K H 20) xs ys/\Q (.bl true) H):=by
 intro pins s σ H x y v u Q I rx ry h
 obtain ⟨a,b,xs,ys,rfl,rfl,h1,h2,p,q⟩:=h
 cases (show v=As a from rx)
 cases (show u=As b from ry)
 obtain ⟨its,r1,p1,_⟩:=I.tuple h1
 obtain ⟨its2,r2,p2,_⟩:=I.tuple h2
 have l1:=r1.length
 have l2:=r2.length
 have pl:=Dn p
 have hu:=hr.un
 have hu1:X.A.units<cLine:=by omega
 have R:=EY (A:=X.A) (e:=λ_=>true) (show s.heap.IsTuple a its.toArray from p1) (show s.heap.IsTuple b its2.toArray from p2) hu1 (gh p r1 r2 λx y u v h1 h2 h3=>qe I 20 _ x y u v (by show X.A.units+1+_<cLine;omega) h1 h2 h3)
 rw[all_true,Aj,Aj, <- l1, <- l2,pl,beq_self_eq_true] at R
 exact R _ _ _ _ ⟨.bl true,H,I,rfl,q⟩
end
end L2
namespace L2.RvT
open PySem PyProof.Rows
open Sem (wp)
theorem tH:Slot "reversed" "__init__" "object.__init__" :=
 .of (owner := "object") (n := "__init__") (by rw[typeLookup_type,FO];kernel_rfl) (by decide +kernel) (by decide +kernel) (by decide +kernel)
  (by first | exact .inl (by decide +kernel) | exact .inr (by decide +kernel)) (by rw[DY];kernel_rfl)
theorem called:TypeCalled "reversed" "reversed.__new__" "object.__init__" :=
 ⟨by decide +kernel,by decide +kernel,⟨_,_,FU⟩,madeBy_type FU PySem.F.lookup_reversed_new (by decide +kernel),by decide +kernel,by rw[DY];kernel_rfl,tH⟩
section
variable  {prog:Au}{w:AX}{A:A7}{E:Ae->Ag->Prop}{s:Ag}
end
section
variable  {prog:Au}{w:AX}{A:A7}{E:Ae->Ag->Prop}{s:Ag}
end
end L2.RvT
namespace L2
open PySem PySem.Spec PyProof.Rows
section
variable  {X:Cx}
theorem oa:OpR X (binaryOp .Add) (λx y H Q=>∃a b xs ys,x = .ref a/\y = .ref b/\H a=some (.tup xs)/\H b=some (.tup ys)/\xs.length+ys.length<=Ai/\∀p H',ay H H'->H' p=some (.tup (xs++ys))->Q (.ref p) H'):=by
 intro pins s σ H x y v u Q I rx ry h
 obtain ⟨a,b,xs,ys,rfl,rfl,ha,hb,hz,q⟩:=h
 exact vd pins s σ H _ _ v u Q I rx ry (rb.one ha hb hz q)
end
open PySem PySem.Spec PyProof.Rows
section
variable  {X:Cx}
theorem mP {K:Ab}(h:X.K=K:=by rfl):b8 X (.builtin "isinstance") (λxs H Q=>∃x T t b,xs=[x,.ty T]/\cw K H x t/\PySem.W.kitOne K t (.type T)=some b/\Q (.bl b) H):=by subst h;exact bV
end
theorem iT {K:Ab}{p:Addr}{ts:List (Addr×V×V)}{k l:Nat}{tc:TT}{te:TE}{τ:St}{H:Hp}{Q:VK}(Pv:Nat->List V->Hp->Prop)(hkl:k≠l)(h0:Pv 0 [] H)(hz:ts.length<=Ai)
  (hl:∀i ys H,i<=ts.length->Pv i ys H->SqT K H p (ts.map λt =>.ref t.1)/\∀t∈ts,SqT K H t.1 [t.2.1,t.2.2])
  (hs:∀i t ys H,ts[i]? = some t->ys.length<=i->Pv i ys H->zO k l tc te τ Pv i t.2.1 t.2.2 ys H)
  (hd:∀ys H,ys.length<=ts.length->Pv ts.length ys H->∀r,H r=none->Q (.ref r) (upd H r (.lst ys))):jI (Itt K p) (xK K k l) tc te τ Q H:=by
 refine ⟨λi m σ ys H=>m=ts.length-i/\i<=ts.length/\(∀a b,(σ.set k (some a)).set l (some b)=(τ.set k (some a)).set l (some b))/\ys.length<=i/\Pv i ys H,⟨ts.length,by simp,A5 _,λ_ _=>rfl,Ah _,h0⟩,?_⟩
 rintro i m σ ys H ⟨rfl,hi,hτ,hy,pv⟩
 obtain ⟨q,qt⟩:=hl i ys H hi pv
 have ln:(ts.map λt:Addr×V×V=>V.ref t.1).length=ts.length:=Ac _
 by_cases hlt:i<ts.length
 ·have et:ts[i]? = some ts[i]:=Aw hlt
  have em:(ts.map λt:Addr×V×V=>V.ref t.1)[i]? = some (.ref ts[i].1):=by rw[AO,et];rfl
  refine .inr ⟨⟨_,_,q,em⟩,λx H' y =>?_⟩
  obtain ⟨e,y⟩:=y
  subst e
  have ex:=y _ q
  rw[em] at ex
  cases ex
  have st:=qt ts[i] (CJ hlt)
  refine ⟨ts[i].1,_,rfl,st,rfl,_,_,rfl,_,_,rfl,rfl,?_⟩
  rw[hτ]
  have hσ:∀a b,((((τ.set k (some ts[i].2.1)).set l (some ts[i].2.2)).set k (some a)).set l (some b))=(τ.set k (some a)).set l (some b):=λa b=>by
   rw[List.set_comm _ _ (Ca hkl),Ey,Ey]
  refine hs i ts[i] ys _ et hy pv _ _ (λy4 H4 p4=>⟨by omega,ts.length-(i+1),by omega,rfl,hlt,hσ,by rw[Am,Bw];omega,p4⟩) λH3 p3=>⟨ts.length-(i+1),by omega,rfl,hlt,hσ,by omega,p3⟩
 ·have e:i=ts.length:=by omega
  subst e
  exact .inl ⟨⟨_,q,by rw[ln];exact Ah _⟩,by omega,hd ys H hy pv⟩
open PySem PySem.Spec PyProof.Rows
section
variable  {X:Cx}
theorem qf (hu:X.A.units+8<cLine):OpR X (Bo .NotIn) (λx y H Q=>∃(p b:Addr) (ts:List (Addr×List Int)) (m:List Int),x = .ref b/\y = .ref p/\H p=some (.tup (ts.map λt =>.ref t.1))/\(∀t∈ts,H t.1=some (.tup (t.2.map V.int)))/\H b=some (.tup (m.map V.int))/\Q (.bl (!decide (m∈ts.map (·.2)))) H):=by
 intro pins s σ H x y v u Q I rx ry h
 obtain ⟨p,b,ts,m,rfl,rfl,hp,ht,hb,q⟩:=h
 cases rx
 cases ry
 have ht':∀t∈ts,SqT X.K H t.1 (t.2.map V.int):=λt hm=>SqT.of (ht t hm)
 obtain ⟨its,r,pl,hz⟩:=I.tuple (SqT.of (K:=X.K) hp)
 have ei:=cA r
 refine FZ (bW ts m) pl (λy hy =>?_) ⟨.bl _,H,I,rfl,?_⟩
 ·have hy':y∈its:=by simpa using hy
  rw[ei] at hy'
  obtain ⟨t,hm,rfl⟩:=AG.mp hy'
  rw[cC I ht' hm]
  exact I.eqT (by show X.A.units+1<cLine;omega) (ht' t hm) (SqT.of hb)
 ·rw[show its.toArray.any (bW ts m)=its.any (bW ts m) by simp,ei,ij I ht' ts (λt h=>h)]
  exact q
end
open PySem PySem.Spec PyProof.Rows
section
variable  {X:Cx}
theorem boolsOf:∀{bs:List Bool} {its:List Ae},Vals (bs.map V.bl) its->its=bs.map Value.bool
 | [],_,.nil=>rfl
 | b :: bs,_,.cons r t=>by rw[boolsOf t];cases (show _=Value.bool b from r);rfl
theorem tI:MtR X "list.count" (λx vs H Q=>∃(p:Addr) (bs:List Bool) (k:Bool),x = .ref p/\vs=[.bl k]/\H p=some (.lst (bs.map V.bl))/\Q (.int (bs.count k:Nat)) H):=by
 intro pins s σ H x vs v us Q I rx rv h
 obtain ⟨p,bs,k,rfl,rfl,hp,q⟩:=h
 cases rx
 obtain ⟨u,rfl,ru⟩:=vals1 rv
 cases (show u=Value.bool k from ru)
 obtain ⟨z,its,n,r,e1⟩:=(show bj X.prog X.w H s.heap p (.lst _) from I.hok p _ hp)
 have ei:=boolsOf r
 subst ei
 refine GX Fc ⟨_,e1,rfl⟩ PySem.F.entry_list_count (PySem.F.args_list_count_2 _ _) (SeqAt.list_countAt p _ n _ _ (.bool k) (isBoolOf k)) ⟨e1,λy hy =>?_,?_⟩
 ·have hy':y∈bs.map Value.bool:=by simpa using hy
  obtain ⟨b,_,rfl⟩:=AG.mp hy'
  exact FR b k
 ·have:(bs.map Value.bool).toArray.toList.countP (isBoolOf k)=bs.count k:=by
   rw[show (bs.map Value.bool).toArray.toList=bs.map Value.bool from rfl,List.countP_map]
   rfl
  rw[this]
  exact ⟨.int _,H,I.tok _,⟨_,rfl⟩,q⟩
end
open PySem PySem.Spec PyProof.Rows
section
variable  {X:Cx}
theorem og {K:Ab}(hu:X.A.units+8<cLine)(hK:X.K=K:=by rfl):OpR X (Bo .NotEq) (λx y H Q=>∃(a b:Addr) (ns ms:List Int),x = .ref a/\y = .ref b/\SqT K H a (ns.map V.int)/\SqT K H b (ms.map V.int)/\Q (.bl (!decide (ns=ms))) H):=by
 subst hK
 intro pins s σ H x y v u Q I rx ry h
 obtain ⟨a,b,ns,ms,rfl,rfl,h1,h2,q⟩:=h
 cases (show v=As a from rx)
 cases (show u=As b from ry)
 obtain ⟨its,r1,p1,_⟩:=I.tuple h1
 obtain ⟨its2,r2,p2,_⟩:=I.tuple h2
 have l1:=r1.length
 have l2:=r2.length
 rw[Ac] at l1 l2
 have hu1:X.A.units<cLine:=by omega
 have R:=En (A:=X.A) (e:=lQ ns ms) (show s.heap.IsTuple a its.toArray from p1) (show s.heap.IsTuple b its2.toArray from p2) hu1 (by
  intro j h1 h2
  obtain ⟨t1,g1⟩:=iS r1 h1
  obtain ⟨t2,g2⟩:=iS r2 h2
  rw[g1,g2]
  exact C9 _ t1 _ t2)
 rw[Aj,Aj, <- l1, <- l2,iR] at R
 exact R _ _ _ _ ⟨.bl _,H,I,rfl,q⟩
end
end L2
namespace Srt
open PySem PyProof.Rows
section
variable  {prog:Au}{w:AX}{A:A7}{E:Ae->Ag->Prop}{s:Ag}{O:Ee}{key:Ae->O.α}
end
section
variable  {prog:Au}{w:AX}{s:Ag}
end
end Srt
namespace L2
open PySem PySem.Spec PyProof.Rows
section
variable  {X:Cx}
theorem jj {K:Ab}(h:X.K=K:=by rfl):b8 X (.type "tuple") (λxs H Q=>∃p ys,xs=[.ref p]/\((SqL K H p ys/\∀l,H l=none->Q (.ref l) (upd H l (.tup ys)))\/(SqT K H p ys/\Q (.ref p) H))):=by
 subst h;exact az
end
end L2
namespace Kys
open PySem PyProof.Rows
section
variable  {prog:Au}{w:AX}{A:A7}{E:Ae->Ag->Prop}{s:Ag}
def PD (h:Heap)(d:Addr)(es:Array DictEntry)(ep:Nat):Prop:=∃o,h.get? d=some o/\o.ExactDict/\o.data = .dict es ep
def kObj (d:Addr)(i n ep:Nat):Obj:={ cls :=.type "dict_keyiterator",data :=.fields #[.ref d,.int i 0,.int n 0,.int ep 0] }
theorem PD.ty {d:Addr}{es:Array DictEntry}{ep:Nat}(x:PD s.heap d es ep):s.TypeIs (.ref d) "dict" := let ⟨o,e,c,_⟩:=x;⟨o,e,c.1⟩
theorem yR {d:Addr}{es:Array DictEntry}{ep:Nat}{Q:Ae->Ag->Prop}(hs:(d == sysModules)=false)(hd:PD s.heap d es ep)
  (hQ:Q (.ref s.heap.objs.size) { s with heap:=s.heap.push (kObj d 0 es.size ep) }):AL (AQ prog w) A (Builtin.«dict.__iter__» ⟨[.ref d],[]⟩) (λfin s'=>∃v,fin = .done (.ret v)/\Q v s') E s:=by
 obtain ⟨⟨oc,odd,odt,os'⟩,hod,⟨hc,_⟩,hdd⟩:=hd
 dsimp only at hdd hc
 subst hdd hc
 unfold Builtin.«dict.__iter__»
 wp_walk
 exact ⟨_,rfl,hQ⟩
theorem nextOne {it d:Addr}{es:Array DictEntry}{ep i:Nat}{e:DictEntry}{Q:Ae->Ag->Prop}(hi:s.heap.get? it=some (kObj d i es.size ep))(hd:PD s.heap d es ep)(he:es[i]? = some e)
  (hQ:∀h',h'.get? it=some (kObj d (i+1) es.size ep)->Heap.SameBut it s.heap h'->Q e.key { s with heap:=h' }):AL (AQ prog w) A (Builtin.«dict_keyiterator.__next__» ⟨[.ref it],[]⟩) (λfin s'=>∃v,fin = .done (.ret v)/\Q v s') E s:=by
 obtain ⟨⟨oc,odd,odt,os'⟩,hod,⟨hc,_⟩,hdd⟩:=hd
 dsimp only at hdd hc
 subst hdd hc
 unfold kObj at hi
 unfold Builtin.«dict_keyiterator.__next__»
 wp_walk
 rw[show (if (i:Int)<0 then none else es[(i:Int).toNat]?)=some e by rw[if_neg (by omega),Bb];exact he]
 wp_walk
 exact ⟨_,rfl,hQ _ ((Bj _ hi (by first | rfl | kernel_rfl)).trans (by unfold kObj;kernel_rfl)) (Dz ..)⟩
theorem wQ {it d:Addr}{es:Array DictEntry}{ep i:Nat}{Q:Fin->Ag->Prop}(hh:A.handled=none)(hi:s.heap.get? it=some (kObj d i es.size ep))(hd:PD s.heap d es ep)(hl:es.size<=i)
  (hE:∀(h':Heap) (x:Addr),(∀c o,c≠it->s.heap.get? c=some o->h'.get? c=some o)->(∃o,h'.get? x=some o/\o.cls = .type "StopIteration")->E (.ref x) { s with heap:=h' }):AL (AQ prog w) A (Builtin.«dict_keyiterator.__next__» ⟨[.ref it],[]⟩) Q E s:=by
 obtain ⟨⟨oc,odd,odt,os'⟩,hod,⟨hc,_⟩,hdd⟩:=hd
 dsimp only at hdd hc
 subst hdd hc
 unfold kObj at hi
 unfold Builtin.«dict_keyiterator.__next__»
 wp_walk
 rw[show (if (i:Int)<0 then none else es[(i:Int).toNat]?)=none by rw[if_neg (by omega),Bb];exact CG hl]
 wp_walk
 refine Gi hh (hE _ _ (λc o n e =>?_) ⟨_,Av _ rfl,rfl⟩)
 exact Ad _ (Ad _ ((Bl _ _ (Ca n)).trans e))
def KAt (h:Heap)(it d:Addr)(i n ep:Nat):Prop:=h.get? it=some (kObj d i n ep)
theorem KAt.ty {it d:Addr}{i n ep:Nat}(x:KAt s.heap it d i n ep):s.TypeIs (.ref it) "dict_keyiterator" :=⟨_,x,rfl⟩
theorem wR {d:Addr}{es:Array DictEntry}{ep:Nat}{Q:Ae->Ag->Prop}(hs:(d == sysModules)=false)(hd:PD s.heap d es ep)
  (hQ:Q (.ref s.heap.objs.size) { s with heap:=s.heap.push (kObj d 0 es.size ep) }):AL (AQ prog w) A (pyIter (.ref d)) Q E s :=
 DU hd.ty Fw (BC Fw hd.ty PySem.F.entry_dict_iter (yR hs hd ⟨"dict_keyiterator",_,⟨_,Av _ rfl,rfl⟩,BD.lookup,hQ⟩) (PySem.F.args_dict_iter_1 _))
theorem rf {it d:Addr}{es:Array DictEntry}{ep i:Nat}{e:DictEntry}{Q:Option Ae->Ag->Prop}(hi:KAt s.heap it d i es.size ep)(hd:PD s.heap d es ep)(he:es[i]? = some e)
  (hQ:∀h',KAt h' it d (i+1) es.size ep->Heap.SameBut it s.heap h'->Q (some e.key) { s with heap:=h' }):AL (AQ prog w) A (pyNext (.ref it)) Q E s:=by
 unfold pyNext
 exact Af (Eh (B5 (name:=Str.ofString "__next__") hi.ty BD (BC BD hi.ty DC (nextOne hi hd he λh' k b=>An (hQ h' k b)) (Dv _))))
theorem ve {it d:Addr}{es:Array DictEntry}{ep i:Nat}{Q:Option Ae->Ag->Prop}(hh:A.handled=none)(hi:KAt s.heap it d i es.size ep)(hd:PD s.heap d es ep)(hl:es.size<=i)
  (hQ:∀h':Heap,(∀c o,c≠it->s.heap.get? c=some o->h'.get? c=some o)->Q none { s with heap:=h' }):AL (AQ prog w) A (pyNext (.ref it)) Q E s:=by
 unfold pyNext
 refine Af (Eh (B5 (name:=Str.ofString "__next__") hi.ty BD (BC BD hi.ty DC (wQ (by first | exact hh | (rw[<- hh];rfl)) hi hd hl λh' x k ⟨o,ex,ec⟩ =>?_) (Dv _))))
 exact Af (D8 (T := "StopIteration") (b:=true) ⟨o,ex,ec⟩ FY (An (hQ h' k)))
end
open PySem PyProof.Rows
section
variable  {prog:Au}{w:AX}{A:A7}{E:Ae->Ag->Prop}{s:Ag}
def lo (acc:Array Ae)(c:Nat):Obj:={ cls :=.type "list",data :=.seq acc c }
theorem PD.keeps {h h':Heap}{d:Addr}{es:Array DictEntry}{ep:Nat}(x:PD h d es ep)(k:∀o,h.get? d=some o->h'.get? d=some o):PD h' d es ep:=let ⟨o,e,r⟩:=x;⟨o,k o e,r⟩
theorem fill {S I d:Addr}{es:Array DictEntry}{ep:Nat}{R:Result->Ag->Prop}(hh:A.handled=none)(hSI:S≠I)(hdS:d≠S)(hdI:d≠I)(hn:es.size<=Ai)(res:Ae) :
  ∀(k i:Nat) (s:Ag) (ks:List Ae) (c:Nat),es.size-i=k->i<=es.size->KAt s.heap I d i es.size ep->PD s.heap d es ep->s.heap.get? S=some (lo ks.toArray c)->ks=(es.toList.take i).map (·.key) →
  (∀(h':Heap) (c':Nat),(∀b o,b≠S->b≠I->s.heap.get? b=some o->h'.get? b=some o)->h'.get? S=some (lo (es.toList.map (·.key)).toArray c')->R (.ok (.ret res)) { s with heap:=h' }) →
  EN (AQ prog w) A (.builtin "list.extend.loop" ⟨[.ref S,.ref I,res],[]⟩) R s:=by
 intro k
 induction k with
 | zero =>
  intro i s ks c hk hi hI hD hS hl hR
  have e:i=es.size:=by omega
  subst e
  refine Bv EK ?_
  rw[BJ Dw _]
  unfold Builtin.«list.extend.loop»
  dsimp only
  refine Af (ve (by first | exact hh | (rw[<- hh];rfl)) hI hD (Ah _) λh' k' =>?_)
  refine An (hR h' c (λb o _ n e=>k' b o n e) ?_)
  rw[k' _ _ hSI hS,hl,AA (by rw[Ak];exact Ah _)]
 | succ k ih =>
  intro i s ks c hk hi hI hD hS hl hR
  obtain ⟨e,he⟩:∃e,es[i]? = some e:=⟨es[i]'(by omega),AN (by omega)⟩
  have lk:ks.length=i:=by rw[hl,Ac,Bg,Ak];omega
  refine Bv EK ?_
  rw[BJ Dw _]
  unfold Builtin.«list.extend.loop»
  dsimp only
  refine Af (rf hI hD he λh' I' sb =>?_)
  have k':∀b o,b≠I->s.heap.get? b=some o->h'.get? b=some o:=λb o n e=>(sb.2 b n).trans e
  have hS':=k' _ _ hSI hS
  refine Af (Fg (xs:=ks.toArray) (n:=c) hS' rfl ?_ ?_ ?_)
  ·have hS2:=Bj (Ce (·.push e.key)) hS' rfl
   have oth:∀b o,b≠S->h'.get? b=some o->(h'.update S (Ce (·.push e.key))).get? b=some o:=λb o n e=>(Bl _ _ (Ca n)).trans e
   obtain ⟨c',ec⟩:∃c',(h'.update S (Ce (·.push e.key))).get? S=some (lo (ks++[e.key]).toArray c'):=by
    rw[show (ks++[e.key]).toArray=ks.toArray.push e.key by simp]
    exact ⟨_,hS2⟩
   refine An ⟨Ds Dw _,ih (i+1) _ (ks++[e.key]) c' (by omega) (by omega) (oth _ _ (Ca hSI) I') (hD.keeps λo e=>oth _ _ hdS (k' _ _ hdI e)) ec ?_ λh2 c2 k2 e2=>hR h2 c2 (λb o n1 n2 eb=>k2 b o n1 n2 (oth b o n1 (k' b o n2 eb))) e2⟩
   rw[hl,Bc,Aq,he,Ap];rfl
  ·rw[Aj];omega
  ·show (ks.toArray.push _).size<=_
   rw[CB,Aj];omega
end
end Kys
namespace L2
open PySem PySem.Spec PyProof.Rows Srt
section
variable  {X:Cx}
theorem rh {H:Hp}:∀{ks:List (List Int)} {kvs:List (List Key×V)} {xs:List (List Key×Addr×Ae)},KT H kvs xs->kvs.map (·.1)=ks.map (·.map Sum.inl)->∃ts:List (Addr×List Int),ts.map (·.2)=ks/\xs.map (λq=>As q.2.1)=ts.map (λt=>As t.1)/\∀t∈ts,H t.1=some (.tup (t.2.map V.int))
 | [],_,_,.nil,_=>⟨[],rfl,rfl,λt h=>nomatch h⟩
 | [],_,_,.cons _ _,e=>by cases e
 | k :: ks,_,_,.nil,e=>by cases e
 | k :: ks,kv :: kvs,x :: xs,.cons h t,e=>by
  rw[AV,AV] at e
  injection e with e1 e2
  obtain ⟨ts,a,b,c⟩:=rh t e2
  refine ⟨(x.2.1,k) :: ts,by rw[AV,a],by rw[AV,AV,b],λu hu =>?_⟩
  rcases AH.mp hu with z | z
  ·rw[z]
   have:=h.2.1
   rw[e1,FH] at this
   exact this
  ·exact c u z
end
open PySem PySem.Spec PyProof.Rows
section
variable  {X:Cx}
end
theorem yS {X:Cx}{k:Nat}(hr:bU k X.A):OpR X (Bo .NotEq) (λx y H Q=>∃(a b:Addr) (xs:List V),x = .ref a/\y = .ref b/\H a=some (.lst xs)/\H b=some (.lst [])/\(xs=[]->Q (.bl false) H)/\(xs≠[]->Q (.bl true) H)):=by
 intro pins s σ H x y v u Q I rx ry h
 obtain ⟨a,b,xs,rfl,rfl,h1,h2,q0,q1⟩:=h
 cases (show v=As a from rx)
 cases (show u=As b from ry)
 obtain ⟨i1,r1,p1,_⟩:=I.list (SqL.of (K:=X.K) h1)
 obtain ⟨i2,r2,p2,_⟩:=I.list (SqL.of (K:=X.K) h2)
 have l1:=r1.length
 have l2:=r2.length
 rw[Dj] at l2
 have hu:=hr.un
 have hu1:X.A.units<cLine:=by omega
 by_cases c:xs=[]
 ·subst c
  rw[Dj] at l1
  have R:=GC (A:=X.A) (e:=λ_=>true) p1.isList p2.isList (by rw[Aj,Aj];omega) hu1 (λj g1 _=>by rw[Aj] at g1;omega)
  rw[Aj, <- l1] at R
  exact R _ _ _ _ ⟨.bl false,H,I,rfl,q0 rfl⟩
 ·have:=F4.mpr c
  exact SeqAt.RcNeAt.lists_lengths (A:=X.A) p1.isList p2.isList (by simp;omega) hu1 _ _ _ _ ⟨.bl true,H,I,rfl,q1 c⟩
open PySem PySem.Spec PySem.W PyProof.Rows
theorem bj.ex {P:Au}{w:AX}{H:Hp}{h:Heap}{a:Addr}{o:HO}(x:bj P w H h a o):∃u,h.get? a=some u:=by
 cases o with
 | lst xs=>obtain ⟨_,_,_,_,e⟩:=x;exact ⟨_,e⟩
 | tup xs=>obtain ⟨_,_,_,_,e,_⟩:=x;exact ⟨_,e⟩
 | dK kvs=>obtain ⟨_,_,_,_,o,_,_,e,_⟩:=x;exact ⟨_,e⟩
 | dT kvs=>obtain ⟨_,_,_,_,o,_,_,e,_⟩:=x;exact ⟨_,e⟩
 | set S n=>obtain ⟨o,_,_,_,e,_⟩:=x;exact ⟨_,e⟩
 | ins C dx fs=>obtain ⟨_,_,_,e,_⟩:=x;exact ⟨_,e⟩
 | own y=>obtain ⟨_,e⟩:=x;exact ⟨_,e⟩
 | xd fs=>obtain ⟨_,⟨_,_,_,e,_⟩,_⟩:=x;exact ⟨_,e⟩
 | rng lo hi=>obtain ⟨_,_,_,e⟩:=x;exact ⟨_,e⟩
 | frz ob u=>obtain ⟨e,_⟩:=x;exact ⟨_,e⟩
 | tbl ps=>exact ⟨_,show h.get? a=some _ from x⟩
 | met f y=>exact ⟨_,show h.get? a=some _ from x⟩
 | ext φ=>obtain ⟨_,⟨_,e⟩,_⟩:=x;exact ⟨_,e⟩
theorem HOk.noth {P:Au}{w:AX}{H:Hp}{h:Heap}{a:Addr}(x:HOk P w H h)(e:h.get? a=none):H a=none:=by
 cases q:H a with
 | none=>rfl
 | some o =>
  obtain ⟨u,z⟩:=(x a o q).ex
  rw[e] at z;cases z
theorem HOk.hide {P:Au}{w:AX}{H:Hp}{h:Heap}{l:List Addr}(x:HOk P w H h)(n:∀b∈l,H b=none):HOk P w H (hideAll h l):=λa o e =>
 (x a o e).cx (λb u hb q=>Dm _ q λm=>by
  have z:=n b m
  rcases hb with rfl | hb
  ·rw[e] at z;cases z
  ·rw[hb] at z;cases z) (λ_ q=>q) λ_ _ q=>q
structure Fly (P:Au)(w:AX)(outer:List Env)(H H':Hp)(h:Heap)(B:Heap)(ea:Addr)(cls a0:Ae)(h':Heap):Prop where
 fl:Heap.FlyingW B outer ea cls a0 h'
 un:Un (frs outer) [] H H' h h'
 ok:HOk P w H' B
 cov:∀b o,h.get? b=some o->H b=none->b∉frs outer->B.get? b=some o
 all:∀b o,h.get? b=some o->b∉frs outer->∃u,B.get? b=some u
section
variable  {P:Au}{w:AX}{outer:List Env}{H H':Hp}{h B h' h2:Heap}{ea:Addr}{cls a0:Ae}
theorem Fly.no (F:Fly P w outer H H' h B ea cls a0 h'):H' ea=none:=F.ok.noth F.fl.2.1
theorem Fly.hok (F:Fly P w outer H H' h B ea cls a0 h'):HOk P w H' h':=F.ok.kept F.fl.1
theorem Fly.new (F:Fly P w outer H H' h B ea cls a0 h'):h.get? ea=none:=by
 cases q:h.get? ea with
 | none=>rfl
 | some o =>
  by_cases m:ea∈frs outer
  ·obtain ⟨_,o',ho',hd⟩:=F.fl.2.2.1.mem m
   obtain ⟨oe,vs,he,_,hde,_⟩:=F.fl.first
   rw[he] at ho';cases ho'
   exact absurd hde (hd vs)
  ·obtain ⟨u,z⟩:=F.all ea o q m
   rw[F.fl.2.1] at z;cases z
theorem Fly.step {l:List Env}(F:Fly P w outer H H' h B ea cls a0 h')(f2:Heap.FlyingW B l ea cls a0 h2)(hs:∀b∈frs outer,∀o,h'.get? b=some o->∃sl,h2.get? b=some { o with slots:=sl }):Un (frs outer) [] H H' h h2 where
 keep:=λb o q n m _=>f2.1 _ _ (F.cov b o q n m)
 slot:=λb o q n m x=>by
  obtain ⟨sl,e⟩:=F.un.slot b o q n m x
  obtain ⟨sl',e'⟩:=hs b m _ e
  exact ⟨sl',e'⟩
 free:=F.un.free
 there:=λb o q x=>by
  by_cases m:b∈frs outer
  ·obtain ⟨o',e⟩:=F.un.there b o q x
   obtain ⟨sl',e'⟩:=hs b m _ e
   exact ⟨_,e'⟩
  ·obtain ⟨u,e⟩:=F.all b o q m
   exact ⟨u,f2.1 _ _ e⟩
 tups:=F.un.tups
 frzs:=F.un.frzs
 tbls:=F.un.tbls
theorem Fly.slots (F:Fly P w outer H H' h B ea cls a0 h')(k:h'.UpToSlots h2):∀b∈frs outer,∀o,h'.get? b=some o->∃sl,h2.get? b=some { o with slots:=sl }:=λb m o e=>by
 obtain ⟨_,o',ho',hd⟩:=F.fl.2.2.1.mem m
 rw[e] at ho';cases ho'
 exact k b o e hd
theorem Fly.on (F:Fly P w outer H H' h B ea cls a0 h')(f2:Heap.FlyingW B outer ea cls a0 h2)(k:h'.UpToSlots h2):Fly P w outer H H' h B ea cls a0 h2 :=
 ⟨f2,F.step f2 (F.slots k),F.ok,F.cov,F.all⟩
end
section
variable  {X:Cx}{pins:List (Addr×Obj)}{σ:St}{H H':Hp}{s:Ag}{B h':Heap}{ea:Addr}{cls a0:Ae}
theorem Inv.land {s':Ag}(I:Inv X pins σ H s)(os:s'.os=s.os)(g:AllBare s'.gens)(F:Fly X.prog X.w X.stack H H' s.heap B ea cls a0 s'.heap):Inv X pins σ H' s' :=
 I.xG os F.un F.hok g (λb z=>absurd z (by simp))
theorem Fly.out (I:Inv X pins σ H s)(hst:X.stack=X.env :: X.outer)(hfr:X.env.frame=some X.env.locals)(hex:X.ex=[])(F:Fly X.prog X.w X.stack H H' s.heap B ea cls a0 h')(f2:Heap.FlyingW B X.outer ea cls a0 h2)(k:h'.UpToSlots h2) :
  Fly X.prog X.w X.outer X.H₀ H' X.s₀.heap B ea cls a0 h2:=by
 have nL:∀b o,X.s₀.heap.get? b=some o->b≠X.env.locals:=λb o q z=>absurd (Ay (Ar q) (z ▸ I.ok.above)) (Bn _)
 have nst:∀b,b∉X.fs->b≠X.env.locals->b∉frs X.stack:=λb n1 n2 m=>by
  rw[hst] at m
  unfold frs at m
  rw[BM,hfr] at m
  rcases AH.mp m with z | z
  ·exact n2 z
  ·exact n1 z
 have ust:=F.step f2 (F.slots k)
 have sub:∀b∈X.fs,b∈frs X.stack:=λb m=>by
  rw[hst];unfold frs;rw[BM,hfr];exact AM _ m
 have nx:∀b,b∉X.ex:=λb m=>by rw[hex] at m;cases m
 refine ⟨f2,⟨λb o q n m _ =>?_,λb o q n m _ =>?_,λb o q n _ =>?_,λb o q _ =>?_,λb xs q=>F.un.tups b xs (I.base.tups b xs q),λb o u q=>F.un.frzs b o u (I.base.frzs b o u q),λb ps q =>?_⟩,F.ok,λb o q n m =>?_,λb o q m =>?_⟩
 ·exact ust.keep b o (I.base.keep b o q n m (nx b)) (I.base.free b o q n (nx b)) (nst b m (nL b o q)) (by simp)
 ·obtain ⟨sl,e⟩:=I.base.slot b o q n m (nx b)
  obtain ⟨sl',e'⟩:=ust.slot b _ e (I.base.free b o q n (nx b)) (sub b m) (by simp)
  exact ⟨sl',e'⟩
 ·obtain ⟨o',e⟩:=I.base.there b o q (nx b)
  exact F.un.free b o' e (I.base.free b o q n (nx b)) (by simp)
 ·obtain ⟨o',e⟩:=I.base.there b o q (nx b)
  exact ust.there b o' e (by simp)
 ·obtain ⟨m1,e1⟩:=I.base.tbls b ps q
  obtain ⟨m2,e2⟩:=F.un.tbls b _ e1
  exact ⟨m1++m2,by rw[e2,Ew]⟩
 ·exact F.cov b o (I.base.keep b o q n m (nx b)) (I.base.free b o q n (nx b)) (nst b m (nL b o q))
 ·obtain ⟨o',e⟩:=I.base.there b o q (nx b)
  exact F.all b o' e (nst b m (nL b o q))
theorem Fly.pass {M:Model}{E:Ae->Ag->Prop}{Q:Unit->Ag->Prop}{s':Ag}(I:Inv X pins σ H s)(hst:X.stack=X.env :: X.outer)(hfr:X.env.frame=some X.env.locals)(hex:X.ex=[])
  (F:Fly X.prog X.w X.stack H H' s.heap B ea cls a0 s'.heap) (hQ:∀h2,Fly X.prog X.w X.outer X.H₀ H' X.s₀.heap B ea cls a0 h2->Q () { s' with heap:=h2 }):AL M X.A (leaving X.env (.ref ea)) Q E s':=by
 have fl:=F.fl
 rw[hst] at fl
 exact wpAny_leaves_onW (by rw[I.ok.frames,hst]) hfr fl λh2 f2 k=>hQ h2 (Fly.out I hst hfr hex F f2 k)
theorem Fly.made {M:Model}{E:Ae->Ag->Prop}{Q:Unit->Ag->Prop}{s':Ag}{vs:List Ae}(I:Inv X pins σ H s)(hst:X.stack=X.env :: X.outer)(hfr:X.env.frame=some X.env.locals)(hex:X.ex=[])
  (hx:Heap.MadeExcOf s.heap s'.heap ea cls vs) (hQ:∀h2 B a0,Fly X.prog X.w X.outer X.H₀ H X.s₀.heap B ea cls a0 h2->Q () { s' with heap:=h2 }):AL M X.A (leaving X.env (.ref ea)) Q E s':=by
 have ff:=I.stack
 have hin:∀env∈X.stack,∀b,env.frame=some b->b∈frs X.stack:=λenv he b hb=>C8.mpr ⟨env,he,hb⟩
 have ff':=funFrames_hide ff hin
 have fh:∀b∈frs X.stack,H b=none:=I.jq
 have F0:∀h2 t,Heap.FlyingW (hideAll s.heap (frs X.stack)) X.outer ea cls (.ref t) h2->s'.heap.UpToSlots h2->Fly X.prog X.w X.outer X.H₀ H X.s₀.heap (hideAll s.heap (frs X.stack)) ea cls (.ref t) h2:=λh2 t f2 k=>by
  have nL:∀b o,X.s₀.heap.get? b=some o->b≠X.env.locals:=λb o q z=>absurd (Ay (Ar q) (z ▸ I.ok.above)) (Bn _)
  have nst:∀b,b∉X.fs->b≠X.env.locals->b∉frs X.stack:=λb n1 n2 m=>by
   rw[hst] at m
   unfold frs at m
   rw[BM,hfr] at m
   rcases AH.mp m with z | z
   ·exact n2 z
   ·exact n1 z
  have sub:∀b∈X.fs,b∈frs X.stack:=λb m=>by
   rw[hst];unfold frs;rw[BM,hfr];exact AM _ m
  have nx:∀b,b∉X.ex:=λb m=>by rw[hex] at m;cases m
  have sl:∀b∈frs X.stack,∀o,s.heap.get? b=some o->∃sl,h2.get? b=some { o with slots:=sl }:=λb m o e=>by
   obtain ⟨_,o',ho',hd⟩:=ff.mem m
   rw[e] at ho';cases ho'
   exact k b o (hx.keeps _ _ e) hd
  refine ⟨f2,⟨λb o q n m _ =>?_,λb o q n m _ =>?_,λb o q n _=>I.base.free b o q n (nx b),λb o q _ =>?_,I.base.tups,I.base.frzs,I.base.tbls⟩,I.hok.hide fh,λb o q n m =>?_,λb o q m =>?_⟩
  ·exact f2.1 _ _ (Dm _ (I.base.keep b o q n m (nx b)) (nst b m (nL b o q)))
  ·obtain ⟨s1,e⟩:=I.base.slot b o q n m (nx b)
   obtain ⟨s2,e'⟩:=sl b (sub b m) _ e
   exact ⟨s2,e'⟩
  ·obtain ⟨o',e⟩:=I.base.there b o q (nx b)
   by_cases m:b∈frs X.stack
   ·obtain ⟨s2,e'⟩:=sl b m _ e
    exact ⟨_,e'⟩
   ·exact ⟨o',f2.1 _ _ (Dm _ e m)⟩
  ·exact Dm _ (I.base.keep b o q n m (nx b)) (nst b m (nL b o q))
  ·obtain ⟨o',e⟩:=I.base.there b o q (nx b)
   exact ⟨o',Dm _ e (nst b m (nL b o q))⟩
 rw[hst] at ff'
 refine wpAny_leaves_madeW (base:=hideAll s.heap (frs (X.env :: X.outer))) (by rw[I.ok.frames,hst]) hfr (λb o q=>of_hideAll _ q) ff' hx λh2 t f2 _ _ k =>?_
 rw[<- hst] at f2
 exact hQ h2 _ _ (F0 h2 t f2 k)
end
open PySem PySem.Spec PySem.W PyProof.Rows
section
variable  {P:Au}{w:AX}{K:Ab}{mg:Str->Option Ae}{base:Heap}{N:List Str}{qual:Str}{sc:Scope}{f:Addr}{cdv:Ae}{A:A7}{outer:List Env}{s₀:Ag}{H₀:Hp}{E:XK}
def zU (X:Cx)(E:XK):Prop:=∀(pins:List (Addr×Obj)) (σ:St) (H:Hp) (s:Ag) (h':Heap) (ea:Addr) (cls:Ae) (vs:List Ae),Inv X pins σ H s->Heap.MadeExcOf s.heap h' ea cls vs->E cls none H->X.xe (.ref ea) { s with heap:=h' }
end
abbrev fG:List Ae:=[.type "ValueError",.type "Exception",.type "BaseException",.type "object"]
structure ExC (K:Ab)(mg:Str->Option Ae)(x:Str)(C:Addr):Prop where
 ex:excIn K C fG "ValueError.__new__" = true
 mg:mg x=some (.ref C)
theorem yT {K:Ab}{h:Heap}{C:Addr}{bs:List Ae}{nid:String}(X:K.In h)(q:excIn K C bs nid=true) :
  ∃bm N nm q bs' hd sn sub ab col dd k0 k1 k2 k3 k5 mN,h.get? C=some (excClassObj nm q C N bs' bm hd sn sub ab col dd k0 k1 k2 k3 k5 nid)/\h.Ns N mN/\mN "__init__" = none/\OwnTail h bs bm:=by
 unfold excIn at q
 split at q
 ·rename_i d1 c1 sl1 l1
  split at q
  ·rename_i C1 b1 j0 j1 j2 j3 n1 j5 m1 s1
   simp only[Bh,beq_iff_eq,GU] at q
   obtain ⟨⟨⟨⟨⟨rfl,rfl⟩,q1⟩,q2⟩,q3⟩,q4⟩:=q
   obtain ⟨a1,a2,a3,a4,a5,a6,a7,a8,a9,a10,a11⟩:=c1
   dsimp only at m1 q1 q3 q4
   subst m1 q1
   obtain ⟨ll⟩:=sl1
   simp only at s1
   subst s1
   exact ⟨b1,a4,a1,a5,a2,a6,a7,a8,a9,a10,d1,j0,j1,j2,j3,j5,_,X _ _ l1,.of_isNs (isNs_of_in X q3),nsMap_none_of_in X q3 q4,GY X q2⟩
  ·cases q
 ·cases q
def yU (E:XK)(cls:Ae)(t:TA):TS:=λ_ σ H=>t σ H λvs H1=>vs.length<=Ai/\E cls none H1
theorem oh {X:Cx}{E:XK}{C:Addr}{x:Str}{e:Expr}{es:List Expr}{t:TA}{np cpos pos:Pos}(O:zU X E)(hc:ExC X.K X.mg x C)(hh:X.A.handled=none)(hg:Gl X x)(ha:PA X (e :: es) t)
  (hdb:(x == ("__debug__" : Str))=false:=by decide) (he:Bf (e :: es) X.env=(false,eval e X.env) :: Bf es X.env:=by rfl) (hpl:(DP cpos (Bf es X.env)).any (·.1)=false:=by rfl) :
  PS X (.Raise (some (.Call (.Name x np) (e :: es) [] cpos)) none pos) (yU E (.ref C) t):=by
 intro pins s σ H D I h
 obtain ⟨bm,N,nm,q,bs',hd,sn,sub,ab,col,dd,k0,k1,k2,k3,k5,mN,hC,hN,hni,T⟩:=yT I.mod.kin hc.ex
 have hpl':(DP cpos (Bf (e :: es) X.env)).any (·.1)=false:=by
  rw[he]
  show (false || (DP cpos (Bf es X.env)).any (·.1))=false
  rw[hpl];rfl
 refine wpAny_Raise_call_subT (nm:=nm) (q:=q) (N:=N) (bs:=bs') (bm:=bm) (hdct:=hd) (sn:=sn) (sub:=sub) (ab:=ab) (col:=col) (dd:=dd) (k0:=k0) (k1:=k1) (k2:=k2) (k3:=k3) (k5:=k5) (mN:=mN)
  BV (T.hasType BV.hasBase) hh hpl' hni (eJ I hg hc.mg ⟨rfl,?_⟩ hdb)
 have hs:=ha cpos pins s σ H _ I h
 rw[he] at hs ⊢
 refine Ec (Bt hs (λus s2 ⟨vs,H1,I1,r,z,qE⟩=>⟨rfl,by rw[<- r.length];exact z,I1.bk _ _ hC,hN.keeps I1.bk,T.keeps I1.bk,λh' ea hx=>O pins σ H1 s2 h' ea _ _ I1 hx qE⟩) λ_ _ y=>y)
open PySem PySem.Spec PySem.W PyProof.Rows
abbrev Cx.mark (X:Cx)(ea:Addr):Cx:={ X with A:=X.A.mark (some (.ref ea)),calm:=false,xe:=λ_ _=>False }
section
variable  {X:Cx}{pins:List (Addr×Obj)}{σ:St}{H H':Hp}{s s':Ag}{B h':Heap}{ea:Addr}{cls a0:Ae}
theorem Inv.mark (I:Inv X pins σ H s)(ea:Addr):Inv (X.mark ea) pins σ H s :=
 ⟨⟨I.ok.mod,I.ok.kind,I.ok.glob,I.ok.blt,I.ok.above,I.ok.inj,I.ok.has,I.ok.cab,(λz=>Bool.noConfusion z),I.ok.frames,I.ok.stk,I.ok.exf,I.ok.bs,I.ok.bsz,I.ok.noex,I.ok.exfs,I.ok.funs,I.ok.frf⟩,I.os,I.bare,I.base,I.loc,I.cell,I.free,I.freeC,I.pin,I.hok,I.len⟩
theorem Inv.unmark (ok:X.Ok)(I:Inv (X.mark ea) pins σ H s):Inv X pins σ H s:=⟨ok,I.os,I.bare,I.base,I.loc,I.cell,I.free,I.freeC,I.pin,I.hok,I.len⟩
theorem Inv.gone {i:Nat}{x:Str}{m:Str->Option Ae}{v:Option Ae}{tk:Nat}(I:Inv X pins σ H s)(hN:X.N.Nodup)(hi:X.N[i]? = some x)(hn:s.heap.Ns X.env.locals m)(hl:∀(j:Nat) (y:Str) (v:V),X.N[j]? = some y->σ[j]? = some (some v)->Vis X.env.scope y->∃u,RelV v u/\Look X.env s.heap m y u)
  (hn':h'.Ns X.env.locals (λy=>if y=x then v else m y)) (hs:Heap.SameBut X.env.locals s.heap h'):Inv X pins (σ.set i none) H { s with heap:=h',toks:=tk }:=by
 obtain ⟨oL,_,_,hoL,_⟩:=id hn
 have cne:=I.cne
 have lt:∀b o,X.s₀.heap.get? b=some o->b≠X.env.locals:=λb o e=>AI (Ay (Ar e) I.ok.above)
 refine ⟨I.ok,I.os,I.bare,⟨λb o e n hb hx =>?_,λb o e n hb hx =>?_,I.base.free,λb o e hx =>?_,I.base.tups,I.base.frzs,I.base.tbls⟩,⟨_,hn',λj y v' e1 e2 e3 =>?_⟩,λy c e =>?_,I.free,I.freeC,λp hp =>?_,λb ob e =>?_,by simpa using I.len⟩
 ·exact (hs.2 b (lt b o e)).trans (I.base.keep b o e n hb hx)
 ·obtain ⟨sl,e1⟩:=I.base.slot b o e n hb hx
  exact ⟨sl,(hs.2 b (lt b o e)).trans e1⟩
 ·obtain ⟨o',e1⟩:=I.base.there b o e hx
  exact ⟨o',(hs.2 b (lt b o e)).trans e1⟩
 ·by_cases hj:j=i
  ·subst hj
   have:j<σ.length:=by rw[I.len];exact (Al.mp hi).1
   rw[C6 this] at e2
   cases e2
  ·rw[Eb (Ca hj)] at e2
   obtain ⟨u',r',q⟩:=hl j y v' e1 e2 e3
   refine ⟨u',r',?_⟩
   rcases q with ⟨k,e⟩ | ⟨k,c,e,z⟩
   ·have:y≠x:=λe=>hj (jD hN e1 (e ▸ hi))
    exact .inl ⟨k,by simp[this,e]⟩
   ·exact .inr ⟨k,c,e,z.sameBut hs (cne y c e)⟩
 ·obtain ⟨w',z⟩:=I.cell y c e
  exact ⟨w',z.sameBut hs (cne y c e)⟩
 ·obtain ⟨e,n,ne,nf,d⟩:=I.pin p hp
  exact ⟨(hs.2 p.1 ne).trans e,n,ne,nf,d⟩
 ·have fr:=I.free
  refine (I.hok b ob e).cx (λc w' hc q=>(hs.2 c ?_).trans q) (λ_ q=>q) λ_ _ q=>q
  rintro rfl
  rcases hc with rfl | hc
  ·rw[fr] at e;cases e
  ·rw[fr] at hc;cases hc
end
abbrev EXt:=Ae->St->Hp->Prop
def XP (X:Cx)(pins:List (Addr×Obj))(EX:EXt)(e:Ae)(s':Ag):Prop :=
 ∃σ H s ea cls a0 B H',Inv X pins σ H s/\e = .ref ea/\s'.os=s.os/\AllBare s'.gens/\Fly X.prog X.w X.stack H H' s.heap B ea cls a0 s'.heap/\EX cls σ H'
section
variable  {X:Cx}{pos:Pos}
end
open PySem PySem.Spec PySem.W PyProof.Rows
structure ExI (K:Ab)(C:Addr):Prop where
 ga:findIn K (.ref C) "__getattribute__" = some (some (.builtin "BaseException.__getattribute__"))
 gt:findIn K (.ref C) "__getattr__" = some none
 cl:findIn K (.ref C) "__class__" = some (some (.builtin "object.__class__"))
 mo:subIn K (.ref C) (.type "object")=some true
 sb:subIn K (.ref C) (.type "BaseException")=some true
 it:(clsIn K C).isSome=true
section
variable  {K:Ab}{prog:Au}{w:AX}{A:A7}{E:Ae->Ag->Prop}{h:Heap}{g:Array GenState}{d:Drawn}{t:Nat}{os:OsState}{a C:Addr}{o:Obj}
theorem yV {R:Result->Ag->Prop}(X:K.In h)(Z:ExI K C)(hx:h.get? a=some o)(hc:o.cls = .ref C)(hq:R (.ok (.ret (.ref C))) ⟨h,g,d,t,os⟩) :
  EN (AQ prog w) A (.call (.builtin "getset_descriptor.__get__") ⟨[.builtin "object.__class__",.ref a,.ref C],[]⟩) R ⟨h,g,d,t,os⟩:=by
 have hT5:(⟨h,g,d,t,os⟩:Ag).TypeIs (.builtin "object.__class__") "getset_descriptor" := D3
 have L1:Looks (AQ prog w) h (isSubtype (.ref C) (.type (".".intercalate ("object.__class__".cutAt '.').dropLast))) true:=by rw[F.owner_object_class];exact Gj X Z.mo
 refine B6 GD.plain F.entry_gs_get (GD.check _ _ _ _ _ _ _ _ hT5 (F.args_gs_get _ _ _) ?_)
 repeat (any_goals (first | assumption | (with_reducible refine Bd hx ?_;rw[hc]) | with_reducible refine L1.at ?_ | wp_step))
 refine ⟨CL _ (by decide +kernel),Bv F.entry_object_class ?_⟩
 unfold Builtin.«object.__class__»
 repeat (any_goals (first | assumption | (with_reducible refine Bd hx ?_;rw[hc]) | wp_step))
theorem vf {tk:Tok}{Q:Fin->Ag->Prop}(X:K.In h)(Z:ExI K C)(hx:h.get? a=some o)(hc:o.cls = .ref C)(hq:Q (.done (.ret (.ref C))) ⟨h,g,d,t,os⟩) :
  AL (AQ prog w) A (Builtin.«object.__getattribute__» ⟨[.ref a,.str "__class__" tk],[]⟩) Q E ⟨h,g,d,t,os⟩:=by
 have hT5:(⟨h,g,d,t,os⟩:Ag).TypeIs (.builtin "object.__class__") "getset_descriptor" := D3
 have f5:=D3
 have f6:=GD.lookup
 have f7:=F.slot_gs_set.lookup
 have L1:=C0 (M:=AQ prog w) X Z.cl
 repeat (any_goals (first | assumption | (with_reducible refine Bd hx ?_;rw[hc]) | with_reducible refine L1.at ?_ | wp_step))
 refine yV X Z hx hc ?_
 repeat (any_goals (first | assumption | wp_step))
theorem oi {M:Model}{nv:Ae}{Q:Unit->Ag->Prop}(X:K.In h)(Z:ExI K C)(hx:h.get? a=some o)(hc:o.cls = .ref C)(hq:Q () ⟨h,g,d,t,os⟩):AL M A (checkBuiltinCall "BaseException.__getattribute__" ⟨[.ref a,nv],[]⟩) Q E ⟨h,g,d,t,os⟩:=by
 have k1:builtinKind "BaseException.__getattribute__" = some .slot:=by decide +kernel
 have k2:splitId "BaseException.__getattribute__" = some ("BaseException", "__getattribute__"):=by decide +kernel
 have L1:=Gj (M:=M) X Z.sb
 have k3:=F.args_bexc_ga (.ref a) nv
 simp only[checkBuiltinCall,k1,k2]
 refine Af ?_
 unfold isInstance
 repeat (first | (with_reducible refine Bd hx ?_;rw[hc]) | with_reducible refine L1.at ?_ | wp_step)
 exact hq
theorem wU {Q:Option Ae->Ag->Prop}(X:K.In h)(Z:ExI K C)(hx:h.get? a=some o)(hc:o.cls = .ref C)(hq:Q (some (.ref C)) ⟨h,g,d,t+1,os⟩) :
  AL (AQ prog w) A (getAttr? (.ref a) "__class__") Q E ⟨h,g,d,t,os⟩:=by
 have f3:=(Dl).ga.bind (.ref a)
 have y2:(Value.builtin "BaseException.__getattribute__" == Value.builtin "object.__getattribute__")=false:=by decide +kernel
 have y1:(onTheHeap (As C) && Value.builtin "BaseException.__getattribute__" == Value.builtin "object.__getattribute__")=false:=by rw[y2];rfl
 have L1:=C0 (M:=AQ prog w) X Z.ga
 have L2:=C0 (M:=AQ prog w) X Z.gt
 unfold getAttr? getAttrBy?
 repeat (any_goals (first | assumption | (with_reducible refine Bd hx ?_;rw[hc]) | with_reducible refine L1.at ?_ | with_reducible refine L2.at ?_ | wp_step))
 refine B6 (Dl).ga.plain Hv (oi X Z hx hc (vf X Z hx hc ?_))
 repeat (any_goals (first | assumption | wp_step))
end
open PySem PySem.Spec PySem.W PyProof.Rows
theorem vg {K:Ab}{a C:Addr}(Z:ExI K C):KitX K (.ref a) (.ref C) (λh=>∃o,h.get? a=some o/\o.cls = .ref C) where
 ty:=λM h _ p=>by
  obtain ⟨o,h1,h2⟩:=p
  exact h2 ▸ (Looks.ld h1).andThen .now
 it:=λ_ _ X _=>by
  have z:=Z.it
  unfold clsIn at z
  split at z
  ·rename_i c' d' cd' sl' ho
   intro A' Q' E' s' k q
   unfold isType loadHead
   exact Af (wpAny_loadPart (k _ _ (X _ _ ho)) (An q))
  ·cases z
 ne:=λh tp dd its n sl X htp=>by
  have z:=Z.it
  refine GP.mpr λq =>?_
  have e:C=tp:=Value.ref.inj (beq_iff_eq.mp q)
  subst e
  unfold clsIn at z
  split at z
  ·rename_i c' d' cd' sl' ho
   have y:=(X _ _ ho).symm.trans htp
   cases y
  ·cases z
 ca:=λ{_ _ _ _ _ s} X p k=>by
  obtain ⟨h,g,d,t,os⟩:=s
  obtain ⟨o,h1,h2⟩:=p
  exact wU X Z h1 h2 k
def zV:V->Ae
 | .ref a =>.ref a
 | .ty n =>.type n
 | _ =>.none
def xS:V->Bool
 | .ref _=>true
 | .ty _=>true
 | _=>false
theorem wV {x:V}{u:Ae}(h:xS x=true)(r:RelV x u):u=zV x:=by
 cases x <;> first | exact r | cases h
section
variable  {X:Cx}
end
open PySem PySem.Spec PySem.W PyProof.Rows
def Keeps {α:Type}:Sem α -> Prop
 | .pure _=>True
 | .raise _=>True
 | .unsupported _=>True
 | .finish _=>True
 | .rule _ k=>Keeps (k ())
 | .at _ k=>Keeps (k ())
 | .load _ _ k=>∀o,Keeps (k o)
 | .update _ _ f k=>(∀o:Obj,(f o).cls=o.cls/\(f o).dict=o.dict/\(f o).isFreed=o.isFreed)/\Keeps (k ())
 | .alloc _ k=>∀a,Keeps (k a)
 | .loadIfAlive _ k=>∀o,Keeps (k o)
 | .point _ k=>Keeps (k ())
 | .register _ _=>True
 | .fresh k=>∀t,Keeps (k t)
 | .ask k=>∀t,Keeps (k t)
 | .choose _ _ k=>∀t,Keeps (k t)
 | .os _ _ k=>∀t,Keeps (k t)
 | .call _ _ _ _ _=>False
 | .handled _ k=>∀t,Keeps (k t)
 | .newGen _ k=>∀t,Keeps (k t)
 | .genState _ k=>∀t,Keeps (k t)
 | .resume _ _ _ _=>False
 | .yield _ _ _ _=>True
 | .stack k=>∀t,Keeps (k t)
 | .fork _ _=>True
 | .thread k=>∀t,Keeps (k t)
 | .await _ _ _ _ _=>True
def Kd (h h':Heap):Prop:=∀b o,h.get? b=some o->∃o',h'.get? b=some o'/\o'.cls=o.cls/\o'.dict=o.dict
theorem Kd.refl (h:Heap):Kd h h:=λb o e=>⟨o,e,rfl,rfl⟩
theorem Kd.trans {h h1 h2:Heap}(a:Kd h h1)(b:Kd h1 h2):Kd h h2:=λc o e=>by
 obtain ⟨o1,e1,c1,d1⟩:=a c o e
 obtain ⟨o2,e2,c2,d2⟩:=b c o1 e1
 exact ⟨o2,e2,c2.trans c1,d2.trans d1⟩
theorem iw {h:Heap}{a:Addr}{o:Obj}(e:h.get? a=some o):o.isFreed=false:=by
 unfold Heap.get? at e
 split at e
 ·cases e
 ·rename_i n
  obtain ⟨c,d,x,s⟩:=o
  cases x <;> first | rfl | exact absurd e (n _ _ _)
theorem Kd.update {h:Heap}{a:Addr}{f:Obj->Obj}(hf:∀o:Obj,(f o).cls=o.cls/\(f o).dict=o.dict/\(f o).isFreed=o.isFreed):Kd h (h.update a f):=λb o e=>by
 by_cases c:a=b
 ·subst c
  exact ⟨f o,Bj f e ((hf o).2.2.trans (iw e)),(hf o).1,(hf o).2.1⟩
 ·exact ⟨o,by rw[Bl _ _ c];exact e,rfl,rfl⟩
theorem Kd.push (h:Heap)(u:Obj):Kd h (h.push u):=λb o e=>⟨o,Ad _ e,rfl,rfl⟩
theorem vh {α:Type}{M:Model}{Γ:PySem.Ctx}{t:Sem α}{Q:α -> Pos->Ag->Prop}{E:Ae->Pos->Ag->Prop}(K:Keeps t)(p:Pos)(s:Ag)(h:Sem.wp M Γ t Q E p s) :
  Sem.wp M Γ t (λa p' s'=>Q a p' s'/\Kd s.heap s'.heap) (λe p' s'=>E e p' s'/\Kd s.heap s'.heap) p s:=by
 induction t generalizing p s with
 | pure x=>exact ⟨h,Kd.refl _⟩
 | raise v=>exact ⟨h,Kd.refl _⟩
 | unsupported _ | finish _ | yield _ _ _ _ | fork _ _ | await _ _ _ _ _ | register _ _=>exact h
 | rule _ k ih=>exact ih () K _ _ h
 | «at» _ k ih=>exact ih () K _ _ h
 | point _ k ih=>exact ih () K _ _ h
 | alloc u k ih =>
  refine Sem.wp_mono M Γ _ (λa p' s' x=>⟨x.1,(Kd.push _ u).trans x.2⟩) (λa p' s' x=>⟨x.1,(Kd.push _ u).trans x.2⟩) _ _ (ih _ (K _) _ _ h)
 | loadIfAlive _ k ih=>exact ih _ (K _) _ _ h
 | fresh k ih=>exact ih _ (K _) _ _ h
 | ask k ih=>exact ih _ (K _) _ _ h
 | os _ _ k ih=>exact ih _ (K _) _ _ h
 | handled _ k ih=>exact ih _ (K _) _ _ h
 | newGen _ k ih=>exact ih _ (K _) _ _ h
 | stack k ih=>exact ih _ (K _) _ _ h
 | thread k ih=>exact ih _ (K _) _ _ h
 | load a _ k ih =>
  obtain ⟨o,ho,h'⟩:=h
  exact ⟨o,ho,ih _ (K _) _ _ h'⟩
 | genState a k ih =>
  obtain ⟨o,ho,h'⟩:=h
  exact ⟨o,ho,ih _ (K _) _ _ h'⟩
 | update a _ f k ih =>
  obtain ⟨ho,h'⟩:=h
  exact ⟨ho,Sem.wp_mono M Γ _ (λa p' s' x=>⟨x.1,(Kd.update K.1).trans x.2⟩) (λa p' s' x=>⟨x.1,(Kd.update K.1).trans x.2⟩) _ _ (ih _ K.2 _ _ h')⟩
 | choose _ _ k ih =>
  obtain ⟨ho,h'⟩:=h
  exact ⟨ho,ih _ (K _) _ _ h'⟩
 | call c h' g l k ih=>exact K.elim
 | resume g r l k ih=>exact K.elim
theorem cP {α:Type}{M:Model}{A:A7}{t:Sem α}{Q:α -> Ag->Prop}{E:Ae->Ag->Prop}{s:Ag}(K:Keeps t)(h:AL M A t Q E s) :
  AL M A t (λa s'=>Q a s'/\Kd s.heap s'.heap) (λe s'=>E e s'/\Kd s.heap s'.heap) s:=λΓ p hΓ=>vh K p s (h Γ p hΓ)
theorem Keeps.bind {α β:Type}{m:Sem α}{f:α -> Sem β}(hm:Keeps m)(hf:∀a,Keeps (f a)):Keeps (m >>= f):=by
 show Keeps (Sem.bind m f)
 induction m with
 | pure x=>exact hf x
 | raise v=>exact hm
 | unsupported _ | finish _ | yield _ _ _ _ | fork _ _ | await _ _ _ _ _ | register _ _=>exact True.intro
 | rule _ k ih=>exact ih () hm
 | «at» _ k ih=>exact ih () hm
 | point _ k ih=>exact ih () hm
 | alloc u k ih=>exact λa=>ih a (hm a)
 | loadIfAlive _ k ih=>exact λa=>ih a (hm a)
 | fresh k ih=>exact λa=>ih a (hm a)
 | ask k ih=>exact λa=>ih a (hm a)
 | os _ _ k ih=>exact λa=>ih a (hm a)
 | handled _ k ih=>exact λa=>ih a (hm a)
 | newGen _ k ih=>exact λa=>ih a (hm a)
 | stack k ih=>exact λa=>ih a (hm a)
 | thread k ih=>exact λa=>ih a (hm a)
 | load a _ k ih=>exact λa=>ih a (hm a)
 | genState a k ih=>exact λa=>ih a (hm a)
 | update a _ f' k ih=>exact ⟨hm.1,ih () hm.2⟩
 | choose _ _ k ih=>exact λa=>ih a (hm a)
 | call c h' g l k ih=>exact hm.elim
 | resume g r l k ih=>exact hm.elim
theorem fH (f:Array Ae->Array Ae)(o:Obj):(Obj.mapFields f o).cls=o.cls/\(Obj.mapFields f o).dict=o.dict/\(Obj.mapFields f o).isFreed=o.isFreed:=by
 obtain ⟨c,d,x,s⟩:=o
 cases x <;> exact ⟨rfl,rfl,rfl⟩
theorem jY (v:Ae):Keeps (fieldsOf v):=by
 unfold fieldsOf
 cases v with
 | ref a =>
  refine Keeps.bind (m:=load a) (λ_=>True.intro) λo =>?_
  cases o.data <;> exact True.intro
 | _=>exact True.intro
theorem dE (v:Ae)(i:Nat):Keeps (field v i):=by
 unfold field
 refine Keeps.bind (jY v) λvs =>?_
 split <;> exact True.intro
theorem iy (a:Addr)(i:Nat)(x:Ae):Keeps (updateField a i x):=by
 unfold updateField
 refine Keeps.bind (m:=load a) (λ_=>True.intro) λo =>?_
 cases o.data with
 | fields vs =>
  show Keeps (if i<vs.size then update a (Obj.mapFields (·.setIfInBounds i x)) else unsupported "internal:no-such-field")
  split
  ·exact ⟨fH _,True.intro⟩
  ·exact True.intro
 | _=>exact True.intro
theorem dv (v:Ae)(i:Nat)(x:Ae):Keeps (setField v i x):=by
 unfold setField
 cases v with
 | ref a=>exact iy a i x
 | _=>exact True.intro
theorem cV (e:Ae)(fr:Option Addr):Keeps (setFlight e fr):=by
 unfold setFlight
 refine Keeps.bind (dE e 1) λtb =>?_
 split
 ·exact dv _ _ _
 ·exact True.intro
open PySem PySem.Spec PySem.W PyProof.Rows
theorem fJ:Keeps stack:=λ_=>True.intro
theorem mQ:Keeps underTheClaimsCaller:=by
 unfold underTheClaimsCaller
 exact Keeps.bind fJ λ_=>True.intro
theorem jZ (env:Env)(outer:List Env):Keeps (behindIsImport env outer):=by
  unfold behindIsImport
  split
  · exact True.intro
  · show Keeps (if env.code == .none then pure true else do return (← field env.code 12) == .none)
    split
    · exact True.intro
    · exact Keeps.bind (dE _ _) λ_=>True.intro
theorem qg (env:Env)(i:Bool)(l:List Env):Keeps (keptBack env i l):=by
 unfold keptBack
 cases l with
 | nil =>
  show Keeps (if _ then _ else _)
  split
  ·exact True.intro
  ·exact Keeps.bind mQ λ_=>True.intro
 | cons c l=>exact True.intro
theorem ja:∀l:List Env,Keeps (readyFrames l)
 | []=>True.intro
 | env :: outer=>by
  unfold readyFrames
  cases env.frame with
  | none=>exact True.intro
  | some f =>
   refine Keeps.bind (m:=load f) (λ_=>True.intro) λo =>?_
   split
   ·exact True.intro
   ·refine Keeps.bind (jZ env outer) λi=>Keeps.bind (qg env i outer) λb =>?_
    exact ⟨λo=>⟨rfl,rfl,by obtain ⟨c,d,x,s⟩:=o;cases x <;> rfl⟩,ja outer⟩
theorem iz (l:List Env):Keeps (frameObject l):=by
 unfold frameObject
 cases l with
 | nil=>exact True.intro
 | cons env outer=>exact Keeps.bind (ja _) λ_=>True.intro
theorem kF (env:Env):Keeps (PySem.frameOf env):=by
 unfold PySem.frameOf frameEnvs
 refine Keeps.bind (Keeps.bind fJ λ_=>True.intro) λes=>Keeps.bind (iz _) λr =>?_
 cases r <;> exact True.intro
theorem oj (f:Addr)(b:Bool):Keeps (entryPlaceOf f b):=by
 unfold entryPlaceOf
 refine Keeps.bind fJ λacts =>?_
 split <;> exact True.intro
theorem jk (ty:String)(vs:List Ae):Keeps (newFields ty vs):=by
 unfold newFields newObj newObjAsIs
 show Keeps (if _ then _ else _)
 split
 ·exact True.intro
 ·exact λa=>True.intro
theorem om (n f l fl la:Ae)(p:List Ae):Keeps (EntryCells.newEntry n f l fl la p):=by
 unfold EntryCells.newEntry
 exact jk _ _
theorem ft (e:Ae)(env:Env):Keeps (noteFrame e env):=by
  unfold noteFrame
  cases env.frame with
  | none=>exact True.intro
  | some f =>
    refine Keeps.bind (dE e 1) λhead =>?_
    have rest:Keeps (do setField e 1 (← EntryCells.newEntry head (← PySem.frameOf env) .none (EE f) .none (← entryPlaceOf f (head != .none)))) :=
      Keeps.bind (kF env) λa=>Keeps.bind (oj f _) λpl=>Keeps.bind (om _ _ _ _ _ _) λb=>dv _ _ _
    show Keeps (if _ then _ else _)
    split
    · refine Keeps.bind (dE head 3) λx =>?_
      split
      · exact True.intro
      · exact Keeps.bind (dv _ _ _) λ_=>rest
    · exact rest
theorem gz (env:Env)(e:Ae):Keeps (leaving env e):=by
 unfold leaving
 exact Keeps.bind (ft e env) λ_=>cV e none
open PySem PySem.Spec PySem.W PyProof.Rows
def XD (h:Heap)(ea:Addr)(d:Option Addr):Prop:=∀dx,d=some dx->∃o,h.get? ea=some o/\o.dict=some dx
theorem XD.kd {h h':Heap}{ea:Addr}{d:Option Addr}(k:Kd h h')(x:XD h ea d):XD h' ea d:=λdx e=>by
 obtain ⟨o,a,b⟩:=x dx e
 obtain ⟨o',a',_,b'⟩:=k ea o a
 exact ⟨o',a',b'.trans b⟩
theorem XD.nil (h:Heap)(ea:Addr):XD h ea none:=λ_ e=>by cases e
def CX2 (P:Au)(w:AX):CXT:=λouter H s E e s'=>∃ea cls a0 B H' d,e = .ref ea/\s'.os=s.os/\AllBare s'.gens/\Fly P w outer H H' s.heap B ea cls a0 s'.heap/\XD s'.heap ea d/\E cls d H'
section
variable  {X:Cx}{pins:List (Addr×Obj)}{σ:St}{H H':Hp}{s:Ag}{B h':Heap}{ea:Addr}{cls a0:Ae}
theorem Fly.zW {M:Model}{E:Ae->Ag->Prop}{Q:Unit->Ag->Prop}{s':Ag}(I:Inv X pins σ H s)(hst:X.stack=X.env :: X.outer)(hfr:X.env.frame=some X.env.locals)(hex:X.ex=[])
  (F:Fly X.prog X.w X.stack H H' s.heap B ea cls a0 s'.heap) (hQ:∀h2,Fly X.prog X.w X.outer X.H₀ H' X.s₀.heap B ea cls a0 h2->Kd s'.heap h2->Q () { s' with heap:=h2 }):AL M X.A (leaving X.env (.ref ea)) Q E s':=by
 have z:=cP (gz X.env (.ref ea)) (Fly.pass (M:=M) (E:=E) (Q:=λ_ s2=>∃h2,s2={ s' with heap:=h2 }/\Fly X.prog X.w X.outer X.H₀ H' X.s₀.heap B ea cls a0 h2) I hst hfr hex F λh2 F2=>⟨h2,rfl,F2⟩)
 refine Bt z (λ_ s2 y =>?_) λ_ _ y=>y.1
 obtain ⟨⟨h2,rfl,F2⟩,k⟩:=y
 exact hQ h2 F2 k
end
theorem Fun.vi {P:Au}{w:AX}{K:Ab}{mg:Str->Option Ae}{base:Heap}{x qual:Str}{st:Stmt}{f:Addr}{fd:Be}{N ps:List Str}{k:Nat}{sp:Sp}(F:Fun K x qual st f fd)(S:aP N ps (aq st))(len:∀vs H Q E,sp vs H Q E->vs.length=ps.length)
  (hb:∀(cdv:Ae) (A:A7) (outer:List Env) (s:Ag) (H:Hp) (vs:List V) (Q:VK) (E:XK),bU k (A.deeper (envOfC qual (aq st) s.heap.objs.size f cdv))->sp vs H Q E →
   ∃t,PSs (jh (CX2 P w) P w K mg base N qual (aq st) f cdv A outer s H E) (bG st) t/\t { nx:=λ_ H'=>Q .non H',rt:=Q } (start N vs) H):bC P w K mg base (CX2 P w) (k+1) f fd ps sp:=by
 obtain ⟨oc,od,kV,doc,pm,an,cdv,ct,osl,rfl,lk,hcd⟩:=F.ex
 exact xI lk hcd S len λA outer s H vs Q E hr hsp=>hb cdv A outer s H vs Q E hr hsp
theorem bC.cx2 {P:Au}{w:AX}{K:Ab}{mg:Str->Option Ae}{base:Heap}{k:Nat}{f:Addr}{fd:Be}{ps:List Str}{sp:Sp}(F:bC P w K mg base CX0 k f fd ps sp):bC P w K mg base (CX2 P w) k f fd ps sp :=
 ⟨F.len,λA outer s H args us vs Q E hr he hb hv hs=>CN (F.run A outer s H args us vs Q E hr he hb hv hs) λr s' h=>by
  cases r with
  | error e=>exact False.elim h
  | ok fl=>cases fl <;> exact h⟩
structure fK (P:Au)(w:AX)(K:Ab)(mg:Str->Option Ae)(base:Heap)(k:Nat)(x:Str)(ps:List Str)(sp:Sp):Prop where
 ex:∃f fd,bC P w K mg base (CX2 P w) k f fd ps sp/\mg x=some (.ref f)/\PySem.W.keepIn K (.ref f)=true/\Binds K fd ps []
section
variable  {P:Au}{w:AX}{K:Ab}{mg:Str->Option Ae}{base:Heap}{N:List Str}{qual:Str}{sc:Scope}{f:Addr}{cdv:Ae}{A:A7}{outer:List Env}{s₀:Ag}{H₀:Hp}{E:XK}
theorem oo:Passes (CX2 P w) (jh (CX2 P w) P w K mg base N qual sc f cdv A outer s₀ H₀ E) E:=λpins σ H s e s' I h=>by
 obtain ⟨ea,cls,a0,B,H2,d,rfl,os,g,F,D,q⟩:=h
 exact Fly.zW I rfl rfl rfl F λh2 F2 k=>⟨ea,cls,a0,B,H2,d,rfl,os.trans I.os,g,F2,D.kd k,q⟩
theorem xT:zU (jh (CX2 P w) P w K mg base N qual sc f cdv A outer s₀ H₀ E) E:=λpins σ H s h' ea cls vs I hx q=>by
 exact Fly.made (s':={ s with heap:=h' }) I rfl rfl rfl hx λh2 B a0 F2=>⟨ea,cls,a0,B,H,none,rfl,I.os,I.bare,F2,.nil _ _,q⟩
end
section
variable  {X:Cx}{pins:List (Addr×Obj)}{σ:St}{H H':Hp}{s s':Ag}{B h':Heap}{ea:Addr}{cls a0:Ae}{d:Option Addr}
def aU (ea:Addr)(cls:Ae)(d:Option Addr):HO :=.ext λh=>∃o vs,h.get? ea=some o/\o.cls=cls/\o.data = .fields vs/\∀dx,d=some dx->o.dict=some dx
theorem HOk.yW {P:Au}{w:AX}{h:Heap}(x:HOk P w H h)(hn:H ea=none)(hc:∃o vs,h.get? ea=some o/\o.cls=cls/\o.data = .fields vs/\∀dx,d=some dx->o.dict=some dx):HOk P w (upd H ea (aU ea cls d)) h:=λb u e=>by
 by_cases z:b=ea
 ·subst z
  rw[ae] at e
  cases e
  refine ⟨hc,?_,λh1 h2 p k =>?_⟩
  ·obtain ⟨o,_,q,_⟩:=hc;exact ⟨o,q⟩
  ·obtain ⟨o,vs,q,c⟩:=p;exact ⟨o,vs,k o q,c⟩
 ·rw[au z] at e
  exact (x b u e).cx (λ_ _ _ q=>q) (λc q=>by rw[au (aA q hn)];exact q) λc xs q=>by rw[au (aA q hn)];exact q
theorem Inv.yW (I0:Inv X pins σ H s)(I:Inv X pins σ H' s')(F:Fly X.prog X.w X.stack H H' s.heap B ea cls a0 s'.heap)(D:XD s'.heap ea d):Inv X pins σ (upd H' ea (aU ea cls d)) s':=by
 have nn:=F.new
 have hn:=F.no
 have ne:∀b o,s.heap.get? b=some o->b≠ea:=λb o q z=>by rw[z,nn] at q;cases q
 have nh:∀b u,H' b=some u->b≠ea:=λb u q=>aA q hn
 have hc:∃o vs,s'.heap.get? ea=some o/\o.cls=cls/\o.data = .fields vs/\∀dx,d=some dx->o.dict=some dx:=by
  obtain ⟨o,vs,a,b,dd,_⟩:=F.fl.first
  refine ⟨o,vs,a,b,dd,λdx e =>?_⟩
  obtain ⟨o',a',b'⟩:=D dx e
  rw[a] at a';cases a'
  exact b'
 refine ⟨I.ok,I.os,I.bare,⟨I.base.keep,I.base.slot,λb o q n m =>?_,I.base.there,λb xs q =>?_,λb o u q =>?_,λb ps q =>?_⟩,I.loc,I.cell,?_,λx c e =>?_,λp hp =>?_,I.hok.yW hn hc,I.len⟩
 ·obtain ⟨o',e⟩:=I0.base.there b o q m
  rw[au (ne b o' e)];exact I.base.free b o q n m
 ·have:=I.base.tups b xs q
  rw[au (nh b _ this)];exact this
 ·have:=I.base.frzs b o u q
  rw[au (nh b _ this)];exact this
 ·obtain ⟨mo,this⟩:=I.base.tbls b ps q
  exact ⟨mo,by rw[au (nh b _ this)];exact this⟩
 ·obtain ⟨m,⟨o,_,_,ho,_⟩,_⟩:=I0.loc
  rw[au (ne _ o ho)];exact I.free
 ·obtain ⟨v,o,ho,_⟩:=I0.cell x c e
  rw[au (ne _ o ho)];exact I.freeC x c e
 ·obtain ⟨e,n,n1,n2,d⟩:=I.pin p hp
  obtain ⟨e0,_⟩:=I0.pin p hp
  exact ⟨e,by rw[au (ne _ _ e0)];exact n,n1,n2,d⟩
end
section
variable  {M:Model}{A:A7}{E:Ae->Ag->Prop}{s:Ag}
theorem wW {base:Heap}{env:Env}{outer:List Env}{L e:Addr}{cls a0:Ae}{Q:Unit->Ag->Prop}
  (hfr:A.frames=some (env :: outer)) (hf:env.frame=some L) (hfl:Heap.FlyingW base (env :: outer) e cls a0 s.heap)
  (hQ:∀h',Heap.HeldW base (env :: outer) e cls a0 L h'->s.heap.UpToSlots h'->Kd s.heap h'->Q () { s with heap:=h' }):AL M A (noteFrame (.ref e) env) Q E s:=by
 refine Bt (cP (ft (.ref e) env) (wpAny_looks_onW (M:=M) (E:=E) (Q:=λ_ s2=>∃h',s2={ s with heap:=h' }/\Heap.HeldW base (env :: outer) e cls a0 L h'/\s.heap.UpToSlots h') hfr hf hfl λh' a b=>⟨h',rfl,a,b⟩)) (λ_ s2 y =>?_) λ_ _ y=>y.1
 obtain ⟨⟨h2,rfl,a,b⟩,k⟩:=y
 exact hQ h2 a b k
theorem wX {base:Heap}{l:List Env}{e L:Addr}{cls a0:Ae}{Q:Unit->Ag->Prop}(hh:Heap.HeldW base l e cls a0 L s.heap)
  (hQ:∀h',Heap.FlyingW base l e cls a0 h'->s.heap.UpToSlots h'->Kd s.heap h'->Q () { s with heap:=h' }):AL M A (setFlight (.ref e) none) Q E s:=by
 refine Bt (cP (cV (.ref e) none) (wpAny_landsW (M:=M) (E:=E) (Q:=λ_ s2=>∃h',s2={ s with heap:=h' }/\Heap.FlyingW base l e cls a0 h'/\s.heap.UpToSlots h') hh λh' a b=>⟨h',rfl,a,b⟩)) (λ_ s2 y =>?_) λ_ _ y=>y.1
 obtain ⟨⟨h2,rfl,a,b⟩,k⟩:=y
 exact hQ h2 a b k
theorem wY {base:Heap}{l:List Env}{e:Addr}{cls a0:Ae}{Q:Unit->Ag->Prop}(hh:Heap.FlyingW base l e cls a0 s.heap)
  (hQ:∀h',Heap.FlyingW base l e cls a0 h'->s.heap.UpToSlots h'->Kd s.heap h'->Q () { s with heap:=h' }):AL M A (setFlight (.ref e) none) Q E s:=by
 refine Bt (cP (cV (.ref e) none) (lands_againW (M:=M) (E:=E) (Q:=λ_ s2=>∃h',s2={ s with heap:=h' }/\Heap.FlyingW base l e cls a0 h'/\s.heap.UpToSlots h') hh λh' a b=>⟨h',rfl,a,b⟩)) (λ_ s2 y =>?_) λ_ _ y=>y.1
 obtain ⟨⟨h2,rfl,a,b⟩,k⟩:=y
 exact hQ h2 a b k
end
abbrev j4:=Ae->Option Addr->St->Hp->Prop
def XP2 (X:Cx)(pins:List (Addr×Obj))(EX:j4)(e:Ae)(s':Ag):Prop :=
 ∃σ H s ea cls a0 B H' d,Inv X pins σ H s/\e = .ref ea/\s'.os=s.os/\AllBare s'.gens/\Fly X.prog X.w X.stack H H' s.heap B ea cls a0 s'.heap/\XD s'.heap ea d/\EX cls d σ H'
def wZ (X:Cx)(sts:List Stmt)(t:j4->TS):Prop :=
 ∀(pins:List (Addr×Obj)) (s:Ag) (σ:St) (H:Hp) (D:Ends) (EX:j4),Inv X pins σ H s->t EX D σ H->AL (AQ X.prog X.w) X.A (execs sts X.env) (SP X pins D) (XP2 X pins EX) s
def yX (X:Cx)(st:Stmt)(t:j4->TS):Prop :=
 ∀(pins:List (Addr×Obj)) (s:Ag) (σ:St) (H:Hp) (D:Ends) (EX:j4),Inv X pins σ H s->t EX D σ H->AL (AQ X.prog X.w) X.A (exec st X.env) (SP X pins D) (XP2 X pins EX) s
section
variable  {X:Cx}{pos:Pos}
theorem eZ {st:Stmt}{t:j4->TS}(h1:yX X st t):wZ X [st] t:=by
 intro pins s σ H D EX I h
 refine Fl (thn (h1 pins s σ H D EX I h) λf s1 q =>?_)
 cases f with
 | next=>exact DK q
 | ret v=>exact q
 | brk=>exact q
 | cont=>exact q
theorem qh {c:Expr}{a b:List Stmt}{tc:TT}{ta tb:j4->TS}(hc:PT X.nox c tc)(ha:wZ X a ta)(hb:wZ X b tb):yX X (.If c a b pos) (λEX D σ H=>tc σ H λk H1=>if k=true then ta EX D σ H1 else tb EX D σ H1):=by
 intro pins s σ H D EX I h
 refine wpAny_If (Bt (hc pins s σ H _ (I.jf _) h) (λd s1 ⟨H1,I1,q1⟩ =>?_) λ_ _ z=>False.elim z)
 cases d with
 | true=>exact ha pins s1 σ H1 D EX I1.cS q1
 | false=>exact hb pins s1 σ H1 D EX I1.cS q1
theorem zX {k:Nat}{f:Addr}{fd:Be}{ps:List Str}{sp:Sp}{pins:List (Addr×Obj)}{σ:St}{H:Hp}{s:Ag}{Q:VK}{EX:j4}{us:List Ae}{vs:List V}(F:bC X.prog X.w X.K X.mg X.base (CX2 X.prog X.w) k f fd ps sp)(hr:bU k X.A)(hb:Binds X.K fd ps [])
  (I:Inv X pins σ H s) (r:Vals vs us) (h:sp vs H Q λcls d H'=>EX cls d σ H'):AL (AQ X.prog X.w) X.A (call (.ref f) us) (EP X pins σ Q) (XP2 X pins EX) s:=by
 have hl:us.length=ps.length:=by rw[<- r.length];exact F.len _ _ _ _ h
 have hb':=hb s us I.kIn (by rw[AZ];exact hl)
 rw[AZ] at hb'
 refine Ei (CN (F.run X.A X.stack s H ⟨us,[]⟩ us vs Q _ hr I.yk hb' r h) λr s' hq =>?_)
 cases r with
 | error e =>
  obtain ⟨ea,cls,a0,B,H2,d,rfl,os,g,F2,D,q⟩:=hq
  exact ⟨σ,H,s,ea,cls,a0,B,H2,d,I,rfl,os,g,F2,D,q⟩
 | ok fl =>
  cases fl with
  | ret u=>exact I.after hq
  | next=>exact False.elim hq
  | brk=>exact False.elim hq
  | cont=>exact False.elim hq
theorem ev_y {j k:Nat}{x:Str}{ps:List Str}{sp:Sp}{e:Expr}{es:List Expr}{t:TA}{p:Pos}{pins:List (Addr×Obj)}{σ:St}{H:Hp}{s:Ag}{Q:VK}{EX:j4}(C:fK X.prog X.w X.K X.mg X.base k x ps sp)(hr:bU j X.A)(hj:k<=j)(hg:Gl X x)(ha:PA X.nox (e :: es) t)
  (hdb:(x == ("__debug__" : Str))=false) (he:Bf (e :: es) X.env=(false,eval e X.env) :: Bf es X.env) (hpl:(DP pos (Bf es X.env)).any (·.1)=false)
  (I:Inv X pins σ H s) (h:t σ H λvs H1=>sp vs H1 Q λcls d H2=>EX cls d σ H2):AL (AQ X.prog X.w) X.A (eval (.Call (.Name x p) (e :: es) [] pos) X.env) (EP X pins σ Q) (XP2 X pins EX) s:=by
 obtain ⟨f,fd,F,m,kp,b⟩:=C.ex
 refine Dd (eJ I hg m ?_ hdb)
 refine Ex (h₀:=X.base) I.ok.mod.kin kp (Bt (ha pos pins s σ H _ (I.jf _) h) (λus s1 ⟨vs,H1,I1,r,q⟩=>⟨I1.cS.kIn,?_⟩) λ_ _ z=>False.elim z) he hpl
 exact zX F (hr.mono hj) b I1.cS r q
theorem jt {i j k:Nat}{x y:Str}{ps:List Str}{sp:Sp}{e:Expr}{es:List Expr}{t:TA}{p pos' pos2:Pos}(hN:X.N.Nodup)(hi:X.N[i]? = some y)(hx:Loc X.env.scope y)(C:fK X.prog X.w X.K X.mg X.base k x ps sp)(hr:bU j X.A)(hj:k<=j)(hg:Gl X x)(ha:PA X.nox (e :: es) t)
  (hdb:(x == ("__debug__" : Str))=false:=by decide) (he:Bf (e :: es) X.env=(false,eval e X.env) :: Bf es X.env:=by rfl) (hpl:(DP pos (Bf es X.env)).any (·.1)=false:=by rfl) (hs:swapsWith (.Call (.Name x p) (e :: es) [] pos) (some (.Name y pos2)) pos'.line X.env=pure false:=by rfl) (hf:X.fn y=true\/X.env.scope.names.lookup y=some .local:=by first | exact .inl rfl | exact .inr rfl | assumption) :
  yX X (.Assign [.Name y pos2] (.Call (.Name x p) (e :: es) [] pos) pos') (λEX D σ H=>t σ H λvs H1=>sp vs H1 (λv H2=>D.nx (σ.set i (some v)) H2) λcls d H2=>EX cls d σ H2):=by
 intro pins s σ H D EX I h
 refine GW (thn (ev_y C hr hj hg ha hdb he hpl I h) λv s1 ⟨y,H1,I1,r1,q1⟩ =>?_) hs
 exact hV I1 hN hi hx r1 (λs2 I2=>⟨_,H1,I2,q1⟩) hf
def zY (K:Ab)(i:Nat)(C:Ae)(tb:j4->TS)(th:TS):TS:=λD σ H =>
 tb (λcls d σ1 H1=>exmOne K cls C=some true/\∀ea,H1 ea=none->th { nx:=λσ2 H2=>D.nx (σ2.set i none) H2,rt:=D.rt,bk:=λσ2 H2=>D.bk (σ2.set i none) H2,ct:=λσ2 H2=>D.ct (σ2.set i none) H2 } (σ1.set i (some (.ref ea))) (upd H1 ea (aU ea cls d))) D σ H
theorem w5 {i:Nat}{n x:Str}{C:Ae}{body:List Stmt}{b₀:Stmt}{suite:List Stmt}{tb:j4->TS}{th:TS}{np hp:Pos}(hst:X.stack=X.env :: X.outer)(hfr:X.env.frame=some X.env.locals)
    (hN:X.N.Nodup) (hi:X.N[i]? = some n) (hx:X.env.scope.names.lookup n=some .local) (hg:Gl X x) (hm:X.mg x=some C) (hb:wZ X body tb) (hs:∀ea,PSs (X.mark ea) (b₀ :: suite) th) (hdb:(x == ("__debug__" : Str))=false:=by decide) :
    PS X (.Try body [.ExceptHandler (some (.Name x np)) (some n) (b₀ :: suite) hp] [] [] pos) (zY X.K i C tb th):=by
  intro pins s σ H D I h
  refine wpAny_Try_except (Bt (hb pins s σ H D _ I h) (λf s1 q =>?_) λe s1 hx1 =>?_)
  · cases f with
    | next=>exact DK q
    | ret v=>exact q
    | brk=>exact q
    | cont=>exact q
  obtain ⟨σ1,H1,s0,ea,cls,a0,B,H2,d,I1,rfl,os,g,F,D,hm2,q⟩:=hx1
  have fl:=F.fl
  have hfr':X.A.frames=some (X.env :: X.outer):=by rw[I1.ok.frames,hst]
  rw[hst] at fl
  refine wW hfr' hfr fl λh4 held4 k4 e4 =>?_
  refine wX held4 λh5 f5 k5 e5 =>?_
  rw[<- hst] at f5
  have F5:=F.on f5 (k4.trans k5)
  have I5:Inv X pins σ1 H2 { s1 with heap:=h5 }:=I1.land os g F5
  refine wpAny_handleBy_cons (codeAny_handlers_test ?_) (by intro z;cases z)
  refine eJ (X:=X.mark ea) (I5.mark ea) hg hm ?_ hdb
  have LT:Looks (AQ X.prog X.w) h5 (typeOf (.ref ea)) cls:=by
    obtain ⟨ob,hob,hc⟩:=f5.there
    subst hc
    exact (Looks.ld hob).andThen .now
  refine (exm_one (M:=AQ X.prog X.w) I5.kIn LT hm2).here ?_
  refine codeAny_handlers_suite_as ?_
  refine wY f5 λh6 f6 k6 e6 =>?_
  have F6:=F5.on f6 k6
  have I6:Inv X pins σ1 H2 { s1 with heap:=h6 }:=I1.land os g F6
  have I7:=I1.yW I6 F6 (d:=d) (((D.kd e4).kd e5).kd e6)
  refine hV (v :=.ref ea) I7 hN hi (.inl hx) rfl (λs7 I8 =>?_) (.inr hx)
  have cls0:(X.env.scope.kind == .class || (X.env.scope.kind == .module && X.env.locals != X.env.globals))=false:=by rw[I.ok.kind];rfl
  have go:∀{σ2:St} {H3:Hp} {s8:Ag} {Q:Unit->Ag->Prop} {E:Ae->Ag->Prop},Inv (X.mark ea) pins σ2 H3 s8->(∀s9,Inv X pins (σ2.set i none) H3 s9->Q () s9)->AL (AQ X.prog X.w) X.A (do bindName X.env n .none;unbindBehindTheSuite X.env n hp) Q E s8:=λ{σ2 H3 s8 Q E} J hQ=>by
    have J':Inv X pins σ2 H3 s8:=J.unmark I.ok
    obtain ⟨m,hn,hl⟩:=J'.loc
    exact wpAny_nameGoes_keeps hx hn cls0 λh9 v hn9 hs9=>hQ _ (J'.gone hN hi hn hl hn9 hs9)
  refine Bt (hs ea pins s7 _ _ _ (I8.mark ea) (q ea F.no)) (λf s8 r =>?_) λ_ _ z=>False.elim z
  cases f with
  | next =>
    obtain ⟨σ2,H3,J,r⟩:=r
    exact go J λs9 J9=>⟨_,H3,J9,r⟩
  | brk =>
    obtain ⟨σ2,H3,J,r⟩:=r
    exact go J λs9 J9=>⟨_,H3,J9,r⟩
  | cont =>
    obtain ⟨σ2,H3,J,r⟩:=r
    exact go J λs9 J9=>⟨_,H3,J9,r⟩
  | ret u =>
    obtain ⟨v,σ2,H3,J,rv,r⟩:=r
    exact go J λs9 J9=>⟨v,_,H3,J9,rv,r⟩
end
open PySem PySem.Spec PySem.W PyProof.Rows
theorem oq {h:Heap}{bmB tl:List Ae}(T:OwnTail h bmB tl)(self:Ae)(what:Str):refuseLoop self what tl=refuseLoop self what bmB:=by
 induction T with
 | base=>rfl
 | own _ _ _ _ ih=>rw[refuseLoop_ref];exact ih
structure ExS (K:Ab)(C:Addr)(f:Str):Prop where
 sa:findIn K (.ref C) "__setattr__" = some (some (.builtin "object.__setattr__"))
 na:findIn K (.ref C) f=some none
 mo:subIn K (.ref C) (.type "object")=some true
section
variable  {K:Ab}{prog:Au}{w:AX}{A:A7}{E:Ae->Ag->Prop}{h:Heap}{g:Array GenState}{d:Drawn}{t:Nat}{os:OsState}{x C:Addr}{o:Obj}
variable  {nm q:Str}{N:Addr}{bs bm:List Ae}{sn:List Str}{sub:List Ae}{ab:Bool}{col:Option Bool}{dd:Option Addr}{k0 k1 k2 k3 k5:Option Ae}{newId:String}{name:Str}{v:Ae}
theorem vj {M:Model}{nv:Ae}{Q:Unit->Ag->Prop}(X:K.In h)(Z:ExS K C name)(hx:h.get? x=some o)(hc:o.cls = .ref C)(k:Q () ⟨h,g,d,t,os⟩):AL M A (checkBuiltinCall "object.__setattr__" ⟨[.ref x,nv,v],[]⟩) Q E ⟨h,g,d,t,os⟩:=by
 have k1:=Ck.kind
 have k2:=Ck.split
 have L1:=Gj (M:=M) X Z.mo
 have ha:=Ck.args (.ref x) nv v
 simp only[checkBuiltinCall,k1,k2]
 refine Af ?_
 unfold isInstance
 repeat (first | (with_reducible refine Bd hx ?_;rw[hc]) | with_reducible refine L1.at ?_ | wp_step)
 exact k
theorem vk {tk:Tok}{Q:Fin->Ag->Prop}(X:K.In h)(Z:ExS K C name)(hC:h.get? C=some (excClassObj nm q C N bs bm true sn sub ab col dd k0 k1 k2 k3 k5 newId))(T:OwnTail h fG bm)(hx:h.get? x=some o)(hc:o.cls = .ref C)(hd:o.dict=none)(hnc:∀c,o.data ≠ .cls c)
  (hq:∀h' tk',h'.get? x=some { o with dict:=some h.objs.size }->h'.Ns1 h.objs.size (λy=>if y=name then some v else none)->(∀b u,b≠x->h.get? b=some u->h'.get? b=some u)->Q (.done (.ret .none)) ⟨h',g,d,tk',os⟩) :
  AL (AQ prog w) A (Builtin.«object.__setattr__» ⟨[.ref x,.str name tk,v],[]⟩) Q E ⟨h,g,d,t,os⟩:=by
 have pass:refuseLoop (.ref x) "__setattr__" bm=pure ():=(oq T _ _).trans (Ck.passes (.ref x))
 have L1:=C0 (M:=AQ prog w) X Z.na
 unfold Builtin.«object.__setattr__»
 repeat (first | rw[refuse_eq] | (rw[refuseLoop_ref,pass]) | (with_reducible refine Bd hx ?_;rw[hc]) | with_reducible refine wpAny_mroOf_exc hC ?_ | with_reducible refine L1.at ?_ | wp_step)
 rw[hd,if_neg (by simp[typeHasDict])]
 let D:Obj:={ cls :=.type "dict",data :=.dict #[] }
 have p1:(h.push D).get? x=some o:=Ad _ hx
 have p2:x≠h.objs.size:=λz=>absurd (Ar hx) (z ▸ Bn _)
 have live:o.isFreed=false:=iw hx
 have u1:((h.push D).update x λo=>{ o with dict:=some h.objs.size }).get? x=some { o with dict:=some h.objs.size } :=
  Bj _ p1 (by obtain ⟨a,b,c,e⟩:=o;cases c <;> first | rfl | exact live)
 have u2:((h.push D).update x λo=>{ o with dict:=some h.objs.size }).get? h.objs.size=some D:=(C3 _ _ _ _ (Ca p2)).trans (EZ rfl rfl)
 have u3:∀b u,b≠x->h.get? b=some u->((h.push D).update x λo=>{ o with dict:=some h.objs.size }).get? b=some u:=λb u n e=>(C3 _ _ _ _ n).trans (Ad _ e)
 have emp:((h.push D).update x λo=>{ o with dict:=some h.objs.size }).Ns1 h.objs.size λ_=>none:=Heap.Ns1.of_empty ⟨D, #[],_,u2,rfl,λe m=>absurd m (by simp),λ_=>rfl⟩
 have fin:AL (AQ prog w) A (Builtin.ObjectAttr.storeInDict h.objs.size (.str name tk) name v) Q E ⟨(h.push D).update x λo=>{ o with dict:=some h.objs.size },g,d,t,os⟩:=by
  unfold Builtin.ObjectAttr.storeInDict Builtin.ObjectAttr.newKeyGuard
  refine Af (An (Af (wpAny_nsSet1 emp λh2 n2 s2 =>?_)))
  obtain ⟨ob,es,ep,e1,e2,e3⟩:=n2.count (Within.cons name v Within.nil)
  refine Af (wpAny_lookBehind e1 (by rw[e2];exact pastItsLine_dict (A8 e3 (by show 1<=_;decide))) ?_)
  wp_walk
  refine hq h2 _ ((s2.2 x p2).trans u1) n2 λb u n e=>(s2.2 b ?_).trans (u3 b u n e)
  exact λz=>absurd (Ar e) (z ▸ Bn _)
 split
 ·rename_i q
  cases q
 split
 ·rename_i c q
  exact absurd q (hnc c)
 ·refine Af (wpAny_alloc' (o:=D) ?_)
  refine Af (wpAny_update' p1 ?_)
  exact An fin
theorem w6 {Q:Unit->Ag->Prop}(X:K.In h)(Z:ExS K C name)(hC:h.get? C=some (excClassObj nm q C N bs bm true sn sub ab col dd k0 k1 k2 k3 k5 newId))(T:OwnTail h fG bm)(hx:h.get? x=some o)(hc:o.cls = .ref C)(hd:o.dict=none)(hnc:∀c,o.data ≠ .cls c)
  (hq:∀h' tk',h'.get? x=some { o with dict:=some h.objs.size }->h'.Ns1 h.objs.size (λy=>if y=name then some v else none)->(∀b u,b≠x->h.get? b=some u->h'.get? b=some u)->Q () ⟨h',g,d,tk',os⟩) :
  AL (AQ prog w) A (setAttr (.ref x) name v) Q E ⟨h,g,d,t,os⟩:=by
 have f3:=Ck.slot.bind (.ref x)
 have LS:=C0 (M:=AQ prog w) X Z.sa
 unfold setAttr callSpecial? specialOf
 repeat (any_goals (first | assumption | (with_reducible refine Bd hx ?_;rw[hc]) | with_reducible refine LS.at ?_ | wp_step))
 refine B6 Ck.slot.plain Ck.entry (vj X Z hx hc (vk X Z hC T hx hc hd hnc λh2 tk2 a b c =>?_))
 repeat (any_goals (first | assumption | wp_step))
 exact hq h2 tk2 a b c
end
def cD (ea C:Addr)(d:Option Addr):HO :=.ext λh=>∃o vs t,h.get? ea=some o/\o.cls = .ref C/\o.data = .fields vs/\vs.size=6/\vs[0]? = some (.ref t)/\vs[1]? = some .none/\o.dict=d
theorem mR {P:Au}{w:AX}{H:Hp}{h:Heap}{ea C:Addr}{d:Option Addr}(x:∃o vs t,h.get? ea=some o/\o.cls = .ref C/\o.data = .fields vs/\vs.size=6/\vs[0]? = some (.ref t)/\vs[1]? = some .none/\o.dict=d):bj P w H h ea (cD ea C d) :=
 ⟨x,by obtain ⟨o,_,_,e,_⟩:=x;exact ⟨o,e⟩,λh1 h2 p k=>by obtain ⟨o,vs,t,e,r⟩:=p;exact ⟨o,vs,t,k o e,r⟩⟩
structure ExN (K:Ab)(C:Addr):Prop where
 ob:∃nm q N bs bm sn sub ab col dd k0 k1 k2 k3 k5,K.lookup C=some (excClassObj nm q C N bs bm true sn sub ab col dd k0 k1 k2 k3 k5 "ValueError.__new__")/\tailIn K fG bm=true
section
variable  {X:Cx}{pins:List (Addr×Obj)}{σ:St}{H:Hp}{s:Ag}{ea C:Addr}{f:Str}{v:V}{u:Ae}
theorem Inv.yY {h':Heap}{tk:Nat}(I:Inv X pins σ H s)(he:H ea=some (cD ea C none))(o:Obj)(ho:s.heap.get? ea=some o)(r:RelV v u)(a:h'.get? ea=some { o with dict:=some s.heap.objs.size })
  (b:h'.Ns1 s.heap.objs.size (λy=>if y=f then some u else none)) (c:∀b u,b≠ea->s.heap.get? b=some u->h'.get? b=some u) :
  Inv X pins σ (upd (upd H s.heap.objs.size (.xd [(f,v)])) ea (cD ea C (some s.heap.objs.size))) { s with heap:=h',toks:=tk }:=by
 have hn:=I.fresh
 have ne:ea≠s.heap.objs.size:=AI (Ar ho)
 have nsD:=b
 obtain ⟨oD,es,ep,eD,rD⟩:=id b
 have k1:∀b u,s.heap.get? b=some u->(s.heap.push oD).get? b=some u:=λb u e=>Ad _ e
 have mu:Mut (upd H s.heap.objs.size (.xd [(f,v)]) ea):=by rw[au ne,he];exact True.intro
 have live:oD.isFreed=false:=iw eD
 have own:∀(c:Addr) (y:Addr),H c=some (.own y)->c≠ea:=λc y q z=>by rw[z,he] at q;cases q
 have tup:∀(c:Addr) xs,H c=some (.tup xs)->c≠ea:=λc xs q z=>by rw[z,he] at q;cases q
 refine I.un ((Un.laid k1 (Ah _) hn).trans (Un.write (x:=ea) (e:=ea) mu (.inl rfl) (λb u n e =>?_) ⟨_,a⟩)) λb w e =>?_
 ·by_cases z:b=s.heap.objs.size
  ·rw[z,EZ rfl live] at e
   cases e
   rw[z];exact eD
  ·refine c b u n ?_
   rwa [Heap.get?_push_ne _ _ _ z] at e
 ·by_cases z:b=ea
  ·subst z
   rw[ae] at e
   cases e
   obtain ⟨⟨o',vs,t,e1,e2,e3,e4,e5,e6,e7⟩,_⟩:=I.hok _ _ he
   rw[ho] at e1;cases e1
   exact mR ⟨_,vs,t,a,e2,e3,e4,e5,e6,rfl⟩
  ·rw[au z] at e
   by_cases y:b=s.heap.objs.size
   ·subst y
    rw[ae] at e
    cases e
    refine ⟨_,nsD,λg =>?_⟩
    show jB (List.lookup g [(f,v)]) (if g=f then some u else none)
    by_cases q:g=f
    ·have hb:(g == f)=true:=beq_iff_eq.mpr q
     rw[if_pos q];simp only[List.lookup,hb];exact r
    ·have hb:(g == f)=false:=beq_eq_false_iff_ne.mpr q
     rw[if_neg q];simp only[List.lookup,hb];exact True.intro
   ·rw[au y] at e
    refine (I.hok b w e).cx (λc' w' hc q=>c c' w' ?_ q) (λc' q =>?_) λc' xs q =>?_
    ·rcases hc with rfl | hc
     ·exact z
     ·exact own _ _ hc
    ·rw[au (own _ _ q),au (aA q hn)];exact q
    ·rw[au (tup _ _ q),au (aA q hn)];exact q
theorem vm {tk:Nat}{Q:Unit->Ag->Prop}{E:Ae->Ag->Prop}(I:Inv X pins σ H s)(he:H ea=some (cD ea C none))(N:ExN X.K C)(Z:ExS X.K C f)(r:RelV v u)
  (h:∀s' dx,H dx=none->dx≠ea->Inv X pins σ (upd (upd H dx (.xd [(f,v)])) ea (cD ea C (some dx))) s'->Q () s'):AL (AQ X.prog X.w) X.A (setAttr (.ref ea) f u) Q E s:=by
 obtain ⟨nm,q,N0,bs,bm,sn,sub,ab,col,dd,k0,k1,k2,k3,k5,lk,tl⟩:=N.ob
 have KI:=I.kIn
 obtain ⟨⟨o,vs,t,e1,e2,e3,e4,e5,e6,e7⟩,_⟩:=I.hok _ _ he
 obtain ⟨hh,g,d,tk,os⟩:=s
 refine w6 KI Z (KI _ _ lk) (GY KI tl) e1 e2 e7 (λc z=>by rw[e3] at z;cases z) λh' tk' a b c=>h _ hh.objs.size I.fresh (CZ (Ar e1)) ?_
 exact Inv.yY (tk:=tk') I he o e1 r a b c
def sExF (K:Ab)(ta tv:TE)(f:Str):TS:=λD σ H=>tv σ H λy H1=>ta σ H1 λx H2=>∃a C,x = .ref a/\H2 a=some (cD a C none)/\ExN K C/\ExS K C f/\∀dx,H2 dx=none->dx≠a →
 D.nx σ (upd (upd H2 dx (.xd [(f,y)])) a (cD a C (some dx)))
theorem yZ {o value:Expr}{pos pos':Pos}{ta tv:TE}(ha:PE X o ta)(hv:PE X value tv)(hs:swapsWith value (some (.Attribute o f pos')) pos.line X.env=pure false):PS X (.Assign [.Attribute o f pos'] value pos) (sExF X.K ta tv f):=by
 intro pins s σ H D I h
 refine plainObj_wpAny_Assign_Attribute (thn (hv pins s σ H _ I h) λu s1 ⟨y,H1,I1,ry,q⟩=>thn (ha pins s1 σ H1 _ I1 q) λov s2 ⟨x,H2,I2,rx,a,C,ex,e0,c,n,q2⟩ =>?_) hs
 subst ex
 obtain rfl:ov=As a:=rx
 exact vm (tk:=0) I2 e0 c n ry λs3 dx n1 n2 I3=>⟨σ,_,I3,q2 dx n1 n2⟩
end
open PySem PySem.Spec PySem.W PyProof.Rows
section
variable  {X:Cx}{pins:List (Addr×Obj)}{σ:St}{H:Hp}{s:Ag}{ea C:Addr}{d:Option Addr}
theorem Inv.y6 {its:List Ae}(I:Inv X pins σ H s)(he:H ea=some (cD ea C d)) :
  Inv X pins σ H { s with heap:=(s.heap.push { cls :=.type "tuple",data :=.seq its.toArray }).update ea (Obj.mapFields (·.setIfInBounds 0 (.ref s.heap.objs.size))) }:=by
 obtain ⟨⟨o,vs,t,e1,e2,e3,e4,e5,e6,e7⟩,_⟩:=I.hok _ _ he
 have p1:(s.heap.push { cls :=.type "tuple",data :=.seq its.toArray }).get? ea=some o:=Ad _ e1
 have k:∀b u,b≠ea->s.heap.get? b=some u->((s.heap.push { cls :=.type "tuple",data :=.seq its.toArray }).update ea (Obj.mapFields (·.setIfInBounds 0 (.ref s.heap.objs.size)))).get? b=some u:=λb u n e =>
  (C3 _ _ _ _ n).trans (Ad _ e)
 have m:=fH (·.setIfInBounds 0 (.ref s.heap.objs.size)) o
 have a:=Bj (Obj.mapFields (·.setIfInBounds 0 (.ref s.heap.objs.size))) p1 (m.2.2.trans (iw e1))
 have z:=I.write (x:=ea) (e:=ea) (o:=cD ea C d) (t':=s.toks) (by rw[he];exact True.intro) (.inl rfl) k ⟨_,a⟩
  (mR ⟨_,vs.setIfInBounds 0 (.ref s.heap.objs.size),s.heap.objs.size,a,m.1.trans e2,Ez e3 _,by simpa using e4,by rw[Array.getElem?_setIfInBounds_self_of_lt (by omega)],by rw[Array.getElem?_setIfInBounds_ne (by decide)];exact e6,m.2.1.trans e7⟩)
 have same:upd H ea (cD ea C d)=H:=by
  funext b
  by_cases q:b=ea
  ·rw[q,ae,he]
  ·rw[au q]
 rw[same] at z
 exact z
theorem w9 {us:List Ae}{Q:Ae->Ag->Prop}{E:Ae->Ag->Prop}(I:Inv X pins σ H s)(he:H ea=some (cD ea C d))(N:ExN X.K C)(hz:us.length<=Ai)(h:∀s',Inv X pins σ H s'->Q .none s') :
  AL (AQ X.prog X.w) X.A (call (.builtin "ValueError.__init__") (.ref ea :: us)) Q E s:=by
 obtain ⟨nm,q,N0,bs,bm,sn,sub,ab,col,dd,k0,k1,k2,k3,k5,lk,tl⟩:=N.ob
 have KI:=I.kIn
 have J:=Inv.y6 (its:=us) I he
 obtain ⟨⟨o,vs,t,e1,e2,e3,e4,e5,e6,e7⟩,_⟩:=I.hok _ _ he
 obtain ⟨hh,g,dr,tk,os⟩:=s
 refine Ei (B6 BV.init.plain BV.initEntry (wpAny_check_init_subT BV (GY KI tl) (KI _ _ lk) e1 e2 ?_))
 wp_walk
 rw[e3]
 refine An ?_
 show AL _ _ (match vs[0]? with | some x=>pure x | none=>unsupported "internal:no-such-field") _ _ _
 rw[e5]
 refine An (Af (FX (Ad _ e1) e3 (by omega) ?_))
 wp_walk
 exact h _ J
end
structure ExW (K:Ab)(mg:Str->Option Ae)(x:Str)(W:Addr):Prop where
 mg:mg x=some (.ref W)
 ga:specialIn K (.ref W) "__getattribute__" = some (some (.builtin "type.__getattribute__"))
 rd:readsIn K W (.type "type")=true
 fd:findCls K (.ref W) (.type "type") "__init__" = some (.val (.builtin "ValueError.__init__"))
def tExI (K:Ab)(t:TA):TE:=λσ H Q=>t σ H λvs H1=>∃a C d r,vs = .ref a :: r/\H1 a=some (cD a C d)/\ExN K C/\r.length<=Ai/\Q .non H1
section
variable  {X:Cx}{x:Str}{W:Addr}{e:Expr}{es:List Expr}{t:TA}{np apos pos:Pos}
theorem tJ {pl:Sem Bool}(w:ExW X.K X.mg x W)(hg:Gl X x)(ha:PA X (e :: es) t)(hdb:(x == ("__debug__" : Str))=false:=by decide)
    (he:Bf (e :: es) X.env=(false,eval e X.env) :: Bf es X.env:=by rfl) (hpl:(DP pos (Bf es X.env)).any (·.1)=false:=by rfl)
    (ht:eval (.Call (.Attribute (.Name x np) "__init__" apos) (e :: es) [] pos) X.env=(do
      let ov ← eval (.Name x np) X.env
      standAt apos.atName
      let (f,first) ← Gm [ov] (getMethod ov "__init__" pl)
      callWith pos f first (DP pos (Bf (e :: es) X.env)) (backToKw pos (keywordEach [] X.env))):=by rfl) :
    PE X (.Call (.Attribute (.Name x np) "__init__" apos) (e :: es) [] pos) (tExI X.K t):=by
  intro pins s σ H Q I h
  refine methodCall_KW (pl:=pl) (eJ I hg w.mg ?_ hdb) ht
  refine method_cls I.kIn w.ga (cls_value I.kIn w.rd w.fd (by decide +kernel) ?_)
  have hA:=ha pos pins { s with toks:=s.toks+1 } σ H _ (I.tok _) h
  rw[he] at hA ⊢
  refine Fq (by show (false || (DP pos (Bf es X.env)).any (·.1))=false;rw[hpl];rfl) (Ec ?_)
  refine thn hA λus s2 ⟨vs,H2,I2,r2,a,C,d,r,ev,ea,N,z,q⟩ =>?_
  subst ev
  cases r2 with | cons r3 r4 =>
  have r3:_=As a:=r3
  subst r3
  exact w9 I2 ea N (by rw[<- r4.length];exact z) λs3 I3=>⟨.non,H2,I3,rfl,q⟩
end
open PySem PySem.Spec PySem.W PyProof.Rows
section
variable  {K:Ab}{prog:Au}{w:AX}{A:A7}{E:Ae->Ag->Prop}{h:Heap}{g:Array GenState}{d:Drawn}{t:Nat}{os:OsState}{C fI:Addr}{us:List Ae}
variable  {nm q:Str}{N:Addr}{bs bm:List Ae}{hdct:Bool}{sn:List Str}{sub:List Ae}{ab:Bool}{col:Option Bool}{dd:Option Addr}{k0 k1 k2 k3 k5:Option Ae}
theorem xc {Q:PySem.Fin->Ag->Prop}(X:K.In h)(T:OwnTail h fG bm)(hC:h.get? C=some (excClassObj nm q C N bs bm hdct sn sub ab col dd k0 k1 k2 k3 k5 "ValueError.__new__"))
  (hi:findIn K (.ref C) "__init__" = some (some (.ref fI))) (hf:typeIn K (.ref fI)=some (.type "function")) (hz:us.length<=Ai)
  (hq:∀h',Heap.MadeExcOf h h' (h.objs.size+1) (.ref C) us->AL (AQ prog w) A (call (.ref fI) (.ref (h.objs.size+1) :: us)) (λr s'=>r = .none/\Q (.done (.ret (.ref (h.objs.size+1)))) s') E ⟨h',g,d,t,os⟩) :
  AL (AQ prog w) A (Builtin.«type.__call__» ⟨.ref C :: us,[]⟩) Q E ⟨h,g,d,t,os⟩:=by
 repeat (first | with_reducible refine Bd hC ?_ | with_reducible refine wpAny_madeBy_exc hC ?_ | wp_step)
 refine codeAny_call_builtin_code (CL _ BV.quiet) (wpAny_check_new_subT BV T hC (codeAny_exc_new_subT BV T hC ?_ hz))
 show AL _ _ _ _ _ _
 have made:Heap.MadeExcOf h ((h.push { cls :=.type "tuple",data :=.seq us.toArray }).push { cls :=.ref C,data :=.fields #[.ref h.objs.size,.none,.none,.none,.bool false,.none] }) (h.objs.size+1) (.ref C) us :=
  ⟨λb o e=>Ad _ (Ad _ e),Dt (Ej _),h.objs.size,by heap_get,Dt (Ah _),Ad _ (EZ rfl rfl)⟩
 obtain ⟨p,tup,e1,e2,e3⟩:=id made
 have X':K.In ((h.push { cls :=.type "tuple",data :=.seq us.toArray }).push { cls :=.ref C,data :=.fields #[.ref h.objs.size,.none,.none,.none,.bool false,.none] }):=X.keeps p
 have hC':=p _ _ hC
 have own:(As C :: bm).contains (.ref C)=true:=by simp
 have L1:=C0 (M:=AQ prog w) X' hi
 have L2:=looks_typeIn (M:=AQ prog w) X' hf
 unfold isInstance
 repeat (first | with_reducible refine Bd e1 ?_ | (with_reducible refine wpAny_isSubtype_exc hC' ?_;rw[own]) | wp_step)
 show AL _ _ (typeLookup (.ref C) _) _ _ _
 refine L1.here ?_
 refine B4 (Af ?_)
 refine (bind_fn X' (.ref (h.objs.size+1)) hf).here ?_
 refine Af (Bt (hq _ made) (λr s' z =>?_) λ_ _ z=>z)
 obtain ⟨rfl,z⟩:=z
 wp_walk
 exact z
theorem xf {Q:Ae->Ag->Prop}(X:K.In h)(T:OwnTail h fG bm)(hC:h.get? C=some (excClassObj nm q C N bs bm hdct sn sub ab col dd k0 k1 k2 k3 k5 "ValueError.__new__"))
  (hi:findIn K (.ref C) "__init__" = some (some (.ref fI))) (hf:typeIn K (.ref fI)=some (.type "function")) (hz:us.length<=Ai)
  (hq:∀h',Heap.MadeExcOf h h' (h.objs.size+1) (.ref C) us->AL (AQ prog w) (A.under (.builtin "type.__call__" ⟨.ref C :: us,[]⟩)) (call (.ref fI) (.ref (h.objs.size+1) :: us)) (λr s'=>r = .none/\Q (.ref (h.objs.size+1)) s') E ⟨h',g,d,t,os⟩) :
  AL (AQ prog w) A (call (.ref C) us) Q E ⟨h,g,d,t,os⟩:=by
 have l1:=tc_lookup
 have l2:=tc_bind (.ref C)
 have ty:(⟨h,g,d,t,os⟩:Ag).TypeIs (.ref C) "type" :=⟨_,hC,rfl⟩
 refine Ei (Eo ?_)
 show AL _ _ (callAny (.ref C) _) _ _ _
 repeat (any_goals (first | assumption | with_reducible refine Bd hC ?_ | wp_step))
 refine ⟨rfl,codeAny_call_builtin_at (CL _ (by decide +kernel)) entry_typeCall (wpAny_check_type_call_sub hC (xc X T hC hi hf hz λh' made =>?_))⟩
 exact hq h' made
end
structure ExK (K:Ab)(C f:Addr):Prop where
 n:ExN K C
 init:findIn K (.ref C) "__init__" = some (some (.ref f))
 fn:isFn K (.ref f)=true
 kp:keepIn K (.ref C)=true
section
variable  {X:Cx}{CX:CXT}{k:Nat}{f C:Addr}{fd:Be}{ps:List Str}{sp:Sp}{E:XK}{x:Str}{p pos:Pos}{e:Expr}{es:List Expr}{t:TA}
theorem tK {R:Ae->Ag->Prop}{pins:List (Addr×Obj)}{σ:St}{H:Hp}{s:Ag}{Q:VK}{us:List Ae}{vs:List V}(M:ExK X.K C f)(F:bC X.prog X.w X.K X.mg X.base CX k f fd ps sp)(hr:bU (k+1) X.A)(hb:Binds X.K fd ps [])
  (hx:Passes CX X E) (I:Inv X pins σ H s) (r:Vals vs us) (hz:vs.length<=Ai) (h:∀ea,H ea=none->sp (.ref ea :: vs) (upd H ea (cD ea C none)) (λv H2=>v = .non/\Q (.ref ea) H2) E)
  (hR:∀ea s' H',X.s₀.heap.get? ea=none->Inv X pins σ H' s'->Q (.ref ea) H'->R (.ref ea) s'):AL (AQ X.prog X.w) X.A (call (.ref C) us) R X.xe s:=by
 have hq:=h (s.heap.objs.size+1) (I.hok.fresh (Ej _))
 obtain ⟨nm,q,N0,bs,bm,sn,sub,ab,col,dd,k0,k1,k2,k3,k5,lk,tl⟩:=M.n.ob
 have KI:=I.kIn
 have new:X.s₀.heap.get? (s.heap.objs.size+1)=none:=Dt (Dq I.sz)
 obtain ⟨hh,g,d,tk,os⟩:=s
 refine xf KI (GY KI tl) (KI _ _ lk) M.init (beq_iff_eq.mp M.fn) (by rw[<- r.length];exact hz) λh' made =>?_
 obtain ⟨kp,_,tp,m1,m2,m3⟩:=id made
 have I2:Inv X pins σ (upd H (hh.objs.size+1) (cD (hh.objs.size+1) C none)) ⟨h',g,d,tk,os⟩ :=
  I.laid (s:=⟨hh,g,d,tk,os⟩) (t':=tk) kp (Ej _) (mR ⟨_,_,tp,m1,rfl,rfl,rfl,rfl,rfl,rfl⟩)
 have r2:Vals (V.ref (hh.objs.size+1) :: vs) (As (hh.objs.size+1) :: us) :=.cons rfl r
 have hl:(As (hh.objs.size+1) :: us).length=ps.length:=by rw[<- r2.length];exact F.len _ _ _ _ hq
 have hb':=hb ⟨h',g,d,tk,os⟩ (As (hh.objs.size+1) :: us) I2.kIn (by rw[AZ];exact hl)
 rw[AZ] at hb'
 refine Ei (CN (F.run _ X.stack _ _ ⟨As (hh.objs.size+1) :: us,[]⟩ (As (hh.objs.size+1) :: us) _ _ E (hr.make C us []) (I2.yk.make C us []) hb' r2 hq) λr s' hq' =>?_)
 cases r with
 | error e=>exact hx pins σ _ _ e s' I2 hq'
 | ok fl =>
  cases fl with
  | ret u =>
   obtain ⟨v,H',I3,rv,ev,q3⟩:=I2.after hq'
   subst ev
   exact ⟨rv,hR _ _ _ new I3 q3⟩
  | next=>exact False.elim hq'
  | brk=>exact False.elim hq'
  | cont=>exact False.elim hq'
end
open PySem PySem.Spec PySem.W PyProof.Rows
section
variable  {K:Ab}{M:Model}{A:A7}{E:Ae->Ag->Prop}{s:Ag}{env:Env}{C:Addr}
theorem xg {x:Sem Ae}{Q:Flow->Ag->Prop}(hh:A.handled=none)(sb:subIn K (.ref C) (.type "BaseException")=some true)(ty:typeIn K (.ref C)=some (.type "type"))
  (h:AL M A x (λv s₁=>∃e o vs,v = .ref e/\K.In s₁.heap/\s₁.heap.get? e=some o/\o.cls = .ref C/\o.data = .fields vs/\vs[1]? = some .none/\E (.ref e) s₁) E s):AL M A (raiseStmt env (some x) none) Q E s:=by
 unfold raiseStmt
 refine Af (Bt h (λv s₁ z =>?_) λ_ _ z=>z)
 obtain ⟨e,o,vs,rfl,X,he,hc,hd,h1,hE⟩:=z
 obtain ⟨hp,g,d,tk,os⟩:=s₁
 have L1:=Gj (M:=M) X sb
 have L2:=looks_typeIn (M:=M) X ty
 repeat (first | (with_reducible refine Bd he ?_;first | rw[hc] | rw[hd]) | with_reducible refine L1.at ?_ | with_reducible refine L2.at ?_ | wp_step)
 rw[hd]
 refine An ?_
 show AL _ _ (match vs[1]? with | some x=>pure x | none=>unsupported "internal:no-such-field") _ _ _
 rw[h1]
 refine An ?_
 repeat (first | (with_reducible refine Bd he ?_;first | rw[hc] | rw[hd]) | with_reducible refine L1.at ?_ | with_reducible refine L2.at ?_ | wp_step)
 exact Gi hh hE
end
def rm (H:Hp)(a:Addr):Hp:=λb=>if b=a then none else H b
theorem gD {H:Hp}{a b:Addr}(n:b≠a):rm H a b=H b:=if_neg n
theorem mS {H:Hp}{a:Addr}:rm H a a=none:=if_pos rfl
theorem HOk.rm {P:Au}{w:AX}{H:Hp}{h:Heap}{a:Addr}{φ:Heap->Prop}(x:HOk P w H h)(e:H a=some (.ext φ)):HOk P w (rm H a) h:=λb u q=>by
 have n:b≠a:=λz=>by rw[z,mS] at q;cases q
 rw[gD n] at q
 exact (x b u q).cx (λ_ _ _ y=>y) (λc y=>by rw[gD (λz=>by rw[z,e] at y;cases y)];exact y) λc xs y=>by rw[gD (λz=>by rw[z,e] at y;cases y)];exact y
section
variable  {X:Cx}{pins:List (Addr×Obj)}{σ:St}{H:Hp}{s:Ag}{ea C:Addr}{d:Option Addr}
theorem Fly.zZ {M:Model}{E:Ae->Ag->Prop}{Q:Unit->Ag->Prop}(I:Inv X pins σ H s)(hst:X.stack=X.env :: X.outer)(hfr:X.env.frame=some X.env.locals)(hex:X.ex=[])
  (he:H ea=some (cD ea C d)) (hn:X.s₀.heap.get? ea=none) (hQ:∀h2 B a0,Fly X.prog X.w X.outer X.H₀ (rm H ea) X.s₀.heap B ea (.ref C) a0 h2->XD h2 ea d->Q () { s with heap:=h2 }):AL M X.A (leaving X.env (.ref ea)) Q E s:=by
 obtain ⟨⟨o,vs,t,e1,e2,e3,e4,e5,e6,e7⟩,_⟩:=I.hok _ _ he
 have ff:=I.stack
 have ff':=funFrames_hide (as:=ea :: frs X.stack) ff λenv hm b hb=>AM _ (C8.mpr ⟨env,hm,hb⟩)
 have fh:∀b∈frs X.stack,H b=none:=I.jq
 have nL:∀b o,X.s₀.heap.get? b=some o->b≠X.env.locals:=λb o q z=>absurd (Ay (Ar q) (z ▸ I.ok.above)) (Bn _)
 have ne:∀b o,X.s₀.heap.get? b=some o->b≠ea:=λb o q z=>by rw[z,hn] at q;cases q
 have nst:∀b,b∉X.fs->b≠X.env.locals->b≠ea->b∉ea :: frs X.stack:=λb n1 n2 n3 m=>by
  rcases AH.mp m with m | m
  ·exact n3 m
  rw[hst] at m
  unfold frs at m
  rw[BM,hfr] at m
  rcases AH.mp m with z | z
  ·exact n2 z
  ·exact n1 z
 have sub:∀b∈X.fs,b∈frs X.stack:=λb m=>by
  rw[hst];unfold frs;rw[BM,hfr];exact AM _ m
 have nx:∀b,b∉X.ex:=λb m=>by rw[hex] at m;cases m
 have nh:∀b u,(∀φ,u≠HO.ext φ)->H b=some u->b≠ea:=λb u nu q z=>by rw[z,he] at q;cases q;exact nu _ rfl
 have none_ea:(hideAll s.heap (ea :: frs X.stack)).get? ea=none:=hideAll_none _ (.head _)
 have z:=cP (gz X.env (.ref ea)) (wpAny_leaving_firstW (M:=M) (A:=X.A) (E:=E) (s:=s) (base:=hideAll s.heap (ea :: frs X.stack)) (outer:=X.outer) (a0 :=.ref t) (Q:=λ_ s2=>∃h2,s2={ s with heap:=h2 }/\Heap.LeftW (hideAll s.heap (ea :: frs X.stack)) (X.env :: X.outer) ea o.cls (.ref t) s.heap h2)
  (by rw[I.ok.frames,hst]) (by rw[<- hst];exact ff') hfr e1 (λb u q=>of_hideAll _ q) none_ea e3 e6 e5 λh2 y=>⟨h2,rfl,y⟩)
 refine Bt z (λ_ s2 y =>?_) λ_ _ y=>y.1
 obtain ⟨⟨h2,rfl,L⟩,kd⟩:=y
 obtain ⟨k1,⟨_,_,k2⟩,k3,k4⟩:=L
 rw[e2] at k3
 have f2:Heap.FlyingW (hideAll s.heap (ea :: frs X.stack)) X.outer ea (.ref C) (.ref t) h2:=⟨k1,none_ea,k2,k3⟩
 have sl:∀b∈frs X.stack,∀o,s.heap.get? b=some o->∃sl,h2.get? b=some { o with slots:=sl }:=λb m o e=>by
  obtain ⟨_,o',ho',hd⟩:=ff.mem m
  rw[e] at ho';cases ho'
  exact k4 b o e hd
 refine hQ h2 _ _ ⟨f2,⟨λb o q n m _ =>?_,λb o q n m _ =>?_,λb o q n _ =>?_,λb o q _ =>?_,λb xs q =>?_,λb o u q =>?_,λb ps q =>?_⟩,(I.hok.rm he).hide λb m =>?_,λb o q n m =>?_,λb o q m =>?_⟩ ?_
 ·exact k1 _ _ (Dm _ (I.base.keep b o q n m (nx b)) (nst b m (nL b o q) (ne b o q)))
 ·obtain ⟨s1,e⟩:=I.base.slot b o q n m (nx b)
  obtain ⟨s2,e'⟩:=sl b (sub b m) _ e
  exact ⟨s2,e'⟩
 ·rw[gD (ne b o q)];exact I.base.free b o q n (nx b)
 ·obtain ⟨o',e⟩:=I.base.there b o q (nx b)
  by_cases m:b∈frs X.stack
  ·obtain ⟨s2,e'⟩:=sl b m _ e
   exact ⟨_,e'⟩
  ·exact ⟨o',k1 _ _ (Dm _ e λmm=>(AH.mp mm).elim (ne b o q) m)⟩
 ·have y:=I.base.tups b xs q
  rw[gD (nh b _ (λ_ z=>by cases z) y)];exact y
 ·have y:=I.base.frzs b o u q
  rw[gD (nh b _ (λ_ z=>by cases z) y)];exact y
 ·obtain ⟨mo,y⟩:=I.base.tbls b ps q
  exact ⟨mo,by rw[gD (nh b _ (λ_ z=>by cases z) y)];exact y⟩
 ·rcases AH.mp m with m | m
  ·rw[m,mS]
  ·by_cases q:b=ea
   ·rw[q,mS]
   ·rw[gD q];exact fh b m
 ·exact Dm _ (I.base.keep b o q n m (nx b)) (nst b m (nL b o q) (ne b o q))
 ·obtain ⟨o',e⟩:=I.base.there b o q (nx b)
  exact ⟨o',Dm _ e (nst b m (nL b o q) (ne b o q))⟩
 ·exact λdx ed=>XD.kd kd (λdx' e'=>⟨o,e1,e7.trans e'⟩) dx ed
end
def xU (X:Cx)(E:XK):Prop:=∀(pins:List (Addr×Obj)) (σ:St) (H:Hp) (s:Ag) (ea C:Addr) (d:Option Addr),Inv X pins σ H s->H ea=some (cD ea C d)->X.s₀.heap.get? ea=none->E (.ref C) d (rm H ea)->X.xe (.ref ea) s
theorem xV {P:Au}{w:AX}{K:Ab}{mg:Str->Option Ae}{base:Heap}{N:List Str}{qual:Str}{sc:Scope}{f:Addr}{cdv:Ae}{A:A7}{outer:List Env}{s₀:Ag}{H₀:Hp}{E:XK} :
  xU (jh (CX2 P w) P w K mg base N qual sc f cdv A outer s₀ H₀ E) E:=λpins σ H s ea C d I he hn q=>by
 exact Fly.zZ I rfl rfl rfl he hn λh2 B a0 F2 D=>⟨ea,.ref C,a0,B,rm H ea,d,rfl,I.os,I.bare,F2,D,q⟩
def mT (C:Addr)(sp:Sp)(E:XK)(t:TA):TS:=λ_ σ H=>t σ H λvs H1=>vs.length<=Ai/\∀ea,H1 ea=none →
 sp (.ref ea :: vs) (upd H1 ea (cD ea C none)) (λv H2=>v = .non/\∃a d,V.ref ea = .ref a/\H2 a=some (cD a C d)/\E (.ref C) d (rm H2 a)) E
theorem lS {X:Cx}{CX:CXT}{k:Nat}{f C:Addr}{fd:Be}{ps:List Str}{sp:Sp}{E:XK}{x:Str}{np cpos pos:Pos}{e:Expr}{es:List Expr}{t:TA}(O:xU X E)(M:ExK X.K C f)(sb:subIn X.K (.ref C) (.type "BaseException")=some true)(ty:typeIn X.K (.ref C)=some (.type "type"))
  (F:bC X.prog X.w X.K X.mg X.base CX k f fd ps sp) (hr:bU (k+1) X.A) (hg:Gl X x) (hm:X.mg x=some (.ref C)) (hb:Binds X.K fd ps []) (hx:Passes CX X E)
  (ha:PA X (e :: es) t) (hdb:(x == ("__debug__" : Str))=false:=by decide) (he:Bf (e :: es) X.env=(false,eval e X.env) :: Bf es X.env:=by rfl) (hpl:(DP cpos (Bf es X.env)).any (·.1)=false:=by rfl) :
  PS X (.Raise (some (.Call (.Name x np) (e :: es) [] cpos)) none pos) (mT C sp E t):=by
 intro pins s σ H D I h
 rw[arm_exec_Raise]
 have go:AL (AQ X.prog X.w) X.A (eval (.Call (.Name x np) (e :: es) [] cpos) X.env) (λv s₁=>∃e o vs,v = .ref e/\X.K.In s₁.heap/\s₁.heap.get? e=some o/\o.cls = .ref C/\o.data = .fields vs/\vs[1]? = some .none/\X.xe (.ref e) s₁) X.xe s:=by
  refine Dd (eJ I hg hm ?_ hdb)
  refine Ex (h₀:=X.base) I.ok.mod.kin M.kp (thn (ha cpos pins s σ H _ I h) λus s1 ⟨vs,H1,I1,r,z,q⟩=>⟨I1.kIn,?_⟩) he hpl
  refine tK (Q:=λv H2=>∃a d,v = .ref a/\H2 a=some (cD a C d)/\E (.ref C) d (rm H2 a)) M F hr hb hx I1 r z q λea s2 H2 n I2 ⟨a,d,ev,e2,q2⟩ =>?_
  cases ev
  obtain ⟨⟨o,ws,t,e1,c1,c2,c3,c4,c5,c6⟩,_⟩:=I2.hok _ _ e2
  exact ⟨ea,o,ws,rfl,I2.kIn,e1,c1,c2,c5,O pins σ H2 s2 ea C d I2 e2 n q2⟩
 refine Af (Eg (xg hr.hd sb ty ?_))
 refine Af (Bt go (λv s₃ h₃=>Af (Eg (An h₃))) λ_ _ x=>x)
open PySem PySem.Spec PySem.W PyProof.Rows
section
variable  {K:Ab}{prog:Au}{w:AX}{A:A7}{E:Ae->Ag->Prop}{h:Heap}{g:Array GenState}{d:Drawn}{t:Nat}{os:OsState}{a C dx:Addr}{o:Obj}{name:Str}{v:Ae}{mA:Str->Option Ae}
variable  {nm q:Str}{N:Addr}{bs bm:List Ae}{sn:List Str}{sub:List Ae}{ab:Bool}{col:Option Bool}{dd:Option Addr}{k0 k1 k2 k3 k5:Option Ae}{newId:String}
theorem vn {tk:Tok}{Q:PySem.Fin->Ag->Prop}(X:K.In h)(na:findIn K (.ref C) name=some none)(hC:h.get? C=some (excClassObj nm q C N bs bm true sn sub ab col dd k0 k1 k2 k3 k5 newId))(hx:h.get? a=some o)(hc:o.cls = .ref C)(hnc:∀c,o.data ≠ .cls c)(hd:o.dict=some dx)(hn:h.Ns dx mA)(hv:mA name=some v)
  (hq:Q (.done (.ret v)) ⟨h,g,d,t,os⟩):AL (AQ prog w) A (Builtin.«object.__getattribute__» ⟨[.ref a,.str name tk],[]⟩) Q E ⟨h,g,d,t,os⟩:=by
 have L1:=C0 (M:=AQ prog w) X na
 repeat (first | (with_reducible refine Bd hx ?_;rw[hc]) | with_reducible refine L1.at ?_ | wp_step)
 split
 ·rename_i c z
  exact absurd z (hnc c)
 unfold instanceDict
 repeat (first | (with_reducible refine Bd hx ?_;rw[hc]) | with_reducible refine Bd hC ?_ | wp_step)
 rw[hd]
 repeat (first | (with_reducible refine wpAny_nsGet hn ?_;rw[hv]) | wp_step)
 exact hq
theorem xh {expr:Bool}{Q:Ae->Ag->Prop}(X:K.In h)(Z:ExI K C)(na:findIn K (.ref C) name=some none)(hC:h.get? C=some (excClassObj nm q C N bs bm true sn sub ab col dd k0 k1 k2 k3 k5 newId))(hx:h.get? a=some o)(hc:o.cls = .ref C)(hnc:∀c,o.data ≠ .cls c)(hd:o.dict=some dx)(hn:h.Ns dx mA)(hv:mA name=some v)(hh:handedOut v=pure v)
  (hq:Q v ⟨h,g,d,t+1,os⟩):AL (AQ prog w) A (getAttr (.ref a) name expr) Q E ⟨h,g,d,t,os⟩:=by
 have f3:=(Dl).ga.bind (.ref a)
 have y2:(Value.builtin "BaseException.__getattribute__" == Value.builtin "object.__getattribute__")=false:=by decide +kernel
 have y1:(onTheHeap (As C) && Value.builtin "BaseException.__getattribute__" == Value.builtin "object.__getattribute__")=false:=by rw[y2];rfl
 have L1:=C0 (M:=AQ prog w) X Z.ga
 have L2:=C0 (M:=AQ prog w) X Z.gt
 unfold getAttr getAttrBy
 repeat (any_goals (first | assumption | (with_reducible refine Bd hx ?_;rw[hc]) | with_reducible refine L1.at ?_ | with_reducible refine L2.at ?_ | wp_step))
 rw[show (expr && onTheHeap (Value.builtin "BaseException.__getattribute__"))=false from EJ _,if_neg (by decide)]
 unfold boundAndCalled
 repeat (any_goals (first | assumption | wp_step))
 refine B6 (Dl).ga.plain Hv (oi X Z hx hc (vn X na hC hx hc hnc hd hn hv ?_))
 show AL _ _ (handedOut v) _ _ _
 rw[hh]
 exact An hq
end
def tExA (K:Ab)(ta:TE)(f:Str):TE:=λσ H Q=>ta σ H λx H1=>∃a C dx fs v,x = .ref a/\H1 a=some (aU a (.ref C) (some dx))/\H1 dx=some (.xd fs)/\ExN K C/\ExI K C/\findIn K (.ref C) f=some none/\fs.lookup f=some v/\Q v H1
theorem vo {X:Cx}{e:Expr}{f:Str}{pos:Pos}{ta:TE}(he:PE X e ta)(hb:attributeBase e f X.env (eval e X.env)=eval e X.env):PE X (.Attribute e f pos) (tExA X.K ta f):=by
 intro pins s σ H Q I h
 refine vS hb (thn (he pins s σ H _ I h) λu s1 ⟨x,H1,I1,rx,a,C,dx,fs,v,ex,ea,ed,N,Z,na,l,q⟩ =>?_)
 subst ex
 obtain rfl:u=As a:=rx
 obtain ⟨nm,qq,N0,bs,bm,sn,sub,ab,col,dd,k0,k1,k2,k3,k5,lk,tl⟩:=N.ob
 obtain ⟨⟨o,vs,e1,e2,e3,e4⟩,_⟩:=I1.hok _ _ ea
 obtain ⟨mA,ns,r⟩:=I1.hok _ _ ed
 obtain ⟨u,hu,ru⟩:=jB.some_of (v:=v) (o:=mA f) (by rw[<- l];exact r f)
 have KI:=I1.kIn
 have J:=I1.tok (s1.toks+1)
 obtain ⟨hh,g,d,tk,os⟩:=s1
 exact xh KI Z na (KI _ _ lk) e1 e2 (λc z=>by rw[e3] at z;cases z) (e4 dx rfl) ns.ns hu (handedOut_of (rR ru)) ⟨v,H1,J,ru,q⟩
open PySem PySem.Spec PySem.W PyProof.Rows
section
variable  {X:Cx}
theorem bD {K:Ab}(hK:X.K=K:=by rfl):b8 X (.builtin "isinstance") (λxs H Q=>∃(ea C:Addr) (d:Option Addr) (c:V) (b:Bool),xs=[.ref ea,c]/\H ea=some (aU ea (.ref C) d)/\ExI K C/\xS c=true/\kitOne K (.ref C) (zV c)=some b/\Q (.bl b) H):=by
 subst hK
 intro pins s σ H xs us Q I r h
 obtain ⟨ea,C,d,c,b,rfl,he,Z,hc,hk,q⟩:=h
 cases r with | cons r1 r2 =>
 cases r2 with | cons r2 r3 =>
 cases r3
 obtain rfl:=wV hc r2
 have r1:_=As ea:=r1
 subst r1
 obtain ⟨⟨o,_,e1,e2,_⟩,_⟩:=I.hok ea _ he
 have p:∃o,s.heap.get? ea=some o/\o.cls = .ref C:=⟨o,e1,e2⟩
 exact kia_one (vg Z) I.kIn p hk (by intro z;cases z) λtk=>⟨.bl b,H,I.tok tk,rfl,q⟩
end
open PySem PySem.Spec PyProof.Rows
def cb (K:Ab)(x:Str)(st:Stmt):Prop:=∃(f:Addr) (od an:Option Addr) (sl:Array (Option Ae)) (oc kV dc pm cd ct:Ae),A4 K AR x=some (some (.ref f))/\K.lookup f=some ⟨oc,od,.func (PySem.W.fnOf x x (cg st) (bG st) (aq st) .none kV dc pm an cd ct),sl⟩/\PySem.W.codeIn K cd x=true/\PySem.W.keepIn K (.ref f)=true
theorem cb.mk {K:Ab}{x:Str}{st:Stmt}{f:Addr}{od an:Option Addr}{sl:Array (Option Ae)}{oc kV dc pm cd ct:Ae}(a:A4 K AR x=some (some (.ref f)))(l:K.lookup f=some ⟨oc,od,.func (PySem.W.fnOf x x (cg st) (bG st) (aq st) .none kV dc pm an cd ct),sl⟩)(c:PySem.W.codeIn K cd x=true)(k:PySem.W.keepIn K (.ref f)=true):cb K x st:=⟨_,_,_,_,_,_,_,_,_,_,a,l,c,k⟩
theorem cb.cal {K:Ab}{x:Str}{st:Stmt}(hf:cb K x st)(P:Au)(w:AX)(base:Heap){h:Heap}{mg:Str->Option Ae}(X:K.In h)(G:h.Ns AR mg){lv:Nat}{ps:List Str}{sp:Sp}(ok:∀{f:Addr} {fd:Be},Fun K x x st f fd->bC P w K mg base CX0 lv f fd ps sp)
  (hb:∀(kV doc pm:Ae) (an:Option Addr) (cdv ct:Ae) (us:List Ae),us.length=ps.length->bindArgs (PySem.W.fnOf x x (cg st) (bG st) (aq st) .none kV doc pm an cdv ct) ⟨us,[]⟩=pure (ps.zip us)):Cal P w K mg base lv x ps sp:=by
 obtain ⟨f,od,an,sl,oc,kV,dc,pm,cd,ct,a,l,c,k⟩:=hf
 have F:=my l c k
 exact ⟨_,_,ok F,Br X G a,k,F.binds hb⟩
open PySem PySem.Spec PySem.W PyProof.Rows
section
variable  {X:Cx}{pins:List (Addr×Obj)}{σ:St}{H:Hp}{s:Ag}{h':Heap}
end
section
variable  {X:Cx}
end
def tL (K:Ab)(C:Addr)(nm qual:Str)(st:Stmt):Prop:=∃(f:Addr) (od an:Option Addr) (sl:Array (Option Ae)) (oc kV dc pm cd ct:Ae),findIn K (.ref C) nm=some (some (.ref f))/\isFn K (.ref f)=true/\K.lookup f=some ⟨oc,od,.func (PySem.W.fnOf nm qual (cg st) (bG st) (aq st) .none kV dc pm an cd ct),sl⟩/\PySem.W.codeIn K cd qual=true/\PySem.W.keepIn K (.ref f)=true
theorem tL.mk {K:Ab}{C:Addr}{nm qual:Str}{st:Stmt}{f:Addr}{od an:Option Addr}{sl:Array (Option Ae)}{oc kV dc pm cd ct:Ae}(i:findIn K (.ref C) nm=some (some (.ref f)))(n:isFn K (.ref f)=true)(l:K.lookup f=some ⟨oc,od,.func (PySem.W.fnOf nm qual (cg st) (bG st) (aq st) .none kV dc pm an cd ct),sl⟩)(c:PySem.W.codeIn K cd qual=true)(k:PySem.W.keepIn K (.ref f)=true):tL K C nm qual st:=⟨_,_,_,_,_,_,_,_,_,_,i,n,l,c,k⟩
structure z4 (P:Au)(w:AX)(K:Ab)(mg:Str->Option Ae)(base:Heap)(k:Nat)(C:Addr)(ps:List Str)(sp:Sp):Prop where
 ex:∃f fd,ExK K C f/\bC P w K mg base (CX2 P w) k f fd ps sp/\Binds K fd ps []
theorem tL.ini {K:Ab}{C:Addr}{qual:Str}{st:Stmt}(hf:tL K C "__init__" qual st)(N:ExN K C)(kp:keepIn K (.ref C)=true)(P:Au)(w:AX)(base:Heap){mg:Str->Option Ae}{lv:Nat}{ps:List Str}{sp:Sp}(ok:∀{f:Addr} {fd:Be},Fun K "__init__" qual st f fd->bC P w K mg base CX0 lv f fd ps sp)
  (hb:∀(kV doc pm:Ae) (an:Option Addr) (cdv ct:Ae) (us:List Ae),us.length=ps.length->bindArgs (PySem.W.fnOf "__init__" qual (cg st) (bG st) (aq st) .none kV doc pm an cdv ct) ⟨us,[]⟩=pure (ps.zip us)):z4 P w K mg base lv C ps sp:=by
 obtain ⟨f,od,an,sl,oc,kV,dc,pm,cd,ct,i,n,l,c,k⟩:=hf
 have F:=my l c k
 exact ⟨_,_,⟨N,i,n,kp⟩,(ok F).cx2,F.binds hb⟩
def ot (K:Ab)(C:Addr):Bool:=findIn K (.ref C) "__getattribute__" == some (some (.builtin "BaseException.__getattribute__")) && findIn K (.ref C) "__getattr__" == some none && findIn K (.ref C) "__class__" == some (some (.builtin "object.__class__")) &&
 subIn K (.ref C) (.type "object") == some true && subIn K (.ref C) (.type "BaseException") == some true && (clsIn K C).isSome && keepIn K (.ref C) && typeIn K (.ref C) == some (.type "type")
theorem dQ {K:Ab}{C:Addr}(h:ot K C=true):ExI K C/\keepIn K (.ref C)=true/\typeIn K (.ref C)=some (.type "type"):=by
 unfold ot at h
 simp only[Bh,beq_iff_eq] at h
 obtain ⟨⟨⟨⟨⟨⟨⟨h1,h2⟩,h3⟩,h4⟩,h5⟩,h6⟩,h7⟩,h8⟩:=h
 exact ⟨⟨h1,h2,h3,h4,h5,h6⟩,h7,h8⟩
def xk (K:Ab)(C:Addr)(f:Str):Bool :=
 (match K.lookup C with
 | some ⟨.type "type",_,.cls cd,sl⟩=>(match cd.mro,sl.toList with
  | .ref C' :: bm,[_,_,_,_,some (.builtin n),_]=>C' == C && n == "ValueError.__new__" && !cd.hasDel && cd.hasDict && tailIn K fG bm
  | _,_=>false)
 | _=>false) && findIn K (.ref C) "__setattr__" == some (some (.builtin "object.__setattr__")) && findIn K (.ref C) f == some none && subIn K (.ref C) (.type "object") == some true
theorem dR {K:Ab}{C:Addr}{f:Str}(h:xk K C f=true):ExN K C/\ExS K C f:=by
 unfold xk at h
 simp only[Bh,beq_iff_eq] at h
 obtain ⟨⟨⟨h1,h2⟩,h3⟩,h4⟩:=h
 refine ⟨⟨?_⟩,h2,h3,h4⟩
 split at h1
 ·rename_i d1 c1 sl1 l1
  split at h1
  ·rename_i C1 b1 j0 j1 j2 j3 n1 j5 m1 s1
   simp only[Bh,beq_iff_eq,GU] at h1
   obtain ⟨⟨⟨⟨rfl,rfl⟩,q1⟩,q3⟩,q2⟩:=h1
   obtain ⟨a1,a2,a3,a4,a5,a6,a7,a8,a9,a10,a11⟩:=c1
   dsimp only at m1 q1 q3
   subst m1 q1 q3
   obtain ⟨ll⟩:=sl1
   simp only at s1
   subst s1
   exact ⟨a1,a5,a4,a2,b1,a7,a8,a9,a10,d1,j0,j1,j2,j3,j5,l1,q2⟩
  ·cases h1
 ·cases h1
theorem cb.ou {K:Ab}{x:Str}{st:Stmt}(hf:cb K x st)(P:Au)(w:AX)(base:Heap){h:Heap}{mg:Str->Option Ae}(X:K.In h)(G:h.Ns AR mg){lv:Nat}{ps:List Str}{sp:Sp}(ok:∀{f:Addr} {fd:Be},Fun K x x st f fd->bC P w K mg base (CX2 P w) lv f fd ps sp)
  (hb:∀(kV doc pm:Ae) (an:Option Addr) (cdv ct:Ae) (us:List Ae),us.length=ps.length->bindArgs (PySem.W.fnOf x x (cg st) (bG st) (aq st) .none kV doc pm an cdv ct) ⟨us,[]⟩=pure (ps.zip us)):fK P w K mg base lv x ps sp:=by
 obtain ⟨f,od,an,sl,oc,kV,dc,pm,cd,ct,a,l,c,k⟩:=hf
 have F:=my l c k
 exact ⟨_,_,ok F,Br X G a,k,F.binds hb⟩
open PySem PySem.Spec PyProof.Rows
theorem xn {prog:Au}{w:AX}{d:Addr}{es:Array DictEntry}{ep:Nat}(hs:(d == sysModules)=false):W.KdlSrc prog w "dict" d d es.size (λi v=>∃e,es[i]? = some e/\v=e.key) (λh=>Kys.PD h d es ep) where
 type:=λs h=>h.ty
 there:=λh p=>let ⟨_,e,_⟩:=p;⟨Ar e,Ar e⟩
 keep:=λh h' p k=>p.keeps λo e=>k d (.inl rfl) o e
 notList:=by decide +kernel
 notTuple:=by decide +kernel
 hint:=λA E s Q p q=>PySem.W.kdl_hint_dict p.ty q
 iter:=λA s hh p=>by
  have ld:d<s.heap.objs.size:=let ⟨_,e,_⟩:=p;Ar e
  refine ⟨Kys.kObj d 0 es.size ep,λi h=>Kys.KAt h s.heap.objs.size d i es.size ep/\Kys.PD h d es ep,λE Q q=>Kys.wR hs p q,?_,Av _ rfl,p.keeps λo e=>Ad _ e⟩
  refine ⟨λb hb=>by simp at hb;simp[hb],λi h h' z k=>⟨k _ (by simp) _ z.1,z.2.keeps λo e=>k _ (by simp) o e⟩,λi s1 Q E hi z q =>?_,λs1 Q E z q =>?_,λi s1 Q E z q =>?_⟩
  ·obtain ⟨e,he⟩:∃e,es[i]? = some e:=⟨es[i],AN hi⟩
   refine Kys.rf z.1 z.2 he λh' a sb=>q _ h' _ ⟨e,he,rfl⟩ ⟨a,z.2.keeps λo eo=>(sb.2 d (AI ld)).trans eo⟩ λb o n eo=>(sb.2 b (by simpa using n)).trans eo
  ·exact Kys.ve hh z.1 z.2 (Ah _) λh' k=>q h' _ λb o n eo=>k b o (by simpa using n) eo
  ·exact wpAny_pyIter_keyiter (d:=d) (i:=i) (n:=es.size) (ep:=ep) (by first | exact z.1 | exact ⟨_,z.1,rfl,_,_,_,rfl⟩ | exact ⟨_,_,_,z.1⟩ | exact ⟨_,z.1,rfl,rfl⟩) q
section
variable  {X:Cx}
theorem xo:∀{ts:List (Addr×List Int)} {ws:List Ae},ws.length=ts.length->(∀(i:Nat) v,ws[i]? = some v->(ts.map λt=>As t.1)[i]? = some v)->ws=ts.map λt=>As t.1:=λ{ts ws} hl h=>by
 refine EU λi =>?_
 cases e:ws[i]? with
 | none =>
  have:ws.length<=i:=CQ.mp e
  exact (CQ.mpr (by rw[Ac];omega)).symm
 | some v=>exact (h i v e).symm
theorem ox (hh:X.A.handled=none):b8 X (.type "list") (λxs H Q=>∃(a:Addr) (kvs:List (List Key×V)) (ks:List (List Int)),xs=[.ref a]/\H a=some (.dT kvs)/\kvs.map (·.1)=ks.map (·.map Sum.inl) ∧
  ∀(l:Addr) (ts:List (Addr×List Int)),H l=none->ts.map (·.2)=ks->(∀t∈ts,H t.1=some (.tup (t.2.map V.int)))->Q (.ref l) (upd H l (.lst (ts.map λt =>.ref t.1)))):=by
 intro pins s σ H xs us Q I r h
 obtain ⟨a,kvs,ks,rfl,ha,ek,q⟩:=h
 obtain ⟨u,rfl,ru⟩:=vals1 r
 cases (show u=As a from ru)
 obtain ⟨z,hd,ys,rel,o,es,ep,g1,g2,g3,g4,_⟩:=xR I.hok ha
 obtain ⟨ts,et,ex,tt⟩:=rh rel ek
 have lv:kvs.length=ys.length:=Dn rel
 have eK:es.toList.map (·.key)=ts.map λt=>As t.1:=by
  rw[<- ex,g4,FH];rfl
 have lt':ts.length=kvs.length:=by
  have:=congrArg List.length ex
  rw[Ac,Ac] at this
  omega
 have le:es.size=ts.length:=by
  have:=congrArg List.length eK
  rwa [Ac,Ac,Ak] at this
 refine W.kdl_call (xn hd) hh ⟨o,g1,g2,g3⟩ (by omega) λh' tk acc' c' kp e' it =>?_
 have sh:acc'.toList=ts.map λt=>As t.1:=xo (by rw[Ak,it.1];omega) λi v hv=>by
  rw[Aq] at hv
  obtain ⟨e,e1,rfl⟩:=it.2 i v hv
  rw[<- eK,AO,Aq,e1];rfl
 exact ⟨.ref s.heap.objs.size,_,I.laid (o :=.lst (ts.map λt =>.ref t.1)) kp (Ah _) ⟨by rw[Ac];omega,acc'.toList,c',by rw[sh];exact d9,by simpa using e'⟩,rfl,q _ ts (I.hok.fresh (Ah _)) et tt⟩
end
open PySem PySem.Spec PyProof.Rows
def vp (st:Int)(n:Nat):It:=⟨λi _=>i<n,λi H x H'=>H'=H/\x = .int ((i:Nat)*st),λi _=>n<=i⟩
theorem oy {P:Au}{w:AX}{K:Ab}{tg:Expr}(it:Addr)(sp:Int)(n:Nat):Turn P w K tg (vp sp n) [it] it (λi h=>IsRangeIter h it ((0:Int)+(i:Nat)*sp) ((n:Int)-(i:Nat)) sp) where
 mem:=by simp
 obj:=λi h st b hb=>by
  have e:b=it:=by simpa using hb
  subst e
  exact ⟨_,st,λv z=>by
   have z':Data.fields _=Data.cell v:=z
   cases z'⟩
 keep:=λi h h' st k=>k it (by simp) _ st
 item:=by
  intro X hP hw hK hc i pins s σ H E I hf st hg
  subst hP hw hK
  obtain ⟨f0,f1,f2,f3,f4,f5⟩:=hf it (by simp)
  have W:=Ik (prog:=X.prog) (w:=X.w) (I.ok.hd hc) it 0 sp n
  refine W.item i s _ _ hg st λv h' tk hv st' kk =>?_
  obtain ⟨t,rfl⟩:=hv
  have I1:Inv X pins σ H { s with heap:=h',toks:=tk }:=I.turned (λb o hb e=>kk b o (by simpa using hb) e) f0 f1 f3 f4 f5
  refine ⟨_,rfl,qB (s:={ s with heap:=h',toks:=tk }) (n := "range_iterator") st' rfl rfl (by decide) ⟨.int (i*sp),H,I1,⟨t,?_⟩,⟨rfl,rfl⟩,st',λb hb=>(hf b hb).1⟩⟩
  rw[EB]
 done:=by
  intro X hP hw hK hc i pins s σ H E I hf st hg
  subst hP hw hK
  obtain ⟨f0,f1,f2,f3,f4,f5⟩:=hf it (by simp)
  exact Fx (I.ok.hd hc) st (by have:n<=i:=hg;omega) λh' eb=>⟨rfl,I.turned (t':=s.toks) (λb o hb e=>eb b o hb e) f0 f1 f3 f4 f5⟩
 self:=λ_ _ _ _ _ st h=>Fy st h
theorem byPy (x:Int){st:Int}(h1:1<=st)(h2:st<=100):Builtin.divisionGoesByPylong x st=false:=by
 unfold Builtin.divisionGoesByPylong
 have e:(st == 0)=false:=beq_eq_false_iff_ne.mpr (by omega)
 have l:=Hk st.natAbs
 simp only[e,AE,if_false]
 rw[decide_eq_false (by omega),DW]
theorem xp {j st:Int}(q1:0<=j)(q3:1<=st):0<=Builtin.Range.rangeSize 0 j st/\Builtin.Range.rangeSize 0 j st<=j:=by
 unfold Builtin.Range.rangeSize
 rw[if_pos (by omega)]
 by_cases c:0<j
 ·rw[if_pos c]
  have d0:0<=(j-0-1)/st:=Hw (by omega) (by omega)
  have d1:(j-0-1)/st<=j-0-1:=Int.ediv_le_self _ (by omega)
  omega
 ·rw[if_neg c];omega
theorem fits {x:Int}(h0:0<=x)(h1:x<=10000):Builtin.Range.rangeFitsLong x=true:=by
 unfold Builtin.Range.rangeFitsLong
 simp only[Bh,decide_eq_true_iff]
 omega
theorem vq {j st:Int}(q1:0<=j)(q2:j<=1000)(q3:1<=st)(q4:st<=100):Builtin.Range.small 0 j st=true:=by
 obtain ⟨s0,s1⟩:=xp q1 q3
 unfold Builtin.Range.small
 rw[fits (by omega) (by omega),fits q1 (by omega),fits (by omega) (by omega),fits s0 (by omega),if_pos (by omega),fits (by omega) (by omega)]
 simp
section
variable  {X:Cx}{tg:Expr}
def z5 (ta:TA):TI:=λσ H R=>ta σ H λvs H1=>∃j st:Int,vs=[.int 0,.int j,.int st]/\(0<=j/\j<=1000/\1<=st/\st<=100)/\∀n:Nat,(∀i:Nat,i<n->(i:Int)*st<j)->R (vp st n) H1
theorem tN {a b c:Expr}{ta:TA}{p pos:Pos}(hg:Gl X "range")(hm:X.mg "range" = none)(ha:PA X [a,b,c] ta)(hs:Bf [a,b,c] X.env=[(false,eval a X.env),(false,eval b X.env),(false,eval c X.env)]:=by rfl)(hs2:Bf [b,c] X.env=[(false,eval b X.env),(false,eval c X.env)]:=by rfl) :
  PI X tg (.Call (.Name "range" p) [a,b,c] [] pos) (z5 ta):=by
 intro pins s σ H R I h
 refine Call_ (iI I hg hm boot_range (Cy (thn (ha pos pins s σ H _ I h) λus s1 ⟨vs,H1,I1,r1,q1⟩ =>?_) (by rw[hs,hs2]) (by rw[hs2];rfl)))
 obtain ⟨j,st,e,⟨q1,q2,q3,q4⟩,q⟩:=q1
 subst e
 cases r1 with | cons r rr =>
 cases rr with | cons r' rr =>
 cases rr with | cons r'' rr =>
 cases rr
 obtain ⟨t,rfl⟩:=r
 obtain ⟨t',rfl⟩:=r'
 obtain ⟨t'',rfl⟩:=r''
 refine call_range_3 (by omega) ?_ (.inl (byPy _ q3 q4))
 refine GF (Il ..) (vq q1 q2 q3 q4) ?_
 have I2:Inv X pins σ H1 { s1 with heap:=s1.heap.push { cls :=.type "range",data :=.fields #[.int 0 t,.int j t',.int st t''] } }:=I1.kept (t':=s1.toks) λb o e=>Ad _ e
 refine ⟨_,[_],_,_,H1,rfl,I2.kept (t':=s1.toks) λb o e=>Ad _ e,oy _ st (Builtin.Range.rangeSize 0 j st).toNat,?_,λb hb =>?_,q _ λi hi =>?_⟩
 ·show IsRangeIter _ _ ((0:Int)+((0:Nat):Int)*st) (((Builtin.Range.rangeSize 0 j st).toNat:Int)-((0:Nat):Int)) st
  rw[<- rangeSize_toNat]
  rw[show (0:Int)+((0:Nat):Int)*st=0 by simp,show Builtin.Range.rangeSize 0 j st-((0:Nat):Int)=Builtin.Range.rangeSize 0 j st by simp]
  exact Av _ rfl
 ·have e:=AB.mp hb
  subst e
  exact I2.rP (Ah _) (I2.hok.fresh (Ah _))
 ·have e:=rangeSize_toNat 0 j st
  unfold Builtin.Range.rangeSize at e hi
  rw[if_pos (by omega)] at e hi
  by_cases c:0<j
  ·rw[if_pos c] at e hi
   have d0:0<=(j-0-1)/st:=Hw (by omega) (by omega)
   have hi':(i:Int)<=(j-0-1)/st:=by omega
   have:=Int.mul_le_mul_of_nonneg_right hi' (show 0<=st by omega)
   have m:=Int.ediv_mul_le (j-0-1) (show st≠0 by omega)
   omega
  ·rw[if_neg c] at hi
   exact absurd hi (Nat.not_lt_zero _)
end
open PySem PySem.Spec PyProof.Rows Builtin Builtin.Str
section
variable  {X:Cx}
def shown:V->Option Str
 | .str z=>some z
 | .int i=>if i.natAbs.log2<1920 then some (toString i) else none
 | _=>none
def y7 (t:TE):TE:=λσ H Q=>t σ H λx H1=>∃z,shown x=some z/\z.length<=Ai/\Q (.str z) H1
theorem vt {e:Expr}{t:TE}{pos:Pos}(h:PE X e t):PE X (.FormattedValue e (-1) none pos) (y7 t):=by
 intro pins s σ H Q I q
 refine wpAny_FormattedValue_plain (thn (h pins s σ H _ I q) λv s1 p1 =>?_)
 obtain ⟨x,H1,I1,r1,z,ez,lz,q1⟩:=p1
 cases x with
 | str y =>
  cases (A1 ez:y=z)
  obtain ⟨tk,rfl⟩:=r1
  exact wpAny_formatField_str (hx:=lz) ⟨.str _,H1,I1,⟨_,rfl⟩,q1⟩ ⟨.str _,H1,I1.tok _,⟨_,rfl⟩,q1⟩
 | int i =>
  by_cases hl:i.natAbs.log2<1920
  ·have e:=(if_pos hl).symm.trans ez
   cases (A1 e)
   obtain ⟨tk,rfl⟩:=r1
   exact wpAny_formatField_int hl ⟨.str _,H1,I1.tok _,⟨_,rfl⟩,q1⟩
  ·cases (if_neg hl).symm.trans ez
 | non=>cases ez
 | bl b=>cases ez
 | byt b=>cases ez
 | flt b=>cases ez
 | ref a=>cases ez
 | ty n=>cases ez
def vv:List TE->Str->TE
 | [],acc,_,H,Q=>acc.length<=Ai/\Q (.str acc) H
 | t :: ts,acc,σ,H,Q=>t σ H λx H1=>∃y,x = .str y/\(acc++y).length<=Ai/\vv ts (acc++y) σ H1 Q
def PFs (X:Cx):List Expr->List TE->Prop
 | [],[]=>True
 | e :: es,t :: ts=>PE X e t/\PFs X es ts
 | _,_=>False
theorem xq:PFs X [] []:=trivial
theorem oz {e:Expr}{es:List Expr}{t:TE}{ts:List TE}(h:PE X e t)(hs:PFs X es ts):PFs X (e :: es) (t :: ts):=⟨h,hs⟩
theorem oA {pins:List (Addr×Obj)}{σ:St}{Q:VK}:∀{es:List Expr} {ts:List TE} {acc:Str} {H:Hp} {s:Ag},PFs X es ts->Inv X pins σ H s->vv ts acc σ H Q->Joins (AQ X.prog X.w) X.A X.xe (evalEach es X.env) acc (λout s1=>out.length<=Ai/\EP X pins σ Q (.str out s1.toks) { s1 with toks:=s1.toks+1 }) s
 | [],[],acc,H,s,_,I,q=>⟨q.1,.str acc,H,I.tok _,⟨_,rfl⟩,q.2⟩
 | e :: es,t :: ts,acc,H,s,p,I,q=>thn (p.1 pins s σ H _ I q) λv s1 z=>by
  obtain ⟨x,H1,I1,r1,y,rfl,hl,q1⟩:=z
  obtain ⟨tk,rfl⟩:=r1
  exact ⟨y,tk,rfl,hl,oA p.2 I1 q1⟩
 | [],_ :: _,_,_,_,p,_,_=>p.elim
 | _ :: _,[],_,_,_,p,_,_=>p.elim
theorem xr {e1 e2:Expr}{es:List Expr}{ts:List TE}{pos:Pos}(h:PFs X (e1 :: e2 :: es) ts):PE X (.JoinedStr (e1 :: e2 :: es) pos) (vv ts Str.empty):=λpins s σ H Q I q=>wpAny_JoinedStr (oA h I q)
end
end L2
set_option maxHeartbeats 800000
namespace K55
open PySem L2
def top (i:Nat):Stmt:=PySem.Challenge.pw_ringfell_k55_oneway_webs_made.main.body.getD i (.Pass ⟨0,0,0,0⟩)
abbrev j6:Stmt:=top 16
abbrev j7:Stmt:=top 17
abbrev mU:Stmt:=top 18
abbrev dw:Stmt:=top 20
abbrev dF:Stmt:=top 21
abbrev gK:Stmt:=top 22
abbrev iU:Stmt:=top 23
abbrev gL:Stmt:=top 24
abbrev iV:Stmt:=top 25
abbrev gM:Stmt:=top 26
abbrev dS:Stmt:=top 27
abbrev iW:Stmt:=top 28
abbrev j8:Stmt:=top 30
abbrev qi:Stmt:=top 31
abbrev mV:Stmt:=top 32
abbrev fc:Stmt:=top 33
abbrev qj:Stmt:=top 34
abbrev mW:Stmt:=top 35
abbrev iA:Stmt:=top 36
abbrev j9:Stmt:=top 37
abbrev vw:Stmt:=top 38
abbrev mX:Stmt:=top 39
abbrev iX:Stmt:=top 40
abbrev fe:Stmt:=top 41
abbrev mY:Stmt:=top 42
abbrev tO:Stmt:=top 43
structure Blt (mg:Str->Option Ae):Prop where
 b_all:mg "all" = none
 b_bool:mg "bool" = none
 b_enumerate:mg "enumerate" = none
 b_int:mg "int" = none
 b_isinstance:mg "isinstance" = none
 b_len:mg "len" = none
 b_list:mg "list" = none
 b_max:mg "max" = none
 b_min:mg "min" = none
 b_range:mg "range" = none
 b_set:mg "set" = none
 b_sorted:mg "sorted" = none
 b_tuple:mg "tuple" = none
 b_ValueError:mg "ValueError" = none
theorem vx:Bz "all" = some (.builtin "all"):=by decide +kernel
theorem rj:Bz "bool" = some (.type "bool"):=by decide +kernel
theorem gN:Bz "int" = some (.type "int"):=by decide +kernel
theorem av:Bz "isinstance" = some (.builtin "isinstance"):=by decide +kernel
theorem cc:Bz "len" = some (.builtin "len"):=by decide +kernel
theorem dG:Bz "list" = some (.type "list"):=by decide +kernel
theorem qk:Bz "max" = some (.builtin "max"):=by decide +kernel
theorem ql:Bz "min" = some (.builtin "min"):=by decide +kernel
theorem vy:Bz "set" = some (.type "set"):=by decide +kernel
theorem cu:Bz "sorted" = some (.builtin "sorted"):=by decide +kernel
theorem aM:Bz "tuple" = some (.type "tuple"):=by decide +kernel
theorem kG:Bz "ValueError" = some (.type "ValueError"):=by decide +kernel
structure Cst (mg:Str->Option Ae):Prop where
 c_MOST_PLACES:∃t,mg "MOST_PLACES" = some (.int 40 t)
 c_MOST_TIES:∃t,mg "MOST_TIES" = some (.int 200 t)
theorem hu8 {A:A7}{k:Nat}(hr:bU k A):A.units+8<cLine:=DJ (CA (by decide:8<=64) _) hr.units
def inDef:Stmt->Stmt
 | .ClassDef _ _ _ b _ _ _ _ _ _ _=>b.getD 0 (.Pass ⟨0,0,0,0⟩)
 | s=>s
abbrev gO:Stmt:=inDef (top 2)
@[irreducible] def mZ (K:Ab):Sp:=λvs H Q _=>∃(a:Addr) (ns:List Int) (k:Int),vs=[.ref a,.int k]/\SqL K H a (ns.map V.int)/\0<=k/\k<63/\∀(n:Int) (p:Addr),H p=none->Q (.ref p) (upd H p (.lst [.int n]))
theorem gP {K:Ab}{vs:List V}{H:Hp}{Q:VK}{E:XK}:mZ K vs H Q E↔∃(a:Addr) (ns:List Int) (k:Int),vs=[.ref a,.int k]/\SqL K H a (ns.map V.int)/\0<=k/\k<63/\∀(n:Int) (p:Addr),H p=none->Q (.ref p) (upd H p (.lst [.int n])):=by
 delta mZ
 exact Cj
abbrev rk:Sp:=λvs H Q _=>∃(p:Addr) (m:Int),vs=[.ref p,.int m]/\Pt 1 H p/\0<m/\m<1073741824/\∀(d:Int) (H':Hp),0<=d->d<m->Bu 1 p H H'->Q (.int d) H'
@[irreducible] def gQ:Sp:=rk
theorem aB {vs:List V}{H:Hp}{Q:VK}{E:XK}:gQ vs H Q E↔rk vs H Q E:=by
 delta gQ
 exact Cj
theorem w60:Wd ((10:Int) ^ (60:Int).toNat):=by unfold Wd;decide +kernel
theorem w120:Wd ((10:Int) ^ (60:Int).toNat*(10:Int) ^ (60:Int).toNat):=by unfold Wd;decide +kernel
theorem w180:Wd ((10:Int) ^ (60:Int).toNat*(10:Int) ^ (60:Int).toNat*(10:Int) ^ (60:Int).toNat):=by unfold Wd;decide +kernel
theorem p240:(0:Int)<(10:Int) ^ (60:Int).toNat*(10:Int) ^ (60:Int).toNat*(10:Int) ^ (60:Int).toNat*(10:Int) ^ (60:Int).toNat:=by decide +kernel
section
variable  {P:Au}{w:AX}{K:Ab}{mg:Str->Option Ae}{base:Heap}{f T:Addr}{fd:Be}
theorem dH:aP ["script", "k", "cell", "seed", "found", "turn"] ["script", "k"] (aq j8):=⟨rfl,rfl,rfl,by decide +kernel,rfl,by decide +kernel,by decide +kernel⟩
theorem xt (F:Fun K "_law_deal" "_law_deal" j8 f fd)(B:Blt mg)(C:Cst mg):bC P w K mg base CX0 1 f fd ["script", "k"] (mZ K):=by
 refine F.ok dH (λvs H Q E h =>?_) (λcdv A outer s H vs Q E hr h =>?_)
 ·obtain ⟨_,_,_,rfl,_⟩:=gP.mp h
  rfl
 obtain ⟨a,ns,k,rfl,hS,k0,k1,q⟩:=gP.mp h
 have TT:∃t,PSs (jh CX0 P w K mg base ["script", "k", "cell", "seed", "found", "turn"] "_law_deal" (aq j8) f cdv A outer s H E).nox ((bG j8).drop 2) t/\∀(D:Ends) (c:Int) (c3 c4 c5:Option V),D.rt=Q->t D [some (.ref a),some (.int k),some (.int c),c3,c4,c5] H:=by
  refine ⟨_,(@ai _ _ _ _ _ (@bz _ _ _ _ _ _ _ _ (aE zB (pv 2) (@ba _ _ _ _ _ _ _ _ iL ah ah) (aN _)) (@ao _ _ _ (@aV _ _ _ _ (@dM _ _ _ _ (@aa _ _ _ _ _ (@ba _ _ _ _ _ _ _ _ yi (pv 2) (@ba _ _ _ _ _ _ _ _ iL ah ah)) ag rfl)))) aL)
  (@ai _ _ _ _ _ (@aX _ _ 3 _ _ _ _ dH.nd rfl (Or.inl rfl) (@ba _ _ _ _ _ _ _ _ eL (@ba _ _ _ _ _ _ _ _ eL (@ba _ _ _ _ _ _ _ _ gJ (pv 2) ah) (@ba _ _ _ _ _ _ _ _ gI ah (pv 1))) ah) rfl (by first | exact .inl rfl | exact .inr rfl | assumption))
  (@ai _ _ _ _ _ (@aX _ _ 4 _ _ _ _ dH.nd rfl (Or.inl rfl) ah rfl (by first | exact .inl rfl | exact .inr rfl | assumption))
  (@ai _ _ _ _ _ (@fz _ _ _ _ _ _ _ _ CY rfl (bR rfl B.b_range (@aa _ _ _ _ _ ah ag rfl)) (aQ (i:=5) dH.nd rfl (Or.inl rfl))
   (@ai _ _ _ _ _ (@aX _ _ 3 _ _ _ _ dH.nd rfl (Or.inl rfl) (@ba _ _ _ _ _ _ _ _ gJ (@ba _ _ _ _ _ _ _ _ eL (@ba _ _ _ _ _ _ _ _ gI (pv 3) ah) ah) ah) rfl (by first | exact .inl rfl | exact .inr rfl | assumption))
   (@ao _ _ _ (@aX _ _ 4 _ _ _ _ dH.nd rfl (Or.inl rfl) (@ba _ _ _ _ _ _ _ _ eL (@ba _ _ _ _ _ _ _ _ gI (pv 4) ah) (@ba _ _ _ _ _ _ _ _ gJ (@ba _ _ _ _ _ _ _ _ mi (@ba _ _ _ _ _ _ _ _ gJ (@ba _ _ _ _ _ _ _ _ gI (pv 3) (pv 3)) ah) ah) ah)) rfl (by first | exact .inl rfl | exact .inr rfl | assumption)))) (λ_=>rfl))
  (@ao _ _ _ (@aV _ _ _ _ (@dM _ _ _ _ (@aa _ _ _ _ _ (pv 4) ag rfl)))))))),?_⟩
  intro D c c3 c4 c5 eD
  subst eD
  refine ⟨_,rfl,_,_,rfl,rfl,⟨by decide,by decide,by decide⟩,_,_,rfl,rfl,_,rfl,uu (λz =>?_) (λz =>?_)⟩
  ·exact ⟨_,rfl,_,_,rfl,rfl,⟨by decide,by decide,by decide⟩,_,_,rfl,rfl,(by show 1<=Ai;decide),λp hp=>q _ p hp⟩
  refine ⟨_,rfl,_,_,rfl,rfl,(by show (0:Int)<_;decide),_,rfl,_,_,rfl,rfl,.inl ⟨by decide,by decide⟩,_,_,rfl,rfl,_,_,rfl,rfl,?_⟩
  refine ⟨30,rfl,by decide,by decide,cy (n:=30) (λi σ H'=>(∃(se fo:Int) (c5:Option V),σ=[some (.ref a),some (.int k),some (.int c),some (.int se),some (.int fo),c5])/\H'=H) ⟨⟨_,_,_,rfl⟩,rfl⟩ ?_ ?_⟩
  ·rintro i σ H' hi ⟨⟨se,fo,c5,rfl⟩,rfl⟩
   refine ⟨_,rfl,_,_,rfl,rfl,.inr ⟨by decide,by decide⟩,_,_,rfl,rfl,_,_,rfl,rfl,(by show (0:Int)<_;decide),?_⟩
   have d1:=FG (se*48271+12345) (b:=2147483647) (by decide)
   have d2:=EA (se*48271+12345) (b:=2147483647) (by decide)
   generalize (se*48271+12345)%2147483647=o2 at d1 d2 ⊢
   refine ⟨_,rfl,_,_,rfl,rfl,.inr ⟨by decide,by decide⟩,_,rfl,_,rfl,_,_,rfl,rfl,.inl ⟨by omega,by omega⟩,_,_,rfl,rfl,(by show (0:Int)<_;decide),_,_,rfl,rfl,⟨by decide,by decide⟩,_,_,rfl,rfl,(by show (0:Int)<_;decide),_,_,rfl,rfl,?_⟩
   exact ⟨⟨_,_,_,rfl⟩,rfl⟩
  ·rintro σ H' ⟨⟨se,fo,c5,rfl⟩,rfl⟩
   exact ⟨_,rfl,(by show 1<=Ai;decide),λp hp=>q _ p hp⟩
 obtain ⟨tT,pT,gT⟩:=TT
 refine ⟨_,(@ai _ _ _ _ _ (@aX _ _ 2 _ _ _ _ dH.nd rfl (Or.inl rfl) ah rfl (by first | exact .inl rfl | exact .inr rfl | assumption))
  (@ai _ _ _ _ _ (@bz _ _ _ _ _ _ _ _ (aE nq (pv 1) (aj aO rfl B.b_len cc (@aa _ _ _ _ _ (pv 0) ag rfl)) (aN _)) (@ao _ _ _ (@aX _ _ 2 _ _ _ _ dH.nd rfl (Or.inl rfl) (@ba _ _ _ _ _ _ _ _ gJ (@aJ _ _ _ _ _ _ _ cY (pv 0) (pv 1) (λ_ _=>rfl)) (@ba _ _ _ _ _ _ _ _ mO (@ba _ _ _ _ _ _ _ _ mO (@ba _ _ _ _ _ _ _ _ mO (@ba _ _ _ _ _ _ _ _ iL ah ah) (@ba _ _ _ _ _ _ _ _ iL ah ah)) (@ba _ _ _ _ _ _ _ _ iL ah ah)) (@ba _ _ _ _ _ _ _ _ iL ah ah))) rfl (by first | exact .inl rfl | exact .inr rfl | assumption))) aL)
  pT)),?_⟩
 refine ⟨_,rfl,_,rfl,a,_,rfl,.inl hS,_,_,rfl,rfl,_,rfl,uu (λz =>?_) (λz =>?_)⟩
 ·have z:=of_decide_eq_true z
  rw[Ac] at z
  obtain ⟨j,rfl⟩:∃j:Nat,k=j:=⟨k.toNat,by omega⟩
  have hj:j<ns.length:=by omega
  exact ⟨_,rfl,_,rfl,a,_,_,.int ns[j],rfl,rfl,hS,bN (by rw[AO,Aw hj];rfl),_,_,rfl,rfl,⟨by decide,by decide,by decide⟩,_,_,rfl,rfl,⟨by decide,by decide,by decide⟩,_,_,rfl,rfl,⟨w60,w60⟩,_,_,rfl,rfl,⟨by decide,by decide,by decide⟩,_,_,rfl,rfl,⟨w120,w60⟩,_,_,rfl,rfl,⟨by decide,by decide,by decide⟩,_,_,rfl,rfl,⟨w180,w60⟩,_,_,rfl,rfl,p240,gT _ _ _ _ _ rfl⟩
 ·exact gT _ _ _ _ _ rfl
end
section
variable  {P:Au}{w:AX}{K:Ab}{mg:Str->Option Ae}{base:Heap}{f T:Addr}{fd:Be}
theorem rn:aP ["pot", "many", "digit"] ["pot", "many"] (aq qi):=⟨rfl,rfl,rfl,by decide +kernel,rfl,by decide +kernel,by decide +kernel⟩
theorem xu (F:Fun K "_law_take" "_law_take" qi f fd)(B:Blt mg)(C:Cst mg):bC P w K mg base CX0 1 f fd ["pot", "many"] gQ:=by
 refine F.ok rn (λvs H Q E h =>?_) (λcdv A outer s H vs Q E hr h =>?_)
 ·obtain ⟨_,_,rfl,_⟩:=aB.mp h
  rfl
 obtain ⟨p,m,rfl,hp,h0,h1,q⟩:=aB.mp h
 refine ⟨_,(@ai _ _ _ _ _ (@aX _ _ 2 _ _ _ _ rn.nd rfl (Or.inl rfl) (@ba _ _ _ _ _ _ _ _ gJ (@aJ _ _ _ _ _ _ _ cY (pv 0) ah (λ_ _=>rfl)) (pv 1)) rfl (by first | exact .inl rfl | exact .inr rfl | assumption))
  (@ai _ _ _ _ _ (@ph _ _ _ _ _ _ (@ba _ _ _ _ _ _ _ _ mi (@aJ _ _ _ _ _ _ _ cY (pv 0) ah (λ_ _=>rfl)) (pv 1)) (t7 (pv 0) ah set_list) rfl rfl rfl)
  (@ao _ _ _ (@aV _ _ _ _ (pv 2))))),?_⟩
 have bt:=Bu.refl hp
 obtain ⟨xs,lx,ep⟩:=hp
 match xs,lx with
 | [x],_ =>
  refine ⟨_,rfl,p,_,0,_,rfl,rfl,SqL.of ep,rfl,_,rfl,_,_,rfl,rfl,h0,?_⟩
  refine ⟨_,rfl,p,_,0,_,rfl,rfl,SqL.of ep,rfl,_,rfl,_,_,rfl,rfl,⟨h0,h1⟩,_,rfl,p,_,0,0,rfl,rfl,ep,rfl,?_⟩
  refine ⟨_,rfl,?_⟩
  exact q _ _ (FG _ (by omega)) (EA _ h0) (bt.put (ys:=[x/m]) rfl)
end
open PySem L2
theorem small {n:Nat}(h:n<=1000):n<=Ai:=A8 h (by decide)
inductive Inn (H:Hp):V->Prop
 | non:Inn H .non
 | bl (b:Bool):Inn H (.bl b)
 | int (i:Int):Inn H (.int i)
 | str (s:Str):Inn H (.str s)
 | tup {a:Addr} {xs:List V} (e:H a=some (.tup xs)):Inn H (.ref a)
theorem Inn.tp {H H':Hp}(t:Tp H H'){x:V}(h:Inn H x):Inn H' x:=by
 cases h with
 | non=>exact .non
 | bl b=>exact .bl b
 | int i=>exact .int i
 | str s=>exact .str s
 | tup e=>exact .tup (t _ _ e)
inductive Flt (H:Hp):V->Prop
 | non:Flt H .non
 | bl (b:Bool):Flt H (.bl b)
 | int (i:Int):Flt H (.int i)
 | str (s:Str):Flt H (.str s)
 | dic {a:Addr} {kvs:List (Key×V)} (e:H a=some (.dK kvs)):Flt H (.ref a)
theorem Flt.cx {H H':Hp}{x:V}(k:∀a u,x = .ref a->H a=some u->H' a=some u)(h:Flt H x):Flt H' x:=by
 cases h with
 | non=>exact .non
 | bl b=>exact .bl b
 | int i=>exact .int i
 | str s=>exact .str s
 | dic e=>exact .dic (k _ _ rfl e)
def wh:V->Bool
 | .int _=>true
 | _=>false
def pl (m:Int):V->Bool
 | .int i=>decide (0<=i) && decide (i<m)
 | _=>false
inductive Itm (H:Hp)(m:Int):V->Bool->Prop
 | flat {x:V} (t:Flt H x):Itm H m x false
 | len {a:Addr} {xs:List V} (e:H a=some (.lst xs)\/H a=some (.tup xs)) (n:xs.length≠2):Itm H m (.ref a) false
 | pr {a:Addr} {x y:V} {b:Bool} (e:H a=some (.lst [x,y])\/H a=some (.tup [x,y])) (hx:Inn H x) (hy:Inn H y) (hb:(pl m x && pl m y)=b):Itm H m (.ref a) b
theorem Itm.cx {H H':Hp}{m:Int}{x:V}{b:Bool}(t:Tp H H')(k:∀a u,x = .ref a->H a=some u->H' a=some u)(h:Itm H m x b):Itm H' m x b:=by
 cases h with
 | flat f=>exact .flat (f.cx k)
 | len e n=>exact .len (e.imp (k _ _ rfl) (k _ _ rfl)) n
 | pr e hx hy hb=>exact .pr (e.imp (k _ _ rfl) (k _ _ rfl)) (hx.tp t) (hy.tp t) hb
theorem Itm.same {H H':Hp}{m:Int}{x:V}{b:Bool}(s:ay H H')(h:Itm H m x b):Itm H' m x b:=h.cx s.tp λa u _ e=>s a u e
theorem gR {H:Hp}{x:V}(h:∀a,x = .ref a->(∃xs,H a=some (.lst xs))\/(∃xs,H a=some (.tup xs))\/∃kvs,H a=some (.dK kvs)):∀a C dx fs,H a=some (.ins C dx fs)->x ≠ .ref a:=by
 intro a C dx fs e z
 rcases h a z with ⟨xs,q⟩ | ⟨xs,q⟩ | ⟨xs,q⟩ <;> rw[q] at e <;> cases e
theorem gS {K:Ab}{H:Hp}{x:V}(h:Flt H x):(∃t,cw K H x t/\PySem.W.kitAny K t (["list", "tuple"].map B7)=some false)/\(∃t b1 b2,cw K H x t/\PySem.W.kitOne K t (.type "int")=some b1/\PySem.W.kitOne K t (.type "bool")=some b2/\(b1 && !b2)=wh x)/\∀a C dx fs,H a=some (.ins C dx fs)->x ≠ .ref a:=by
 cases h with
 | non=>exact ⟨⟨_,.non,rfl⟩,⟨_,_,_,.non,rfl,rfl,rfl⟩,gR λa e=>by cases e⟩
 | bl b=>exact ⟨⟨_,.bl b,rfl⟩,⟨_,_,_,.bl b,rfl,rfl,rfl⟩,gR λa e=>by cases e⟩
 | int i=>exact ⟨⟨_,.int i,rfl⟩,⟨_,_,_,.int i,rfl,rfl,rfl⟩,gR λa e=>by cases e⟩
 | str s=>exact ⟨⟨_,.str s,rfl⟩,⟨_,_,_,.str s,rfl,rfl,rfl⟩,gR λa e=>by cases e⟩
 | dic e=>exact ⟨⟨_,.dK e,rfl⟩,⟨_,_,_,.dK e,rfl,rfl,rfl⟩,gR λa z=>by cases z;exact .inr (.inr ⟨_,e⟩)⟩
theorem fg {K:Ab}{H:Hp}{a:Addr}{xs:List V}(h:H a=some (.lst xs)\/H a=some (.tup xs)):(∃t,cw K H (.ref a) t/\PySem.W.kitAny K t (["list", "tuple"].map B7)=some true)/\(∃t b1 b2,cw K H (.ref a) t/\PySem.W.kitOne K t (.type "int")=some b1/\PySem.W.kitOne K t (.type "bool")=some b2/\(b1 && !b2)=false)/\∀a' C dx fs,H a'=some (.ins C dx fs)->V.ref a ≠ .ref a':=by
 rcases h with e | e
 ·exact ⟨⟨_,.lst e,rfl⟩,⟨_,_,_,.lst e,rfl,rfl,rfl⟩,gR λa z=>by cases z;exact .inl ⟨_,e⟩⟩
 ·exact ⟨⟨_,.tup e,rfl⟩,⟨_,_,_,.tup e,rfl,rfl,rfl⟩,gR λa z=>by cases z;exact .inr (.inl ⟨_,e⟩)⟩
@[irreducible] def iC (K:Ab):Sp:=λvs H Q _=>∃(x:V) (t:Ae) (b1 b2:Bool),vs=[x]/\cw K H x t/\PySem.W.kitOne K t (.type "int")=some b1/\PySem.W.kitOne K t (.type "bool")=some b2/\Q (.bl (b1 && !b2)) H
theorem bM {K:Ab}{vs:List V}{H:Hp}{Q:VK}{E:XK}:iC K vs H Q E↔∃(x:V) (t:Ae) (b1 b2:Bool),vs=[x]/\cw K H x t/\PySem.W.kitOne K t (.type "int")=some b1/\PySem.W.kitOne K t (.type "bool")=some b2/\Q (.bl (b1 && !b2)) H:=by
 delta iC
 exact Cj
section
variable  {P:Au}{w:AX}{K:Ab}{mg:Str->Option Ae}{base:Heap}{f T:Addr}{fd:Be}
theorem tP:aP ["thing"] ["thing"] (aq j6):=⟨rfl,rfl,rfl,by decide +kernel,rfl,by decide +kernel,by decide +kernel⟩
theorem tQ (F:Fun K "is_whole" "is_whole" j6 f fd)(B:Blt mg)(C:Cst mg):bC P w K mg base CX0 1 f fd ["thing"] (iC K):=by
 refine F.ok tP (λvs H Q E h =>?_) (λcdv A outer s H vs Q E hr h =>?_)
 ·obtain ⟨_,_,_,_,rfl,_⟩:=bM.mp h
  rfl
 obtain ⟨x,t,b1,b2,rfl,ty,k1,k2,q⟩:=bM.mp h
 refine ⟨_,(@ao _ _ _ (@aV _ _ _ _ (gG (aj bV rfl B.b_isinstance av (@aa _ _ _ _ _ (pv 0) (@aa _ _ _ _ _ (bI (v :=.ty "int") rfl B.b_int gN rfl) ag rfl) rfl)) (fw (t5 (aj bV rfl B.b_isinstance av (@aa _ _ _ _ _ (pv 0) (@aa _ _ _ _ _ (bI (v :=.ty "bool") rfl B.b_bool rj rfl) ag rfl) rfl))))))),?_⟩
 refine ⟨_,rfl,x, "int",t,b1,rfl,ty,k1,_,rfl,?_⟩
 cases b1 with
 | false=>exact aH q
 | true=>exact aR ⟨_,rfl,x, "bool",t,b2,rfl,ty,k2,_,rfl,q⟩
end
abbrev oB:Sp:=λvs H Q _=>∃(m:Int) (x:V),vs=[.int m,x]/\Inn H x/\Q (.bl (pl m x)) H
@[irreducible] def ju:Sp:=oB
theorem dI {vs:List V}{H:Hp}{Q:VK}{E:XK}:ju vs H Q E↔oB vs H Q E:=by
 delta ju
 exact Cj
theorem vz {K:Ab}{H:Hp}{x:V}(h:Inn H x):∃t b1 b2,cw K H x t/\PySem.W.kitOne K t (.type "int")=some b1/\PySem.W.kitOne K t (.type "bool")=some b2/\(b1 && !b2)=wh x:=by
 cases h with
 | non=>exact ⟨_,_,_,.non,rfl,rfl,rfl⟩
 | bl b=>exact ⟨_,_,_,.bl b,rfl,rfl,rfl⟩
 | int i=>exact ⟨_,_,_,.int i,rfl,rfl,rfl⟩
 | str s=>exact ⟨_,_,_,.str s,rfl,rfl,rfl⟩
 | tup e=>exact ⟨_,_,_,.tup e,rfl,rfl,rfl⟩
section
variable  {P:Au}{w:AX}{K:Ab}{mg:Str->Option Ae}{base:Heap}{f T:Addr}{fd:Be}
theorem tS:aP ["many", "thing"] ["many", "thing"] (aq j7):=⟨rfl,rfl,rfl,by decide +kernel,rfl,by decide +kernel,by decide +kernel⟩
theorem tU (F:Fun K "is_place" "is_place" j7 f fd)(B:Blt mg)(cIsWhole:Cal P w K mg base 1 "is_whole" ["thing"] (iC K))(C:Cst mg):bC P w K mg base CX0 2 f fd ["many", "thing"] ju:=by
 refine F.ok tS (λvs H Q E h =>?_) (λcdv A outer s H vs Q E hr h =>?_)
 ·obtain ⟨_,_,rfl,_⟩:=dI.mp h
  rfl
 obtain ⟨m,x,rfl,hx,q⟩:=dI.mp h
 refine ⟨_,(@ao _ _ _ (@aV _ _ _ _ (gG (aG cIsWhole hr (by decide) rfl (@aa _ _ _ _ _ (pv 1) ag rfl)) (fw (nz kQ nq ah (pv 1) (pv 0)))))),?_⟩
 obtain ⟨t,b1,b2,ty,k1,k2,e⟩:=vz (K:=K) hx
 refine ⟨_,rfl,bM.mpr ⟨x,t,b1,b2,rfl,ty,k1,k2,_,rfl,?_⟩⟩
 rw[e]
 cases x with
 | int i =>
  refine aR ⟨_,rfl,0,i,rfl,rfl,_,rfl,?_⟩
  have q':Q (.bl (decide (0<=i) && decide (i<m))) H:=q
  by_cases c:(0:Int)<=i
  ·rw[decide_eq_true c] at q' ⊢
   exact aR ⟨_,rfl,i,m,rfl,rfl,q'⟩
  ·rw[decide_eq_false c] at q' ⊢
   exact aH q'
 | _=>exact aH q
end
abbrev rp:Sp:=λvs H Q _=>∃(m:Int) (x:V) (b:Bool),vs=[.int m,x]/\Itm H m x b/\∀H',ay H H'->Q (.bl b) H'
@[irreducible] def m5:Sp:=rp
theorem dy {vs:List V}{H:Hp}{Q:VK}{E:XK}:m5 vs H Q E↔rp vs H Q E:=by
 delta m5
 exact Cj
section
variable  {P:Au}{w:AX}{K:Ab}{mg:Str->Option Ae}{base:Heap}{f T:Addr}{fd:Be}
theorem vA:aP ["many", "thing"] ["many", "thing"] (aq mU):=⟨rfl,rfl,rfl,by decide +kernel,rfl,by decide +kernel,by decide +kernel⟩
theorem vB (F:Fun K "is_pair" "is_pair" mU f fd)(B:Blt mg)(cIsPlace:Cal P w K mg base 2 "is_place" ["many", "thing"] ju)(C:Cst mg):bC P w K mg base CX0 3 f fd ["many", "thing"] m5:=by
 refine F.ok vA (λvs H Q E h =>?_) (λcdv A outer s H vs Q E hr h =>?_)
 ·obtain ⟨_,_,_,rfl,_⟩:=dy.mp h
  rfl
 obtain ⟨m,x,b,rfl,hx,q⟩:=dy.mp h
 refine ⟨_,(@ai _ _ _ _ _ (@bz _ _ _ _ _ _ _ _ (PW.pt (dX (bK (bJ (aj c0 rfl B.b_isinstance av (@aa _ _ _ _ _ (pv 1) (@aa _ _ _ _ _ (@aF _ _ _ _ _ (@aa _ _ _ _ _ (bI (v :=.ty "list") rfl B.b_list dG rfl) (@aa _ _ _ _ _ (bI (v :=.ty "tuple") rfl B.b_tuple aM rfl) ag rfl) rfl)) ag rfl) rfl)))) (di (aE qI (aj aO rfl B.b_len cc (@aa _ _ _ _ _ (pv 1) ag rfl)) ah (aN _))))) (@ao _ _ _ (@aV _ _ _ _ hW)) aL)
  (@ao _ _ _ (@aV _ _ _ _ (gG (aG cIsPlace hr (by decide) rfl (@aa _ _ _ _ _ (pv 0) (@aa _ _ _ _ _ (@aJ _ _ _ _ _ _ _ (de (K:=K)) (pv 1) ah (λ_ _=>rfl)) ag rfl) rfl)) (fw (aG cIsPlace hr (by decide) rfl (@aa _ _ _ _ _ (pv 0) (@aa _ _ _ _ _ (@aJ _ _ _ _ _ _ _ (de (K:=K)) (pv 1) ah (λ_ _=>rfl)) ag rfl) rfl))))))),?_⟩
 refine ⟨_,rfl,(by show 2<=Ai;decide),λp hp =>?_⟩
 have s0:=af hp (.tup [.ty "list",.ty "tuple"])
 have hx:=hx.same s0
 have ep:SqT K (upd H p (.tup [.ty "list",.ty "tuple"])) p (["list", "tuple"].map V.ty):=SqT.of ae
 generalize upd H p (.tup [.ty "list",.ty "tuple"])=H1 at s0 ep hx
 have q1:=λb' (e:b'=b)=>e ▸ q _ s0
 cases hx with
 | flat f =>
  obtain ⟨⟨t,ty,k⟩,_,n⟩:=gS (K:=K) f
  exact ⟨x,p,_,t,false,rfl,ep,ty,n,k,_,rfl,aR (q1 _ rfl)⟩
 | @len a xs e n =>
  obtain ⟨⟨t,ty,k⟩,_,n'⟩:=fg (K:=K) e
  refine ⟨.ref a,p,_,t,true,rfl,ep,ty,n',k,_,rfl,aH ⟨_,rfl,a,xs,rfl,e.imp SqL.of SqT.of,rfl,_,rfl,?_⟩⟩
  rw[decide_eq_false (λz=>n (by have:=V.int.inj z;omega))]
  exact aR (q1 _ rfl)
 | @pr a x y b e hix hiy hb =>
  obtain ⟨⟨t,ty,k⟩,_,n'⟩:=fg (K:=K) e
  refine ⟨.ref a,p,_,t,true,rfl,ep,ty,n',k,_,rfl,aH ⟨_,rfl,a,_,rfl,e.imp SqL.of SqT.of,rfl,_,rfl,xJ rfl ?_⟩⟩
  have ix:∀(i:Nat) (v:V) (Q:VK),([x,y]:List V)[i]? = some v->Q v H1->rIx K (.ref a) (.int (i:Int)) H1 Q:=λi v Q e' h=>by
   rcases e with z | z
   ·exact .inl ⟨a,_,(i:Int),v,rfl,rfl,SqL.of z,bN e',h⟩
   ·exact .inr (.inl ⟨a,_,(i:Int),v,rfl,rfl,SqT.of z,bN e',h⟩)
  refine ⟨_,rfl,_,rfl,ix 0 x _ rfl (dI.mpr ⟨m,x,rfl,hix,_,rfl,?_⟩)⟩
  cases c:pl m x with
  | false=>rw[c] at hb;exact aH (q1 _ hb)
  | true=>rw[c] at hb;exact aR ⟨_,rfl,_,rfl,ix 1 y _ rfl (dI.mpr ⟨m,y,rfl,hiy,q1 _ hb⟩)⟩
end
open PySem L2
def vC (K:Ab)(cs:List Addr)(W:Addr):Bool:=(BL cs.length).all λi=>((BL cs.length).all λj=>PySem.W.kitOne K (.ref (cs.getD i 0)) (.ref (cs.getD j 0)) == some (i == j)) && PySem.W.kitOne K (.ref (cs.getD i 0)) (.type "ValueError") == some true && PySem.W.kitOne K (.ref (cs.getD i 0)) (.ref W) == some true
theorem ak {K:Ab}{cs:List Addr}{W:Addr}(h:vC K cs W=true){i:Nat}(hi:i<cs.length):(∀j,j<cs.length->PySem.W.kitOne K (.ref (cs.getD i 0)) (.ref (cs.getD j 0))=some (i == j))/\PySem.W.kitOne K (.ref (cs.getD i 0)) (.type "ValueError")=some true/\PySem.W.kitOne K (.ref (cs.getD i 0)) (.ref W)=some true:=by
 have a:=Cn.mp h i (Bp.mpr hi)
 simp only[Bh,beq_iff_eq] at a
 obtain ⟨⟨a1,a2⟩,a3⟩:=a
 exact ⟨λj hj=>beq_iff_eq.mp (Cn.mp a1 j (Bp.mpr hj)),a2,a3⟩
structure Exs (K:Ab)(mg:Str->Option Ae)(c_WebError c_BadWeb c_NoStep c_NoText c_TooMany c_NoTie c_NoRing c_NotClear c_NotThree c_BadBoard c_NoRow c_NoBack:Addr):Prop where
 x_WebError:mg "WebError" = some (.ref c_WebError)
 x_BadWeb:mg "BadWeb" = some (.ref c_BadWeb)
 x_NoStep:mg "NoStep" = some (.ref c_NoStep)
 x_NoText:mg "NoText" = some (.ref c_NoText)
 x_TooMany:mg "TooMany" = some (.ref c_TooMany)
 x_NoTie:mg "NoTie" = some (.ref c_NoTie)
 x_NoRing:mg "NoRing" = some (.ref c_NoRing)
 x_NotClear:mg "NotClear" = some (.ref c_NotClear)
 x_NotThree:mg "NotThree" = some (.ref c_NotThree)
 x_BadBoard:mg "BadBoard" = some (.ref c_BadBoard)
 x_NoRow:mg "NoRow" = some (.ref c_NoRow)
 x_NoBack:mg "NoBack" = some (.ref c_NoBack)
 xi_BadWeb:L2.ot K c_BadWeb=true
 xi_TooMany:L2.ot K c_TooMany=true
 xi_NoTie:L2.ot K c_NoTie=true
 xn_BadWeb:L2.xk K c_BadWeb "at" = true
 xe_TooMany:PySem.W.excIn K c_TooMany L2.fG "ValueError.__new__" = true
 xe_NoTie:PySem.W.excIn K c_NoTie L2.fG "ValueError.__new__" = true
 kt:vC K [c_BadWeb,c_NoStep,c_NoText,c_TooMany,c_NoTie,c_NoRing,c_NotClear,c_NotThree,c_BadBoard,c_NoRow,c_NoBack] c_WebError=true
 xm_BadWeb:PySem.W.exmOne K (.ref c_BadWeb) (.ref c_WebError)=some true
 xm_TooMany:PySem.W.exmOne K (.ref c_TooMany) (.ref c_WebError)=some true
 xm_NoTie:PySem.W.exmOne K (.ref c_NoTie) (.ref c_WebError)=some true
 w_ga:PySem.W.specialIn K (.ref c_WebError) "__getattribute__" = some (some (.builtin "type.__getattribute__"))
 w_rd:PySem.W.readsIn K c_WebError (.type "type")=true
 w_fd:PySem.W.findCls K (.ref c_WebError) (.type "type") "__init__" = some (.val (.builtin "ValueError.__init__"))
theorem Exs.w {K:Ab}{mg:Str->Option Ae}{c_WebError c_BadWeb c_NoStep c_NoText c_TooMany c_NoTie c_NoRing c_NotClear c_NotThree c_BadBoard c_NoRow c_NoBack:Addr}(Z:Exs K mg c_WebError c_BadWeb c_NoStep c_NoText c_TooMany c_NoTie c_NoRing c_NotClear c_NotThree c_BadBoard c_NoRow c_NoBack):ExW K mg "WebError" c_WebError:=⟨Z.x_WebError,Z.w_ga,Z.w_rd,Z.w_fd⟩
abbrev nT (i:Int):Str:=Str.ofString (toString i)
theorem y8:∀n:Nat,n<402->(nT ((n:Int)-1)).length<=5:=by decide +kernel
theorem z7 {i:Int}(h0 : -1<=i)(h1:i<=400):(nT i).length<=5:=by
 obtain ⟨n,e⟩:∃n:Nat,i=(n:Int)-1:=⟨(i+1).toNat,by omega⟩
 rw[e]
 exact y8 n (by omega)
theorem shown_int {i:Int}(h0 : -1<=i)(h1:i<=400):shown (.int i)=some (nT i):=if_pos (DJ (Hk _) (by omega))
theorem iD (x y:Str):(x++y).length=x.length+y.length:=by
 show (x.cps++y.cps).size=_
 rw[CW];rfl
theorem rq {H1:Hp}{ea dx:Addr}{o1 o2 o3:HO}(h:H1 ea=none)(hd:upd H1 ea o1 dx=none)(n:dx≠ea):ay H1 (rm (upd (upd (upd H1 ea o1) dx o2) ea o3) ea)/\rm (upd (upd (upd H1 ea o1) dx o2) ea o3) ea dx=some o2:=by
 refine ⟨λb u e =>?_,?_⟩
 ·have n1:b≠ea:=aA e h
  have n2:b≠dx:=λz=>by
   rw[au n] at hd
   rw[z,hd] at e;cases e
  rw[gD n1,au n1,au n2,au n1];exact e
 ·rw[gD n,au n,ae]
@[irreducible] def lU (C:Addr):Sp:=λvs H Q E=>∃(ea:Addr) (n:Int),vs=[.ref ea,.int n]/\H ea=some (cD ea C none) /\ -1<=n/\n<=400/\∀dx,H dx=none->dx≠ea->Q .non (upd (upd H dx (.xd [("at",.int n)])) ea (cD ea C (some dx)))
theorem gm {C:Addr}{vs:List V}{H:Hp}{Q:VK}{E:XK}:lU C vs H Q E↔∃(ea:Addr) (n:Int),vs=[.ref ea,.int n]/\H ea=some (cD ea C none) /\ -1<=n/\n<=400/\∀dx,H dx=none->dx≠ea->Q .non (upd (upd H dx (.xd [("at",.int n)])) ea (cD ea C (some dx))):=by
 delta lU
 exact Cj
section
variable  {P:Au}{w:AX}{K:Ab}{mg:Str->Option Ae}{base:Heap}{f:Addr}{fd:Be}{c_WebError c_BadWeb c_NoStep c_NoText c_TooMany c_NoTie c_NoRing c_NotClear c_NotThree c_BadBoard c_NoRow c_NoBack:Addr}
theorem oE:aP ["self", "at"] ["self", "at"] (aq gO):=⟨rfl,rfl,rfl,by decide +kernel,rfl,by decide +kernel,by decide +kernel⟩
theorem oF (F:Fun K "__init__" "BadWeb.__init__" gO f fd)(Z:Exs K mg c_WebError c_BadWeb c_NoStep c_NoText c_TooMany c_NoTie c_NoRing c_NotClear c_NotThree c_BadBoard c_NoRow c_NoBack):bC P w K mg base CX0 1 f fd ["self", "at"] (lU c_BadWeb):=by
 refine F.ok oE (λvs H Q E h =>?_) (λcdv A outer s H vs Q E hr h =>?_)
 ·obtain ⟨_,_,rfl,_⟩:=gm.mp h
  rfl
 obtain ⟨ea,n,rfl,he,n0,n1,q⟩:=gm.mp h
 obtain ⟨N,S⟩:=dR Z.xn_BadWeb
 have l0:=z7 n0 n1
 refine ⟨_,@ai _ _ _ _ _ (hX (tJ (x := "WebError") Z.w rfl (@aa _ _ _ _ _ (pv 0) (@aa _ _ _ _ _ (xr (oz gF (oz (vt (pv 1)) xq))) ag rfl) rfl))) (@ao _ _ _ (yZ (pv 0) (pv 1) rfl)),?_⟩
 refine ⟨_,rfl,_,rfl,(by rw[iD];exact small (by decide)),_,rfl,nT n,shown_int n0 n1,small (by omega),nT n,rfl,(by rw[iD,iD];exact A8 (CA l0 _) (small (by decide))),(by rw[iD,iD];exact A8 (CA l0 _) (small (by decide))),ea,_,none,_,rfl,he,N,(by show 1<=Ai;decide),?_⟩
 exact ⟨_,rfl,_,rfl,ea,_,rfl,he,N,S,q⟩
end
open PySem L2
structure Ow (H:Hp)(b:Addr)(m:Int)(ts:List (Addr×List Int)):Prop where
 at':∃t,H b=some (.tup [.int m,.ref t])/\H t=some (.tup (ts.map λu =>.ref u.1))
 tup:Tus H ts
 rng:∀u∈ts,∃x y,u.2=[x,y]/\0<=x/\x<m/\0<=y/\y<m
theorem Ow.same {H H':Hp}{b:Addr}{m:Int}{ts:List (Addr×List Int)}(W:Ow H b m ts)(s:ay H H'):Ow H' b m ts:=by
 obtain ⟨t,e1,e2⟩:=W.at'
 exact ⟨⟨t,s _ _ e1,s _ _ e2⟩,W.tup.same s,W.rng⟩
theorem Ow.bu {n:Nat}{p:Addr}{H H':Hp}{b:Addr}{m:Int}{ts:List (Addr×List Int)}(W:Ow H b m ts)(u:Bu n p H H')(h:Pt n H p):Ow H' b m ts:=by
 obtain ⟨t,e1,e2⟩:=W.at'
 exact ⟨⟨t,u.tup h e1,u.tup h e2⟩,W.tup.bu u h,W.rng⟩
inductive Bad (H:Hp):V->V->Prop
 | flt {M T:V} (f:Flt H M) (w:wh M=false):Bad H M T
 | sq {a:Addr} {xs:List V} {T:V} (e:H a=some (.lst xs)\/H a=some (.tup xs)):Bad H (.ref a) T
 | num {m:Int} {T:V} (h:m<0\/40<m):Bad H (.int m) T
 | row {m:Int} {T:V} (h0:0<=m) (h1:m<=40) (f:Flt H T):Bad H (.int m) T
def Rg (m:Int)(ts:List (Addr×List Int)):Prop:=∀u∈ts,∃x y,u.2=[x,y]/\0<=x/\x<m/\0<=y/\y<m
structure Wo (H:Hp)(b:Addr)(m:Int)(ts:List (Addr×List Int)):Prop where
 ow:Ow H b m ts
 so:(ts.map (·.2)).Pairwise fC
 nd:(ts.map (·.2)).Nodup
 le:ts.length<=200
theorem Wo.same {H H':Hp}{b:Addr}{m:Int}{ts:List (Addr×List Int)}(W:Wo H b m ts)(s:ay H H'):Wo H' b m ts:=⟨W.ow.same s,W.so,W.nd,W.le⟩
def Pq (H:Hp)(m:Int)(x:V)(p:List Int):Prop:=∃a i j,x = .ref a/\p=[i,j]/\(H a=some (.lst [.int i,.int j])\/H a=some (.tup [.int i,.int j]))/\0<=i/\i<m/\0<=j/\j<m
theorem Pq.itm {H:Hp}{m:Int}{x:V}{p:List Int}(h:Pq H m x p):Itm H m x true:=by
 obtain ⟨a,i,j,rfl,rfl,e,i0,i1,j0,j1⟩:=h
 refine .pr e (.int _) (.int _) ?_
 show ((decide (0<=i) && decide (i<m)) && (decide (0<=j) && decide (j<m)))=true
 rw[decide_eq_true i0,decide_eq_true i1,decide_eq_true j0,decide_eq_true j1];rfl
theorem Pq.cx {H H':Hp}{m:Int}{x:V}{p:List Int}(k:∀a u,x = .ref a->H a=some u->H' a=some u)(h:Pq H m x p):Pq H' m x p:=by
 obtain ⟨a,i,j,rfl,rfl,e,r⟩:=h
 exact ⟨a,i,j,rfl,rfl,e.imp (k _ _ rfl) (k _ _ rfl),r⟩
theorem Pq.same {H H':Hp}{m:Int}{x:V}{p:List Int}(s:ay H H')(h:Pq H m x p):Pq H' m x p:=h.cx λa u _=>s a u
theorem y9 {H:Hp}{m:Int}{x:V}(h:Itm H m x true):∃p,Pq H m x p:=by
 cases h with
 | @pr a y z _ e1 _ _ hb =>
  rw[Bh] at hb
  obtain ⟨b1,b2⟩:=hb
  cases y <;> try cases b1
  cases z <;> try cases b2
  rename_i y' _ z' _
  have b1':(decide (0<=y') && decide (y'<m))=true:=b1
  have b2':(decide (0<=z') && decide (z'<m))=true:=b2
  simp only[Bh,decide_eq_true_iff] at b1' b2'
  exact ⟨[y',z'],a,y',z',rfl,rfl,e1,b1'.1,b1'.2,b2'.1,b2'.2⟩
structure U2 (H:Hp)(m:Int)(xs:List V)(ps:List (List Int)):Prop where
 le:ps.length<=xs.length
 yes:∀(j:Nat) x p,xs[j]? = some x->ps[j]? = some p->Pq H m x p
 nd:ps.Nodup
 no:∀x,xs[ps.length]? = some x->Itm H m x false\/∃p,p∈ps/\Pq H m x p
theorem U2.same {H H':Hp}{m:Int}{xs:List V}{ps:List (List Int)}(h:U2 H m xs ps)(s:ay H H'):U2 H' m xs ps :=
 ⟨h.le,λj x p a e=>(h.yes j x p a e).same s,h.nd,λx e=>(h.no x e).imp (λi=>i.same s) λ⟨p,m,i⟩=>⟨p,m,i.same s⟩⟩
theorem U2.ex {H:Hp}{m:Int}{xs:List V}(h:∀x∈xs,∃b,Itm H m x b):∃ps,U2 H m xs ps:=by
 have go:∀n:Nat,∀ps:List (List Int),xs.length-ps.length=n->ps.length<=xs.length->(∀(j:Nat) x p,xs[j]? = some x->ps[j]? = some p->Pq H m x p)->ps.Nodup->∃ps,U2 H m xs ps:=by
  intro n
  induction n with
  | zero=>exact λps hn hl hy nd=>⟨ps,hl,hy,nd,λx e=>by have:=(Al.mp e).1;omega⟩
  | succ n ih =>
   intro ps hn hl hy nd
   have lt:ps.length<xs.length:=by omega
   have ex:xs[ps.length]? = some xs[ps.length]:=Aw lt
   obtain ⟨b,hb⟩:=h _ (CJ lt)
   cases b with
   | false=>exact ⟨ps,hl,hy,nd,λx e=>by rw[ex] at e;cases e;exact .inl hb⟩
   | true =>
    obtain ⟨p,hp⟩:=y9 hb
    by_cases c:p∈ps
    ·exact ⟨ps,hl,hy,nd,λx e=>by rw[ex] at e;cases e;exact .inr ⟨p,c,hp⟩⟩
    ·refine ih (ps++[p]) (by rw[Am];show _-(_+1)=n;omega) (by rw[Am];show _+1<=_;omega) (λj x q e1 e2 =>?_) ?_
     ·by_cases hj:j<ps.length
      ·rw[Cf hj] at e2;exact hy j x q e1 e2
      ·have:j=ps.length:=by have:=(Al.mp e2).1;rw[Am] at this;have:j<ps.length+1:=this;omega
       subst this
       rw[Cb (Ah _),Nat.sub_self] at e2
       rw[ex] at e1
       cases e1;cases e2;exact hp
     ·refine E1.mpr ⟨nd,CV.mpr ⟨B9,DX⟩,λx hx y hy e =>?_⟩
      have hy:=AB.mp hy
      exact c (by rw[<- hy, <- e];exact hx)
 exact go _ [] rfl (A5 _) (λj x p _ e=>by cases e) DX
def kvP (ps:List (List Int)):List (List Key×V):=ps.map λp=>(p.map Sum.inl,V.bl true)
theorem xv {p k:List Int}(h:p.map (Sum.inl:Int->Key)=k.map Sum.inl):p=k:=GA (λa b e=>Ij e) |>.mp h
theorem jv (k:List Int):∀ps:List (List Int),ip (kvP ps) (k.map Sum.inl)=if k∈ps then some (.bl true) else none
 | []=>by rw[if_neg B9];rfl
 | p :: ps=>by
  have ih:=jv k ps
  by_cases c:p=k
  ·rw[if_pos (by rw[c];exact AU)]
   exact iq (p:=(p.map Sum.inl,V.bl true)) (by rw[c])
  ·have:ip (kvP (p :: ps)) (k.map Sum.inl)=ip (kvP ps) (k.map Sum.inl):=ir (p:=(p.map Sum.inl,V.bl true)) (λe=>c (xv e))
   rw[this,ih]
   by_cases d:k∈ps
   ·rw[if_pos d,if_pos (AM _ d)]
   ·rw[if_neg d,if_neg (λz=>(AH.mp z).elim (λe=>c e.symm) d)]
theorem xw {k:List Int}{ps:List (List Int)}(h:k∉ps):putK (kvP ps) (k.map Sum.inl) (.bl true)=kvP (ps++[k]):=by
 unfold putK
 rw[jW,jv,if_neg h,if_neg (by decide)]
 unfold kvP
 rw[Ap];rfl
theorem vD (ps:List (List Int)):(kvP ps).map (·.1)=ps.map (·.map Sum.inl):=by
 unfold kvP
 rw[FH];rfl
theorem gU {out:List (Addr×List Int)}(h:out.Pairwise λa b=>HT.lexLt b.2 a.2=false):(out.map (·.2)).Pairwise fC:=Bm.mpr h
theorem kg {X:Cx}{E:XK}{j k:Nat}{x:Str}{ps:List Str}{sp:Sp}{e:Expr}{es:List Expr}{t:TA}{p pos:Pos}(hx:Passes (CX2 X.prog X.w) X E)(C:fK X.prog X.w X.K X.mg X.base k x ps sp)(hr:bU j X.A)(hj:k<=j)(hg:Gl X x)(ha:PA X (e :: es) t)
  (hdb:(x == ("__debug__" : Str))=false:=by decide) (he:Bf (e :: es) X.env=(false,eval e X.env) :: Bf es X.env:=by rfl) (hpl:(DP pos (Bf es X.env)).any (·.1)=false:=by rfl) :
  PE X (.Call (.Name x p) (e :: es) [] pos) (uh sp [] E t):=by
 obtain ⟨f,fd,F,m,kp,b⟩:=C.ex
 exact qK F (hr.mono hj) hg m kp b .nil hx ha hdb he hpl
@[irreducible] def lV (C:Addr):Sp:=λvs H Q E=>∃(l:Addr) (m:Int) (us:List (Addr×List Int)),vs=[.int m,.ref l]/\(H l=some (.lst (us.map λu =>.ref u.1))\/H l=some (.tup (us.map λu =>.ref u.1)))/\Tus H us/\Rg m us/\(us.map (·.2)).Nodup/\us.length<=900/\(200<us.length->∀H',ay H H'->E (.ref C) none H')/\(us.length<=200->∀b ts H',ay H H'->Wo H' b m ts->(ts.map (·.2)).Perm (us.map (·.2))->Q (.ref b) H')
theorem eB {C:Addr}{vs:List V}{H:Hp}{Q:VK}{E:XK}:lV C vs H Q E↔∃(l:Addr) (m:Int) (us:List (Addr×List Int)),vs=[.int m,.ref l]/\(H l=some (.lst (us.map λu =>.ref u.1))\/H l=some (.tup (us.map λu =>.ref u.1)))/\Tus H us/\Rg m us/\(us.map (·.2)).Nodup/\us.length<=900/\(200<us.length->∀H',ay H H'->E (.ref C) none H')/\(us.length<=200->∀b ts H',ay H H'->Wo H' b m ts->(ts.map (·.2)).Perm (us.map (·.2))->Q (.ref b) H'):=by
 delta lV
 exact Cj
section
variable  {P:Au}{w:AX}{K:Ab}{mg:Str->Option Ae}{base:Heap}{f:Addr}{fd:Be}{c_WebError c_BadWeb c_NoStep c_NoText c_TooMany c_NoTie c_NoRing c_NotClear c_NotThree c_BadBoard c_NoRow c_NoBack:Addr}
theorem jl:aP ["many", "arrows"] ["many", "arrows"] (aq dw):=⟨rfl,rfl,rfl,by decide +kernel,rfl,by decide +kernel,by decide +kernel⟩
theorem jm (F:Fun K "checked_oneway" "checked_oneway" dw f fd)(B:Blt mg)(Z:Exs K mg c_WebError c_BadWeb c_NoStep c_NoText c_TooMany c_NoTie c_NoRing c_NotClear c_NotThree c_BadBoard c_NoRow c_NoBack)(C:Cst mg):bC P w K mg base (CX2 P w) 1 f fd ["many", "arrows"] (lV c_TooMany):=by
 refine F.vi jl (λvs H Q E h =>?_) (λcdv A outer s H vs Q E hr h =>?_)
 ·obtain ⟨_,_,_,rfl,_⟩:=eB.mp h
  rfl
 obtain ⟨l,m,us,rfl,el,tu,rg,nd,ul,tm,q⟩:=eB.mp h
 obtain ⟨t_MOST_TIES,w_MOST_TIES⟩:=C.c_MOST_TIES
 refine ⟨_,(@ai _ _ _ _ _ (@bz _ _ _ _ _ _ _ _ (aE kR (aj aO rfl B.b_len cc (@aa _ _ _ _ _ (pv 1) ag rfl)) (bT (v :=.int 200) rfl w_MOST_TIES ⟨_,rfl⟩) (aN _)) (@ao _ _ _ (oh (x := "TooMany") xT ⟨Z.xe_TooMany,Z.x_TooMany⟩ hr.hd rfl (@aa _ _ _ _ _ gF ag rfl))) aL)
  (@ao _ _ _ (@aV _ _ _ _ (@aF _ _ _ _ _ (@aa _ _ _ _ _ (pv 0) (@aa _ _ _ _ _ (aD az rfl B.b_tuple aM (@aa _ _ _ _ _ (aj bZ rfl B.b_sorted cu (@aa _ _ _ _ _ (pv 1) ag rfl)) ag rfl)) ag rfl) rfl))))),?_⟩
 have lm:(us.map λu=>V.ref u.1).length=us.length:=Ac _
 have sq:SqL K H l (us.map λu =>.ref u.1)\/SqT K H l (us.map λu =>.ref u.1):=el.imp SqL.of SqT.of
 refine ⟨_,rfl,l,_,rfl,sq,_,_,rfl,rfl,_,rfl,?_⟩
 by_cases c:200<us.length
 ·rw[decide_eq_true (show (((us.map λu=>V.ref u.1).length:Int)>200) by rw[lm];omega)]
  exact aR ⟨(by show 1<=Ai;decide),tm c _ (ay.refl _)⟩
 rw[decide_eq_false (show ¬ (((us.map λu=>V.ref u.1).length:Int)>200) by rw[lm];omega)]
 refine aH ⟨_,rfl,_,rfl,l,us,rfl,sq,λt ht=>⟨SqT.of (tu t ht),?_⟩,λl2 out hl2 pm so =>?_⟩
 ·obtain ⟨x,y,e,_⟩:=rg t ht
  rw[e];intro z;cases z
 refine ⟨l2,_,rfl,.inl ⟨SqL.of ae,λl3 hl3=>⟨(by show 2<=Ai;decide),λb hb =>?_⟩⟩⟩
 have gA:=((af hl2 (.lst (out.map λt =>.ref t.1))).trans (af hl3 (.tup (out.map λt =>.ref t.1)))).trans (af hb (.tup [.int m,.ref l3]))
 exact q (by omega) b out _ gA ⟨⟨⟨l3,ae,(af hb _) _ _ ae⟩,λu hu=>gA _ _ (tu u (pm.mem_iff.mp hu)),λu hu=>rg u (pm.mem_iff.mp hu)⟩,gU so,((pm.map (·.2)).nodup_iff).mpr nd,by rw[pm.length_eq];omega⟩ (pm.map _)
end
open PySem L2
theorem xx {c A B:Prop}[Decidable c](hc:c)(h:A):if decide c=true then A else B:=by rw[decide_eq_true hc];exact aR h
@[irreducible] def fL (cB cT:Addr):Sp:=λvs H Q E=>∃(M T:V),vs=[M,T]/\((Bad H M T/\∀dx H',ay H H'->H' dx=some (.xd [("at",.int (-1))])->E (.ref cB) (some dx) H')\/∃(m:Int) (r:Addr) (xs:List V) (ps:List (List Int)),M = .int m/\0<=m/\m<=40/\T = .ref r/\(H r=some (.lst xs)\/H r=some (.tup xs))/\xs.length<=300/\U2 H m xs ps/\(ps.length<xs.length->∀dx H',ay H H'->H' dx=some (.xd [("at",.int (ps.length:Nat))])->E (.ref cB) (some dx) H')/\(ps.length=xs.length->200<xs.length->∀H',ay H H'->E (.ref cT) none H')/\(ps.length=xs.length->xs.length<=200->∀b ts H',ay H H'->Wo H' b m ts->(ts.map (·.2)).Perm ps->Q (.ref b) H'))
theorem bH {cB cT:Addr}{vs:List V}{H:Hp}{Q:VK}{E:XK}:fL cB cT vs H Q E↔∃(M T:V),vs=[M,T]/\((Bad H M T/\∀dx H',ay H H'->H' dx=some (.xd [("at",.int (-1))])->E (.ref cB) (some dx) H')\/∃(m:Int) (r:Addr) (xs:List V) (ps:List (List Int)),M = .int m/\0<=m/\m<=40/\T = .ref r/\(H r=some (.lst xs)\/H r=some (.tup xs))/\xs.length<=300/\U2 H m xs ps/\(ps.length<xs.length->∀dx H',ay H H'->H' dx=some (.xd [("at",.int (ps.length:Nat))])->E (.ref cB) (some dx) H')/\(ps.length=xs.length->200<xs.length->∀H',ay H H'->E (.ref cT) none H')/\(ps.length=xs.length->xs.length<=200->∀b ts H',ay H H'->Wo H' b m ts->(ts.map (·.2)).Perm ps->Q (.ref b) H')):=by
 delta fL
 exact Cj
section
variable  {P:Au}{w:AX}{K:Ab}{mg:Str->Option Ae}{base:Heap}{f:Addr}{fd:Be}{c_WebError c_BadWeb c_NoStep c_NoText c_TooMany c_NoTie c_NoRing c_NotClear c_NotThree c_BadBoard c_NoRow c_NoBack:Addr}
theorem dg:aP ["many", "arrows", "met", "at", "thing"] ["many", "arrows"] (aq dF):=⟨rfl,rfl,rfl,by decide +kernel,rfl,by decide +kernel,by decide +kernel⟩
theorem m6 (F:Fun K "made_oneway" "made_oneway" dF f fd)(B:Blt mg)(Z:Exs K mg c_WebError c_BadWeb c_NoStep c_NoText c_TooMany c_NoTie c_NoRing c_NotClear c_NotThree c_BadBoard c_NoRow c_NoBack)(iB:z4 P w K mg base 1 c_BadWeb ["self", "at"] (lU c_BadWeb))(xChk:fK P w K mg base 1 "checked_oneway" ["many", "arrows"] (lV c_TooMany))(cIsWhole:Cal P w K mg base 1 "is_whole" ["thing"] (iC K))(cIsPair:Cal P w K mg base 3 "is_pair" ["many", "thing"] m5)(C:Cst mg):bC P w K mg base (CX2 P w) 4 f fd ["many", "arrows"] (fL c_BadWeb c_TooMany):=by
 refine F.vi dg (λvs H Q E h =>?_) (λcdv A outer s H vs Q E hr h =>?_)
 ·obtain ⟨_,_,rfl,_⟩:=bH.mp h
  rfl
 obtain ⟨M,T,rfl,hh⟩:=bH.mp h
 have hu:(jh CX0 P w K mg base ["many", "arrows", "met", "at", "thing"] "made_oneway" (aq dF) f cdv A outer s H E).nox.A.units+1<cLine:=zM hr
 obtain ⟨t_MOST_PLACES,w_MOST_PLACES⟩:=C.c_MOST_PLACES
 obtain ⟨fB,fdB,MB,FB,bB⟩:=iB.ex
 refine ⟨_,(@ai _ _ _ _ _ (@bz _ _ _ _ _ _ _ _ (PW.pt (dX (bK (bJ (aG cIsWhole hr (by decide) rfl (@aa _ _ _ _ _ (pv 0) ag rfl)))) (dX (bK (nA kQ kQ ah (pv 0) (bT (v :=.int 40) rfl w_MOST_PLACES ⟨_,rfl⟩))) (di (bK (bJ (aj c0 rfl B.b_isinstance av (@aa _ _ _ _ _ (pv 1) (@aa _ _ _ _ _ (@aF _ _ _ _ _ (@aa _ _ _ _ _ (bI (v :=.ty "list") rfl B.b_list dG rfl) (@aa _ _ _ _ _ (bI (v :=.ty "tuple") rfl B.b_tuple aM rfl) ag rfl) rfl)) ag rfl) rfl)))))))) (@ao _ _ _ (lS (x := "BadWeb") xV MB (dQ Z.xi_BadWeb).1.sb (dQ Z.xi_BadWeb).2.2 FB (hr.mono (by decide)) rfl Z.x_BadWeb bB oo (@aa _ _ _ _ _ (qD mj ah) ag rfl))) aL)
  (@ai _ _ _ _ _ (@aX _ _ 2 _ _ _ _ dg.nd rfl (Or.inl rfl) vc rfl (by first | exact .inl rfl | exact .inr rfl | assumption))
  (@ai _ _ _ _ _ (@fz _ _ _ _ _ _ _ _ PassesOwn.leaving rfl (wc rfl B.b_enumerate (@aa _ _ _ _ _ (pv 1) ag rfl)) (pf rfl (dY (aQ (i:=3) dg.nd rfl (Or.inl rfl)) (dY (aQ (i:=4) dg.nd rfl (Or.inl rfl)) mh)))
   (@ai _ _ _ _ _ (@bz _ _ _ _ _ _ _ _ (PW.pt (dX (bK (bJ (aG cIsPair hr (by decide) rfl (@aa _ _ _ _ _ (pv 0) (@aa _ _ _ _ _ (pv 4) ag rfl) rfl)))) (di (yb (yO hu (@aF _ _ _ _ _ (@aa _ _ _ _ _ (@aJ _ _ _ _ _ _ _ (de (K:=K)) (pv 4) ah (λ_ _=>rfl)) (@aa _ _ _ _ _ (@aJ _ _ _ _ _ _ _ (de (K:=K)) (pv 4) ah (λ_ _=>rfl)) ag rfl) rfl)) (pv 2)))))) (@ao _ _ _ (lS (x := "BadWeb") xV MB (dQ Z.xi_BadWeb).1.sb (dQ Z.xi_BadWeb).2.2 FB (hr.mono (by decide)) rfl Z.x_BadWeb bB oo (@aa _ _ _ _ _ (pv 3) ag rfl))) aL)
   (@ao _ _ _ (wL hu (pv 2) (@aF _ _ _ _ _ (@aa _ _ _ _ _ (@aJ _ _ _ _ _ _ _ (de (K:=K)) (pv 4) ah (λ_ _=>rfl)) (@aa _ _ _ _ _ (@aJ _ _ _ _ _ _ _ (de (K:=K)) (pv 4) ah (λ_ _=>rfl)) ag rfl) rfl)) hW rfl))) (λ_=>rfl))
  (@ao _ _ _ (@aV _ _ _ _ (kg oo xChk hr (by decide) rfl (@aa _ _ _ _ _ (pv 0) (@aa _ _ _ _ _ (aD (ox hr.hd) rfl B.b_list dG (@aa _ _ _ _ _ (pv 2) ag rfl)) ag rfl) rfl))))))),?_⟩
 rcases hh with ⟨hb,be⟩ | ⟨m,r,xs,ps,rfl,m0,m1,rfl,hx,xl,U,be,tm,q⟩
 ·have rz:∀(σ:St) (H1:Hp),ay H H1->mT c_BadWeb (lU c_BadWeb) E (nB (tUn (λx H Q=>∃i:Int,x = .int i/\Q (.int (-i)) H) (tC (.int 1))) vT) { nx:=λ_ _=>False,rt:=λ_ _=>False } σ H1:=λσ H1 s1 =>
   ⟨1,rfl,(by show 1<=Ai;decide),λea he=>gm.mpr ⟨ea, -1,rfl,ae,by decide,by decide,λdx hdx nx=>by
    obtain ⟨s2,ed⟩:=rq (o1:=cD ea c_BadWeb none) (o2 :=.xd [("at",.int (-1))]) (o3:=cD ea c_BadWeb (some dx)) he hdx nx
    exact ⟨rfl,ea,some dx,rfl,ae,be dx _ (s1.trans s2) ed⟩⟩⟩
  cases hb with
  | flt f w =>
   obtain ⟨_,⟨t,b1,b2,ty,k1,k2,e⟩,_⟩:=gS (K:=K) f
   refine ⟨_,rfl,bM.mpr ⟨M,t,b1,b2,rfl,ty,k1,k2,_,rfl,?_⟩⟩
   rw[e,w]
   exact aR (rz _ _ (ay.refl _))
  | sq e =>
   obtain ⟨_,⟨t,b1,b2,ty,k1,k2,eb⟩,_⟩:=fg (K:=K) e
   refine ⟨_,rfl,bM.mpr ⟨_,t,b1,b2,rfl,ty,k1,k2,_,rfl,?_⟩⟩
   rw[eb]
   exact aR (rz _ _ (ay.refl _))
  | @num m _ hm =>
   refine ⟨_,rfl,bM.mpr ⟨_,_,true,false,rfl,.int m,rfl,rfl,_,rfl,aH ⟨_,rfl,_,_,rfl,rfl,_,rfl,?_⟩⟩⟩
   by_cases c:(0:Int)<=m
   ·rw[decide_eq_true c]
    refine aR ⟨_,_,rfl,rfl,_,rfl,?_⟩
    rw[decide_eq_false (show ¬ m<=40 by omega)]
    exact aR (rz _ _ (ay.refl _))
   ·rw[decide_eq_false c]
    exact aH ⟨_,rfl,aR (rz _ _ (ay.refl _))⟩
  | @row m _ h0 h1 f =>
   refine ⟨_,rfl,bM.mpr ⟨_,_,true,false,rfl,.int m,rfl,rfl,_,rfl,aH ⟨_,rfl,_,_,rfl,rfl,_,rfl,xx h0 ⟨_,_,rfl,rfl,_,rfl,?_⟩⟩⟩⟩
   rw[decide_eq_true h1]
   refine aH ⟨_,rfl,(by show 2<=Ai;decide),λp hp =>?_⟩
   have s0:=af hp (.tup [.ty "list",.ty "tuple"])
   have f:=f.cx λa u _ e=>s0 a u e
   have ep:SqT K (upd H p (.tup [.ty "list",.ty "tuple"])) p (["list", "tuple"].map V.ty):=SqT.of ae
   generalize upd H p (.tup [.ty "list",.ty "tuple"])=H1 at s0 ep f
   obtain ⟨⟨t,ty,k⟩,_,n⟩:=gS (K:=K) f
   exact ⟨_,p,_,t,false,rfl,ep,ty,n,k,_,rfl,aR (rz _ _ s0)⟩
 refine ⟨_,rfl,bM.mpr ⟨_,_,true,false,rfl,.int m,rfl,rfl,_,rfl,aH ⟨_,rfl,_,_,rfl,rfl,_,rfl,xx m0 ⟨_,_,rfl,rfl,_,rfl,?_⟩⟩⟩⟩
 rw[decide_eq_true m1]
 refine aH ⟨_,rfl,(by show 2<=Ai;decide),λp hp =>?_⟩
 have s0:=af hp (.tup [.ty "list",.ty "tuple"])
 have ep:SqT K (upd H p (.tup [.ty "list",.ty "tuple"])) p (["list", "tuple"].map V.ty):=SqT.of ae
 have hx0:upd H p (.tup [.ty "list",.ty "tuple"]) r=some (.lst xs)\/upd H p (.tup [.ty "list",.ty "tuple"]) r=some (.tup xs):=hx.imp (s0 _ _) (s0 _ _)
 have U0:=U.same s0
 generalize upd H p (.tup [.ty "list",.ty "tuple"])=H1 at s0 ep hx0 U0
 obtain ⟨⟨t,ty,kk⟩,_,n⟩:=fg (K:=K) hx0
 refine ⟨_,p,_,t,true,rfl,ep,ty,n,kk,_,rfl,aH λdd hdd =>?_⟩
 have s1:=af hdd (.dT [])
 have ed:upd H1 dd (.dT []) dd=some (.dT (kvP [])):=ae
 have hx1:upd H1 dd (.dT []) r=some (.lst xs)\/upd H1 dd (.dT []) r=some (.tup xs):=hx0.imp (s1 _ _) (s1 _ _)
 generalize upd H1 dd (.dT [])=H2 at s1 ed hx1
 have atp:∀{G:Hp},ay H1 G->G r=H2 r:=λ{G} s=>by
  rcases hx0 with e | e
  ·rw[s _ _ e,s1 _ _ e]
  ·rw[s _ _ e,s1 _ _ e]
 refine ⟨_,rfl,r,rfl,sI (λi σ H'=>(∃c4 c5,σ=[some (.int m),some (.ref r),some (.ref dd),c4,c5])/\ay H1 H'/\i<=ps.length/\H' dd=some (.dT (kvP (ps.take i)))) hx1 ⟨⟨none,none,rfl⟩,s1,A5 _,ed⟩ (λi σ H' z=>atp z.2.1) ?_ ?_⟩
 ·rintro i x σ G T' hxi hT ⟨⟨c4,c5,rfl⟩,s2,ik,edi⟩
  have s3:=s2.trans (af hT (.tup [.int i,x]))
  have edi:=(af hT (.tup [.int i,x])) _ _ edi
  refine ⟨T',_,rfl,SqT.of ae,rfl,_,_,rfl,_,_,rfl,rfl,?_⟩
  generalize upd G T' (.tup [.int i,x])=G1 at s3 edi
  have lx:i<xs.length:=(Al.mp hxi).1
  have ix:∀{K1:Hp} {a:Addr} {y z:Int} (_:K1 a=some (.lst [.int y,.int z])\/K1 a=some (.tup [.int y,.int z])) (i:Nat) (v:V) (Q:VK),([.int y,.int z]:List V)[i]? = some v->Q v K1->rIx K (.ref a) (.int (i:Int)) K1 Q:=λ{K1 a y z} h1 i v Q e h=>by
   rcases h1 with z | z
   ·exact .inl ⟨a,_,(i:Int),v,rfl,rfl,SqL.of z,bN e,h⟩
   ·exact .inr (.inl ⟨a,_,(i:Int),v,rfl,rfl,SqT.of z,bN e,h⟩)
  have bad:∀(K1:Hp) (σ:St) (hσ:σ[3]? = some (some (.int i))),ay H1 K1->i=ps.length->mT c_BadWeb (lU c_BadWeb) E (nB (tY 3) vT) { nx:=λ_ _=>False,rt:=λ_ _=>False } σ K1:=λK1 σ hσ sk ei=>by
   refine ⟨_,hσ,(by show 1<=Ai;decide),λea he =>?_⟩
   refine gm.mpr ⟨ea,i,rfl,ae,by omega,by omega,λdx hdx nx =>?_⟩
   obtain ⟨s5,edx⟩:=rq (o1:=cD ea c_BadWeb none) (o2 :=.xd [("at",.int i)]) (o3:=cD ea c_BadWeb (some dx)) he hdx nx
   exact ⟨rfl,ea,some dx,rfl,ae,be (by omega) dx _ (s0.trans (sk.trans s5)) (by rw[edx,ei])⟩
  by_cases c:i<ps.length
  ·have epi:ps[i]? = some ps[i]:=Aw c
   have pq:=(U0.yes i x _ hxi epi).same s3
   obtain ⟨a,y,z,rfl,ezp,ea,y0,y1,z0,z1⟩:=pq
   refine ⟨_,rfl,_,rfl,dy.mpr ⟨m,_,true,rfl,(Pq.itm ⟨a,y,z,rfl,rfl,ea,y0,y1,z0,z1⟩),λG2 s4=>⟨_,rfl,aH ?_⟩⟩⟩
   have ea2:=ea.imp (s4 _ _) (s4 _ _)
   have edi2:=s4 _ _ edi
   refine ⟨_,rfl,ix ea2 0 _ _ rfl ⟨_,rfl,ix ea2 1 _ _ rfl ⟨(by show 2<=Ai;decide),λq1 hq1 =>?_⟩⟩⟩
   have g5:=af hq1 (.tup [.int y,.int z])
   have eq1:upd G2 q1 (.tup [.int y,.int z]) q1=some (.tup (([y,z].map (Sum.inl:Int->Key)).map kV)):=ae
   have edi3:=g5 _ _ edi2
   have ea3:=ea2.imp (g5 _ _) (g5 _ _)
   have s5:=s3.trans (s4.trans g5)
   generalize upd G2 q1 (.tup [.int y,.int z])=G3 at g5 eq1 edi3 ea3 s5
   have nin:[y,z]∉ps.take i:=λmm=>by
    have nd:=U0.nd
    obtain ⟨j,hj⟩:=A3.mp mm
    have lj:j<i:=by have:=(Al.mp hj).1;rw[Bg] at this;omega
    rw[BK,if_pos lj] at hj
    have e1:ps[j]? = ps[i]? := by rw[hj,epi,ezp]
    have:=(GV (by omega) nd).mp e1
    omega
   have gt:=tq.t edi3 eq1
   rw[jv,if_neg nin] at gt
   refine ⟨_,rfl,dd,_,rfl,gt,_,rfl,aH ?_⟩
   refine ⟨_,rfl,_,rfl,ix ea3 0 _ _ rfl ⟨_,rfl,ix ea3 1 _ _ rfl ⟨(by show 2<=Ai;decide),λq2 hq2 =>?_⟩⟩⟩
   have g6:=af hq2 (.tup [.int y,.int z])
   have eq2:upd G3 q2 (.tup [.int y,.int z]) q2=some (.tup (([y,z].map (Sum.inl:Int->Key)).map kV)):=ae
   have edi4:=g6 _ _ edi3
   have s6:=s5.trans g6
   generalize upd G3 q2 (.tup [.int y,.int z])=G4 at g6 eq2 edi4 s6
   refine ⟨dd,_,rfl,uW.t edi4 eq2 (by unfold kvP;rw[Ac,Bg];exact cp (by omega)),⟨_,_,rfl⟩,λb u eb =>?_,c,?_⟩
   ·rw[au (aA eb hdd)];exact s6 b u eb
   ·rw[xw nin,ae,Bc,epi,ezp];rfl
  ·obtain rfl:i=ps.length:=by omega
   rcases U0.no x hxi with it | ⟨p',pm,pq⟩
   ·exact ⟨_,rfl,_,rfl,dy.mpr ⟨m,x,false,rfl,it.same s3,λG2 s4=>⟨_,rfl,aR (bad _ _ rfl (s3.trans s4) rfl)⟩⟩⟩
   ·obtain ⟨a,y,z,rfl,rfl,ea,y0,y1,z0,z1⟩:=pq.same s3
    refine ⟨_,rfl,_,rfl,dy.mpr ⟨m,_,true,rfl,(Pq.itm ⟨a,y,z,rfl,rfl,ea,y0,y1,z0,z1⟩),λG2 s4=>⟨_,rfl,aH ?_⟩⟩⟩
    have ea2:=ea.imp (s4 _ _) (s4 _ _)
    have edi2:=s4 _ _ edi
    refine ⟨_,rfl,ix ea2 0 _ _ rfl ⟨_,rfl,ix ea2 1 _ _ rfl ⟨(by show 2<=Ai;decide),λq1 hq1 =>?_⟩⟩⟩
    have g5:=af hq1 (.tup [.int y,.int z])
    have eq1:upd G2 q1 (.tup [.int y,.int z]) q1=some (.tup (([y,z].map (Sum.inl:Int->Key)).map kV)):=ae
    have edi3:=g5 _ _ edi2
    have s5:=s3.trans (s4.trans g5)
    generalize upd G2 q1 (.tup [.int y,.int z])=G3 at g5 eq1 edi3 s5
    have gt:=tq.t edi3 eq1
    rw[jv,AA (Ah _),if_pos pm] at gt
    exact ⟨_,rfl,dd,_,rfl,gt,_,rfl,aR (bad _ _ rfl s5 rfl)⟩
 rintro σ G ⟨⟨c4,c5,rfl⟩,s2,lk,edi⟩
 have ek:ps.length=xs.length:=CC U.le lk
 rw[AA U.le] at edi
 refine ⟨_,rfl,_,rfl,dd,_,ps,rfl,edi,vD ps,λl us hl et tu =>?_⟩
 have g3:=af hl (.lst (us.map λt =>.ref t.1))
 have lu:us.length=ps.length:=by have:=congrArg List.length et;rwa [Ac] at this
 have rg:Rg m us:=λu hu=>by
  have:u.2∈ps:=by rw[<- et];exact BA hu
  obtain ⟨j,hj⟩:=A3.mp this
  have lj:j<xs.length:=by rw[<- ek];exact (Al.mp hj).1
  obtain ⟨a,y,z,_,ep',_,y0,y1,z0,z1⟩:=U.yes j _ _ (Aw lj) hj
  exact ⟨y,z,ep',y0,y1,z0,z1⟩
 exact eB.mpr ⟨l,m,us,rfl,.inl ae,λu hu=>g3 _ _ (tu u hu),rg,by rw[et];exact U.nd,by omega,λc H' s=>tm ek (by omega) H' (s0.trans (s2.trans (g3.trans s))),λc b ts H' s w pm=>q ek (by omega) b ts H' (s0.trans (s2.trans (g3.trans s))) w (by rw[<- et];exact pm)⟩
end
open PySem L2
theorem z8 {a b c d:Int}:fC [a,b] [c,d]↔a<c\/(a=c/\b<=d):=by
 unfold fC
 rw[HT.cz]
 by_cases h:c=a
 ·rw[if_pos h,HT.cz]
  by_cases k:d=b
  ·rw[if_pos k]
   exact ⟨λ_ =>.inr ⟨h.symm,by omega⟩,λ_=>rfl⟩
  ·rw[if_neg k,decide_eq_false_iff_not]
   omega
 ·rw[if_neg h,decide_eq_false_iff_not]
  omega
def oG (E:List (List Int))(k:Int):List Int:=(E.filter λt=>decide (t.getD 0 0=k)).map (·.getD 1 0)
def inP (E:List (List Int))(k:Int):List Int:=(E.filter λt=>decide (t.getD 1 0=k)).map (·.getD 0 0)
theorem lW {E:List (List Int)}{x y k:Int}:oG (E++[[x,y]]) k=oG E k++(if x=k then [y] else []):=by
 unfold oG
 rw[Cm,Ap]
 congr 1
 by_cases c:x=k
 ·rw[if_pos c,B2 (by exact decide_eq_true c)];rfl
 ·rw[if_neg c,B3 (by rw[show ([x,y]:List Int).getD 0 0=x from rfl,decide_eq_false c];decide)];rfl
theorem oH {E:List (List Int)}{x y k:Int}:inP (E++[[x,y]]) k=inP E k++(if y=k then [x] else []):=by
 unfold inP
 rw[Cm,Ap]
 congr 1
 by_cases c:y=k
 ·rw[if_pos c,B2 (by exact decide_eq_true c)];rfl
 ·rw[if_neg c,B3 (by rw[show ([x,y]:List Int).getD 1 0=y from rfl,decide_eq_false c];decide)];rfl
theorem iE {ts:List (Addr×List Int)}{i:Nat}{x:V}(e:(ts.map λt:Addr×List Int=>V.ref t.1)[i]? = some x):∃u,ts[i]? = some u/\x = .ref u.1:=by
 rw[AO] at e
 cases z:ts[i]? with
 | none=>rw[z] at e;cases e
 | some tt=>rw[z] at e;exact ⟨tt,rfl,(A1 e).symm⟩
theorem Tus.iF {H:Hp}{us:List (Addr×List Int)}(h:Tus H us){u:Addr×List Int}(e:H u.1=some (.tup (u.2.map V.int))):Tus H (us++[u]):=λx hx=>by
 rcases Ax.mp hx with z | z
 ·exact h x z
 ·rw[AB] at z;subst z;exact e
abbrev rA:Sp:=λvs H Q _=>∃(r:Addr) (m k:Int) (ts:List (Addr×List Int)),vs=[.ref r,.int k]/\Ow H r m ts/\ts.length<=250/\∀p H',ay H H'->H' p=some (.tup ((oG (ts.map (·.2)) k).map V.int))->Q (.ref p) H'
@[irreducible] def m7:Sp:=rA
theorem gW {vs:List V}{H:Hp}{Q:VK}{E:XK}:m7 vs H Q E↔rA vs H Q E:=by
 delta m7
 exact Cj
section
variable  {P:Au}{w:AX}{K:Ab}{mg:Str->Option Ae}{base:Heap}{f T:Addr}{fd:Be}
theorem oI:aP ["web", "place"] ["web", "place"] (aq gK):=⟨rfl,rfl,rfl,by decide +kernel,rfl,by decide +kernel,by decide +kernel⟩
theorem eC:(["arrow", "place"]:List Str).Nodup:=by decide +kernel
theorem oJ (F:Fun K "arrows_out" "arrows_out" gK f fd)(B:Blt mg)(C:Cst mg):bC P w K mg base CX0 1 f fd ["web", "place"] m7:=by
 refine F.ok oI (λvs H Q E h =>?_) (λcdv A outer s H vs Q E hr h =>?_)
 ·obtain ⟨_,_,_,_,rfl,_⟩:=gW.mp h
  rfl
 obtain ⟨r,m,k,ts,rfl,W,tl,q⟩:=gW.mp h
 refine ⟨_,(@ao _ _ _ (@aV _ _ _ _ (aD az rfl B.b_tuple aM (@aa _ _ _ _ _ (bO ["arrow", "place"] [none,some 1] rfl (@cU _ _ _ _ (@aJ _ _ _ _ _ _ _ aS (pv 0) ah (λ_ _=>rfl))) rfl (λ_ _ _ _ _=>(aQ (i:=0) eC rfl (Or.inl rfl))) (λ_ _ _ _ _=>(eQ (aE fq (@aJ _ _ _ _ _ _ _ (cF (K:=K)) (pv 0) ah (λ_ _=>rfl)) (pv 1) (aN _)))) (λ_ _ _ _ _=>(@aJ _ _ _ _ _ _ _ (cF (K:=K)) (pv 0) ah (λ_ _=>rfl)))) ag rfl)))),?_⟩
 obtain ⟨t,e1,e2⟩:=W.at'
 refine ⟨_,rfl,r,_,1,_,rfl,rfl,SqT.of e1,rfl,t,rfl,⟨_,SqT.of e2⟩,bS (xs:=ts.map λu =>.ref u.1) (λi ys H'=>H'=H/\ys=(oG ((ts.map (·.2)).take i) k).map V.int) ⟨rfl,rfl⟩ (by rw[Ac];exact small (by omega)) (λi ys H' _ k=>by rw[k.1];exact SqT.of e2) ?_ ?_⟩
 ·rintro i x ys H1 hx hy ⟨eH,rfl⟩ R1 R0 r1 r0
  obtain ⟨u,hu,rfl⟩:=iE hx
  have mu:=AJ hu
  obtain ⟨x,y,e3,_⟩:=W.rng u mu
  have hu1:=W.tup u mu
  rw[e3] at hu1
  rw[eH]
  have tk:(ts.map (·.2)).take (i+1)=(ts.map (·.2)).take i++[[x,y]]:=by rw[Bc,AO,hu, <- e3];rfl
  refine ⟨_,rfl,u.1,_,0,_,rfl,rfl,SqT.of hu1,rfl,_,rfl,rfl,_,rfl,?_⟩
  by_cases c:x=k
  ·rw[decide_eq_true (by rw[c])]
   refine aR ⟨_,rfl,u.1,_,1,_,rfl,rfl,SqT.of hu1,rfl,r1 _ _ ⟨rfl,?_⟩⟩
   rw[tk,lW,if_pos c,Ap];rfl
  ·rw[decide_eq_false (λz=>c (V.int.inj z))]
   refine aH (r0 _ ⟨rfl,?_⟩)
   rw[tk,lW,if_neg c,AZ]
 ·rintro ys H1 hy ⟨eH,rfl⟩ l hl
  rw[eH] at hl ⊢
  rw[Ac,AA (by rw[Ac];exact Ah _)]
  refine ⟨l,_,rfl,.inl ⟨SqL.of ae,λt2 ht2 =>?_⟩⟩
  exact q t2 _ ((af hl _).trans (af ht2 _)) ae
end
abbrev rB:Sp:=λvs H Q _=>∃(r:Addr) (m k:Int) (ts:List (Addr×List Int)),vs=[.ref r,.int k]/\Ow H r m ts/\ts.length<=250/\∀p H',ay H H'->H' p=some (.tup ((inP (ts.map (·.2)) k).map V.int))->Q (.ref p) H'
@[irreducible] def m8:Sp:=rB
theorem gX {vs:List V}{H:Hp}{Q:VK}{E:XK}:m8 vs H Q E↔rB vs H Q E:=by
 delta m8
 exact Cj
section
variable  {P:Au}{w:AX}{K:Ab}{mg:Str->Option Ae}{base:Heap}{f T:Addr}{fd:Be}
theorem qm:aP ["web", "place"] ["web", "place"] (aq iU):=⟨rfl,rfl,rfl,by decide +kernel,rfl,by decide +kernel,by decide +kernel⟩
theorem fi:(["arrow", "place"]:List Str).Nodup:=by decide +kernel
theorem qo (F:Fun K "arrows_in" "arrows_in" iU f fd)(B:Blt mg)(C:Cst mg):bC P w K mg base CX0 1 f fd ["web", "place"] m8:=by
 refine F.ok qm (λvs H Q E h =>?_) (λcdv A outer s H vs Q E hr h =>?_)
 ·obtain ⟨_,_,_,_,rfl,_⟩:=gX.mp h
  rfl
 obtain ⟨r,m,k,ts,rfl,W,tl,q⟩:=gX.mp h
 refine ⟨_,(@ao _ _ _ (@aV _ _ _ _ (aD az rfl B.b_tuple aM (@aa _ _ _ _ _ (bO ["arrow", "place"] [none,some 1] rfl (@cU _ _ _ _ (@aJ _ _ _ _ _ _ _ aS (pv 0) ah (λ_ _=>rfl))) rfl (λ_ _ _ _ _=>(aQ (i:=0) fi rfl (Or.inl rfl))) (λ_ _ _ _ _=>(eQ (aE fq (@aJ _ _ _ _ _ _ _ (cF (K:=K)) (pv 0) ah (λ_ _=>rfl)) (pv 1) (aN _)))) (λ_ _ _ _ _=>(@aJ _ _ _ _ _ _ _ (cF (K:=K)) (pv 0) ah (λ_ _=>rfl)))) ag rfl)))),?_⟩
 obtain ⟨t,e1,e2⟩:=W.at'
 refine ⟨_,rfl,r,_,1,_,rfl,rfl,SqT.of e1,rfl,t,rfl,⟨_,SqT.of e2⟩,bS (xs:=ts.map λu =>.ref u.1) (λi ys H'=>H'=H/\ys=(inP ((ts.map (·.2)).take i) k).map V.int) ⟨rfl,rfl⟩ (by rw[Ac];exact small (by omega)) (λi ys H' _ k=>by rw[k.1];exact SqT.of e2) ?_ ?_⟩
 ·rintro i x ys H1 hx hy ⟨eH,rfl⟩ R1 R0 r1 r0
  obtain ⟨u,hu,rfl⟩:=iE hx
  have mu:=AJ hu
  obtain ⟨x,y,e3,_⟩:=W.rng u mu
  have hu1:=W.tup u mu
  rw[e3] at hu1
  rw[eH]
  have tk:(ts.map (·.2)).take (i+1)=(ts.map (·.2)).take i++[[x,y]]:=by rw[Bc,AO,hu, <- e3];rfl
  refine ⟨_,rfl,u.1,_,1,_,rfl,rfl,SqT.of hu1,rfl,_,rfl,rfl,_,rfl,?_⟩
  by_cases c:y=k
  ·rw[decide_eq_true (by rw[c])]
   refine aR ⟨_,rfl,u.1,_,0,_,rfl,rfl,SqT.of hu1,rfl,r1 _ _ ⟨rfl,?_⟩⟩
   rw[tk,oH,if_pos c,Ap];rfl
  ·rw[decide_eq_false (λz=>c (V.int.inj z))]
   refine aH (r0 _ ⟨rfl,?_⟩)
   rw[tk,oH,if_neg c,AZ]
 ·rintro ys H1 hy ⟨eH,rfl⟩ l hl
  rw[eH] at hl ⊢
  rw[Ac,AA (by rw[Ac];exact Ah _)]
  refine ⟨l,_,rfl,.inl ⟨SqL.of ae,λt2 ht2 =>?_⟩⟩
  exact q t2 _ ((af hl _).trans (af ht2 _)) ae
end
def iY (P:List Int)(t:List Int):Bool := !decide (t.getD 0 0∈P) && !decide (t.getD 1 0∈P)
def swp (t:List Int):List Int:=[t.getD 1 0,t.getD 0 0]
theorem oK (k:Int):∀ps:List Int,inV (.int k) (ps.map V.int)=decide (k∈ps)
 | []=>by simp[inV]
 | p :: ps=>by
  have ih:=oK k ps
  unfold inV at ih ⊢
  rw[AV,Dp,ih]
  have e:eqV (.int p) (.int k)=(p == k):=rfl
  rw[e]
  by_cases h:p=k
  ·subst h;simp
  ·rw[beq_eq_false_iff_ne.mpr h,GB]
   apply decide_eq_decide.mpr
   rw[AH]
   exact ⟨.inr,λx=>x.elim (λy=>absurd y.symm h) id⟩
theorem gn (ps:List Int):(ps.map V.int).all hZ=true:=by
 rw[List.all_map,Cn]
 intro x _
 rfl
theorem m9 {P:List Int}{x:Int}{A B:Prop}(h1:x∉P->A)(h2:x∈P->B):if (if true=true then !inV (.int x) (P.map V.int) else inV (.int x) (P.map V.int))=true then A else B:=by
 rw[if_pos rfl,oK]
 by_cases c:x∈P
 ·rw[decide_eq_true c];exact aH (h2 c)
 ·rw[decide_eq_false c];exact aR (h1 c)
abbrev rC:Sp:=λvs H Q _=>∃(r q:Addr) (m:Nat) (ts:List (Addr×List Int)) (P:List Int),vs=[.ref r,.ref q]/\Ow H r (m:Int) ts/\ts.length<=250/\H q=some (.tup (P.map V.int))/\∀(b:Addr) (us:List (Addr×List Int)) (H':Hp),ay H H'->Ow H' b (m:Int) us->us.map (·.2)=(ts.map (·.2)).filter (iY P)->Q (.ref b) H'
@[irreducible] def nc:Sp:=rC
theorem gY {vs:List V}{H:Hp}{Q:VK}{E:XK}:nc vs H Q E↔rC vs H Q E:=by
 delta nc
 exact Cj
section
variable  {P:Au}{w:AX}{K:Ab}{mg:Str->Option Ae}{base:Heap}{f T:Addr}{fd:Be}
theorem oM:aP ["web", "places"] ["web", "places"] (aq gL):=⟨rfl,rfl,rfl,by decide +kernel,rfl,by decide +kernel,by decide +kernel⟩
theorem dU:(["arrow", "places"]:List Str).Nodup:=by decide +kernel
theorem oN (F:Fun K "cut_oneway" "cut_oneway" gL f fd)(B:Blt mg)(C:Cst mg):bC P w K mg base CX0 1 f fd ["web", "places"] nc:=by
 refine F.ok oM (λvs H Q E h =>?_) (λcdv A outer s H vs Q E hr h =>?_)
 ·obtain ⟨_,_,_,_,_,rfl,_⟩:=gY.mp h
  rfl
 obtain ⟨r,q,m,ts,P,rfl,W,tl,eq,k⟩:=gY.mp h
 refine ⟨_,(@ao _ _ _ (@aV _ _ _ _ (@aF _ _ _ _ _ (@aa _ _ _ _ _ (@aJ _ _ _ _ _ _ _ aS (pv 0) ah (λ_ _=>rfl)) (@aa _ _ _ _ _ (aD az rfl B.b_tuple aM (@aa _ _ _ _ _ (bO ["arrow", "places"] [none,some 1] rfl (@cU _ _ _ _ (@aJ _ _ _ _ _ _ _ aS (pv 0) ah (λ_ _=>rfl))) rfl (λ_ _ _ _ _=>(aQ (i:=0) dU rfl (Or.inl rfl))) (λ_ _ _ _ _=>(eQ (PW.pt (iJ (aE (fW (K:=K)) (@aJ _ _ _ _ _ _ _ (cF (K:=K)) (pv 0) ah (λ_ _=>rfl)) (pv 1) rfl) (fV (aE (fW (K:=K)) (@aJ _ _ _ _ _ _ _ (cF (K:=K)) (pv 0) ah (λ_ _=>rfl)) (pv 1) rfl)))))) (λ_ _ _ _ _=>(pv 0))) ag rfl)) ag rfl) rfl)))),?_⟩
 obtain ⟨t,e1,e2⟩:=W.at'
 refine ⟨_,rfl,r,_,0,_,rfl,rfl,SqT.of e1,rfl,_,rfl,r,_,1,_,rfl,rfl,SqT.of e1,rfl,t,rfl,⟨_,SqT.of e2⟩,bS (xs:=ts.map λu =>.ref u.1) (λi ys H'=>H'=H/\ys=((ts.take i).filter λu=>iY P u.2).map λu =>.ref u.1) ⟨rfl,rfl⟩ (by rw[Ac];exact small (by omega)) (λi ys H' _ k=>by rw[k.1];exact SqT.of e2) ?_ ?_⟩
 ·rintro i x ys H1 hx hy ⟨eH,rfl⟩ R1 R0 r1 r0
  obtain ⟨u,hu,rfl⟩:=iE hx
  have mu:=AJ hu
  obtain ⟨x,y,e3,_⟩:=W.rng u mu
  have hu1:=W.tup u mu
  rw[e3] at hu1
  rw[eH]
  have tk:∀c:Bool,iY P u.2=c->(ts.take (i+1)).filter (λu=>iY P u.2)=(ts.take i).filter (λu=>iY P u.2)++(if c=true then [u] else []):=λc ec=>by
   rw[Bc,hu,Cm]
   congr 1
   cases c with
   | true=>rw[if_pos rfl];exact B2 ec
   | false=>rw[if_neg Ao];exact B3 (by rw[ec];exact Ao)
  refine ⟨_,rfl,u.1,_,0,_,rfl,rfl,SqT.of hu1,rfl,_,rfl,q,_,rfl,.inr (SqT.of eq),rfl,gn P,_,rfl,m9 (λc1 =>?_) λc1 =>?_⟩
  ·refine ⟨_,rfl,u.1,_,1,_,rfl,rfl,SqT.of hu1,rfl,_,rfl,q,_,rfl,.inr (SqT.of eq),rfl,gn P,_,rfl,m9 (λc2 =>?_) λc2 =>?_⟩
   ·refine ⟨_,rfl,r1 _ _ ⟨rfl,?_⟩⟩
    rw[tk true (by rw[e3];show (!decide (x∈P) && !decide (y∈P))=true;rw[decide_eq_false c1,decide_eq_false c2];rfl),Ap];rfl
   ·refine r0 _ ⟨rfl,?_⟩
    rw[tk false (by rw[e3];show (!decide (x∈P) && !decide (y∈P))=false;rw[decide_eq_true c2];simp)]
    exact congrArg _ (AZ _).symm
  ·refine aH (r0 _ ⟨rfl,?_⟩)
   rw[tk false (by rw[e3];show (!decide (x∈P) && !decide (y∈P))=false;rw[decide_eq_true c1];rfl)]
   exact congrArg _ (AZ _).symm
 ·rintro ys H1 hy ⟨eH,rfl⟩ l hl
  rw[eH] at hl ⊢
  rw[Ac,AA (Ah _)]
  refine ⟨l,_,rfl,.inl ⟨SqL.of ae,λt2 ht2=>⟨(by show 2<=Ai;decide),λb hb =>?_⟩⟩⟩
  have gA:=((af hl (.lst ((ts.filter λu=>iY P u.2).map λu =>.ref u.1))).trans (af ht2 (.tup ((ts.filter λu=>iY P u.2).map λu =>.ref u.1)))).trans (af hb (.tup [.int (m:Int),.ref t2]))
  refine k b (ts.filter λu=>iY P u.2) _ gA ⟨⟨t2,ae,(af hb _) _ _ ae⟩,λu hu=>gA _ _ (W.tup u (AS.mp hu).1),λu hu=>W.rng u (AS.mp hu).1⟩ ?_
  rw[FI];rfl
end
abbrev oO:Sp:=λvs H Q _=>∃(r:Addr) (m:Nat) (ts:List (Addr×List Int)),vs=[.ref r]/\Ow H r (m:Int) ts/\ts.length<=250/\∀(b:Addr) (us:List (Addr×List Int)) (H':Hp),ay H H'->Ow H' b (m:Int) us->(us.map (·.2)).Perm ((ts.map (·.2)).map swp)->(us.map (·.2)).Pairwise fC->Q (.ref b) H'
@[irreducible] def jw:Sp:=oO
theorem fM {vs:List V}{H:Hp}{Q:VK}{E:XK}:jw vs H Q E↔oO vs H Q E:=by
 delta jw
 exact Cj
section
variable  {P:Au}{w:AX}{K:Ab}{mg:Str->Option Ae}{base:Heap}{f T:Addr}{fd:Be}
theorem kh:aP ["web"] ["web"] (aq dS):=⟨rfl,rfl,rfl,by decide +kernel,rfl,by decide +kernel,by decide +kernel⟩
theorem fN:(["arrow"]:List Str).Nodup:=by decide +kernel
theorem ki (F:Fun K "turned_arrows" "turned_arrows" dS f fd)(B:Blt mg)(C:Cst mg):bC P w K mg base CX0 1 f fd ["web"] jw:=by
 refine F.ok kh (λvs H Q E h =>?_) (λcdv A outer s H vs Q E hr h =>?_)
 ·obtain ⟨_,_,_,rfl,_⟩:=fM.mp h
  rfl
 obtain ⟨r,m,ts,rfl,W,tl,q⟩:=fM.mp h
 refine ⟨_,(@ao _ _ _ (@aV _ _ _ _ (@aF _ _ _ _ _ (@aa _ _ _ _ _ (@aJ _ _ _ _ _ _ _ aS (pv 0) ah (λ_ _=>rfl)) (@aa _ _ _ _ _ (aD az rfl B.b_tuple aM (@aa _ _ _ _ _ (aj bZ rfl B.b_sorted cu (@aa _ _ _ _ _ (bO ["arrow"] [none] rfl (@cU _ _ _ _ (@aJ _ _ _ _ _ _ _ aS (pv 0) ah (λ_ _=>rfl))) rfl (λ_ _ _ _ _=>(aQ (i:=0) fN rfl (Or.inl rfl))) (λ_ _ _ _ _=>dN) (λ_ _ _ _ _=>(@aF _ _ _ _ _ (@aa _ _ _ _ _ (@aJ _ _ _ _ _ _ _ (cF (K:=K)) (pv 0) ah (λ_ _=>rfl)) (@aa _ _ _ _ _ (@aJ _ _ _ _ _ _ _ (cF (K:=K)) (pv 0) ah (λ_ _=>rfl)) ag rfl) rfl)))) ag rfl)) ag rfl)) ag rfl) rfl)))),?_⟩
 obtain ⟨t,e1,e2⟩:=W.at'
 refine ⟨_,rfl,r,_,0,_,rfl,rfl,SqT.of e1,rfl,_,rfl,r,_,1,_,rfl,rfl,SqT.of e1,rfl,t,rfl,⟨_,SqT.of e2⟩,bS (xs:=ts.map λu =>.ref u.1) (λi ys H'=>ay H H'/\∃us:List (Addr×List Int),ys=us.map (λu =>.ref u.1)/\Tus H' us/\us.map (·.2)=((ts.map (·.2)).take i).map swp) ⟨ay.refl _,[],rfl,λu hu=>(by cases hu),rfl⟩ (by rw[Ac];exact small (by omega)) (λi ys H' _ k=>SqT.of (k.1 _ _ e2)) ?_ ?_⟩
 ·rintro i x ys H1 hx hy ⟨s1,us,rfl,tu,eu⟩ R1 R0 r1 r0
  obtain ⟨u,hu,rfl⟩:=iE hx
  have mu:=AJ hu
  obtain ⟨x,y,e3,_⟩:=W.rng u mu
  have hu1:=s1 _ _ (W.tup u mu)
  rw[e3] at hu1
  refine aR ⟨_,rfl,u.1,_,1,_,rfl,rfl,SqT.of hu1,rfl,_,rfl,u.1,_,0,_,rfl,rfl,SqT.of hu1,rfl,(by show 2<=Ai;decide),λa ha=>r1 _ _ ⟨s1.trans (af ha _),us++[(a,[y,x])],by rw[Ap];rfl,Tus.iF (tu.same (af ha _)) (u:=(a,[y,x])) ae,?_⟩⟩
  rw[Ap,eu,Bc,AO,hu,Ap]
  show _++[[y,x]]=_++[swp u.2]
  rw[e3];rfl
 ·rintro ys H1 hy ⟨s1,us,rfl,tu,eu⟩ l hl
  rw[Ac,AA (by rw[Ac];exact Ah _)] at eu
  have rg:Rg (m:Int) us:=λu hu=>by
   have:u.2∈us.map (·.2):=AG.mpr ⟨u,hu,rfl⟩
   rw[eu] at this
   obtain ⟨v,hv,ev⟩:=AG.mp this
   obtain ⟨w,hw,rfl⟩:=AG.mp hv
   obtain ⟨x,y,e,x0,x1,y0,y1⟩:=W.rng w hw
   exact ⟨y,x,by rw[<- ev,e];rfl,y0,y1,x0,x1⟩
  have g5:=af hl (.lst (us.map λu =>.ref u.1))
  have el:upd H1 l (.lst (us.map λu =>.ref u.1)) l=some (.lst (us.map λu =>.ref u.1)):=ae
  refine ⟨l,us,rfl,.inl (SqL.of el),λt ht=>⟨SqT.of ((tu.same g5) t ht),?_⟩,λl2 out hl2 pm so =>?_⟩
  ·obtain ⟨x,y,e,_⟩:=rg t ht
   rw[e]
   intro z
   cases z
  refine ⟨l2,_,rfl,.inl ⟨SqL.of ae,λl3 hl3=>⟨(by show 2<=Ai;decide),λb hb =>?_⟩⟩⟩
  have gA:=((g5.trans (af hl2 (.lst (out.map λt =>.ref t.1)))).trans (af hl3 (.tup (out.map λt =>.ref t.1)))).trans (af hb (.tup [.int (m:Int),.ref l3]))
  refine q b out _ (s1.trans gA) ⟨⟨l3,ae,(af hb _) _ _ ae⟩,λu hu=>gA _ _ (tu u (pm.mem_iff.mp hu)),λu hu=>rg u (pm.mem_iff.mp hu)⟩ (by rw[<- eu];exact pm.map _) (gU so)
end
open PySem L2
@[irreducible] def jb (C:Addr):Sp:=λvs H Q E=>∃(r:Addr) (m a b:Int) (ts:List (Addr×List Int)),vs=[.ref r,.int a,.int b]/\Wo H r m ts/\(0<=a/\a<m/\0<=b/\b<m)/\([a,b]∈ts.map (·.2)->∀H',ay H H'->Q (.ref r) H')/\([a,b]∉ts.map (·.2)->200<=ts.length->∀H',ay H H'->E (.ref C) none H')/\([a,b]∉ts.map (·.2)->ts.length<200->∀z us H',ay H H'->Wo H' z m us->(us.map (·.2)).Perm (ts.map (·.2)++[[a,b]])->Q (.ref z) H')
theorem cE {C:Addr}{vs:List V}{H:Hp}{Q:VK}{E:XK}:jb C vs H Q E↔∃(r:Addr) (m a b:Int) (ts:List (Addr×List Int)),vs=[.ref r,.int a,.int b]/\Wo H r m ts/\(0<=a/\a<m/\0<=b/\b<m)/\([a,b]∈ts.map (·.2)->∀H',ay H H'->Q (.ref r) H')/\([a,b]∉ts.map (·.2)->200<=ts.length->∀H',ay H H'->E (.ref C) none H')/\([a,b]∉ts.map (·.2)->ts.length<200->∀z us H',ay H H'->Wo H' z m us->(us.map (·.2)).Perm (ts.map (·.2)++[[a,b]])->Q (.ref z) H'):=by
 delta jb
 exact Cj
section
variable  {P:Au}{w:AX}{K:Ab}{mg:Str->Option Ae}{base:Heap}{f:Addr}{fd:Be}{c_WebError c_BadWeb c_NoStep c_NoText c_TooMany c_NoTie c_NoRing c_NotClear c_NotThree c_BadBoard c_NoRow c_NoBack:Addr}
theorem qp:aP ["web", "one", "other"] ["web", "one", "other"] (aq iV):=⟨rfl,rfl,rfl,by decide +kernel,rfl,by decide +kernel,by decide +kernel⟩
theorem qr (F:Fun K "put_arrow" "put_arrow" iV f fd)(B:Blt mg)(Z:Exs K mg c_WebError c_BadWeb c_NoStep c_NoText c_TooMany c_NoTie c_NoRing c_NotClear c_NotThree c_BadBoard c_NoRow c_NoBack)(xChk:fK P w K mg base 1 "checked_oneway" ["many", "arrows"] (lV c_TooMany))(C:Cst mg):bC P w K mg base (CX2 P w) 2 f fd ["web", "one", "other"] (jb c_TooMany):=by
 refine F.vi qp (λvs H Q E h =>?_) (λcdv A outer s H vs Q E hr h =>?_)
 ·obtain ⟨_,_,_,_,_,rfl,_⟩:=cE.mp h
  rfl
 obtain ⟨r,m,a,b,ts,rfl,W,⟨a0,a1,b0,b1⟩,q1,q2,q3⟩:=cE.mp h
 refine ⟨_,(@ai _ _ _ _ _ (@bz _ _ _ _ _ _ _ _ (aE (mM (hu8 hr)) (@aF _ _ _ _ _ (@aa _ _ _ _ _ (pv 1) (@aa _ _ _ _ _ (pv 2) ag rfl) rfl)) (@aJ _ _ _ _ _ _ _ aS (pv 0) ah (λ_ _=>rfl)) rfl) (@ao _ _ _ (@aV _ _ _ _ (pv 0))) aL)
  (@ao _ _ _ (@aV _ _ _ _ (kg oo xChk hr (by decide) rfl (@aa _ _ _ _ _ (@aJ _ _ _ _ _ _ _ aS (pv 0) ah (λ_ _=>rfl)) (@aa _ _ _ _ _ (@ba _ _ _ _ _ _ _ _ oa (@aJ _ _ _ _ _ _ _ aS (pv 0) ah (λ_ _=>rfl)) (@aF _ _ _ _ _ (@aa _ _ _ _ _ (@aF _ _ _ _ _ (@aa _ _ _ _ _ (pv 1) (@aa _ _ _ _ _ (pv 2) ag rfl) rfl)) ag rfl))) ag rfl) rfl))))),?_⟩
 obtain ⟨t,e1,e2⟩:=W.ow.at'
 refine ⟨_,rfl,_,rfl,(by show 2<=Ai;decide),λp hp =>?_⟩
 have s1:=af hp (.tup [.int a,.int b])
 have ep:upd H p (.tup [.int a,.int b]) p=some (.tup ([a,b].map V.int)):=ae
 generalize upd H p (.tup [.int a,.int b])=H1 at s1 ep
 have W1:=W.same s1
 refine ⟨_,rfl,r,_,1,_,rfl,rfl,SqT.of (s1 _ _ e1),rfl,t,p,ts,[a,b],rfl,rfl,s1 _ _ e2,W1.ow.tup,ep,_,rfl,?_⟩
 by_cases c:[a,b]∈ts.map (·.2)
 ·rw[decide_eq_true c]
  exact aR ⟨_,rfl,q1 c _ s1⟩
 rw[decide_eq_false c]
 refine aH ⟨_,rfl,r,_,0,_,rfl,rfl,SqT.of (s1 _ _ e1),rfl,_,rfl,r,_,1,_,rfl,rfl,SqT.of (s1 _ _ e1),rfl,_,rfl,_,rfl,(by show 2<=Ai;decide),λp2 hp2=>⟨(by show 1<=Ai;decide),λp3 hp3 =>?_⟩⟩
 have g2:=af hp2 (.tup [.int a,.int b])
 have ep2:upd H1 p2 (.tup [.int a,.int b]) p2=some (.tup ([a,b].map V.int)):=ae
 generalize upd H1 p2 (.tup [.int a,.int b])=H2 at g2 ep2 hp3
 have g3:=af hp3 (.tup [.ref p2])
 have ep3:upd H2 p3 (.tup [.ref p2]) p3=some (.tup [.ref p2]):=ae
 have ep2:=g3 _ _ ep2
 have s3:=s1.trans (g2.trans g3)
 generalize upd H2 p3 (.tup [.ref p2])=H3 at g3 ep3 ep2 s3
 refine ⟨t,p3,_,_,rfl,rfl,s3 _ _ e2,ep3,?_,λz H4 s4 ez =>?_⟩
 ·rw[Ac]
  have:=W.le
  exact small (by show _+1<=_;omega)
 have W4:=W.same (s3.trans s4)
 have tu:Tus H4 (ts++[(p2,[a,b])]):=Tus.iF W4.ow.tup (s4 _ _ ep2)
 have len:(ts++[(p2,[a,b])]).length=ts.length+1:=by rw[Am];rfl
 have em:(ts++[(p2,[a,b])]).map (·.2)=ts.map (·.2)++[[a,b]]:=Ap
 refine eB.mpr ⟨z,m,ts++[(p2,[a,b])],rfl,.inr (by rw[ez,Ap];rfl),tu,λu hu =>?_,?_,by have:=W.le;omega,λl H5 s5=>q2 c (by omega) H5 (s3.trans (s4.trans s5)),λl z' us H5 s5 w pm=>q3 c (by omega) z' us H5 (s3.trans (s4.trans s5)) w (by rw[<- em];exact pm)⟩
 ·rcases Ax.mp hu with y | y
  ·exact W.ow.rng u y
  ·rw[AB] at y;subst y;exact ⟨a,b,rfl,a0,a1,b0,b1⟩
 ·rw[em]
  refine E1.mpr ⟨W.nd,CV.mpr ⟨B9,DX⟩,λx hx y hy e=>c ?_⟩
  rw[<- AB.mp hy, <- e];exact hx
end
@[irreducible] def fO (C:Addr):Sp:=λvs H Q E=>∃(r:Addr) (m a b:Int) (ts:List (Addr×List Int)),vs=[.ref r,.int a,.int b]/\Wo H r m ts/\([a,b]∉ts.map (·.2)->∀H',ay H H'->E (.ref C) none H')/\([a,b]∈ts.map (·.2)->∀z us H',ay H H'->Ow H' z m us->us.map (·.2)=(ts.map (·.2)).filter (λp => !decide (p=[a,b]))->Q (.ref z) H')
theorem cn {C:Addr}{vs:List V}{H:Hp}{Q:VK}{E:XK}:fO C vs H Q E↔∃(r:Addr) (m a b:Int) (ts:List (Addr×List Int)),vs=[.ref r,.int a,.int b]/\Wo H r m ts/\([a,b]∉ts.map (·.2)->∀H',ay H H'->E (.ref C) none H')/\([a,b]∈ts.map (·.2)->∀z us H',ay H H'->Ow H' z m us->us.map (·.2)=(ts.map (·.2)).filter (λp => !decide (p=[a,b]))->Q (.ref z) H'):=by
 delta fO
 exact Cj
section
variable  {P:Au}{w:AX}{K:Ab}{mg:Str->Option Ae}{base:Heap}{f:Addr}{fd:Be}{c_WebError c_BadWeb c_NoStep c_NoText c_TooMany c_NoTie c_NoRing c_NotClear c_NotThree c_BadBoard c_NoRow c_NoBack:Addr}
theorem oP:aP ["web", "one", "other"] ["web", "one", "other"] (aq gM):=⟨rfl,rfl,rfl,by decide +kernel,rfl,by decide +kernel,by decide +kernel⟩
theorem dh:(["arrow", "one", "other"]:List Str).Nodup:=by decide +kernel
theorem oQ (F:Fun K "less_arrow" "less_arrow" gM f fd)(B:Blt mg)(Z:Exs K mg c_WebError c_BadWeb c_NoStep c_NoText c_TooMany c_NoTie c_NoRing c_NotClear c_NotThree c_BadBoard c_NoRow c_NoBack)(C:Cst mg):bC P w K mg base (CX2 P w) 1 f fd ["web", "one", "other"] (fO c_NoTie):=by
 refine F.vi oP (λvs H Q E h =>?_) (λcdv A outer s H vs Q E hr h =>?_)
 ·obtain ⟨_,_,_,_,_,rfl,_⟩:=cn.mp h
  rfl
 obtain ⟨r,m,a,b,ts,rfl,W,q1,q2⟩:=cn.mp h
 refine ⟨_,(@ai _ _ _ _ _ (@bz _ _ _ _ _ _ _ _ (aE (qf (hu8 hr)) (@aF _ _ _ _ _ (@aa _ _ _ _ _ (pv 1) (@aa _ _ _ _ _ (pv 2) ag rfl) rfl)) (@aJ _ _ _ _ _ _ _ aS (pv 0) ah (λ_ _=>rfl)) rfl) (@ao _ _ _ (oh (x := "NoTie") xT ⟨Z.xe_NoTie,Z.x_NoTie⟩ hr.hd rfl (@aa _ _ _ _ _ gF ag rfl))) aL)
  (@ao _ _ _ (@aV _ _ _ _ (@aF _ _ _ _ _ (@aa _ _ _ _ _ (@aJ _ _ _ _ _ _ _ aS (pv 0) ah (λ_ _=>rfl)) (@aa _ _ _ _ _ (aD az rfl B.b_tuple aM (@aa _ _ _ _ _ (bO ["arrow", "one", "other"] [none,some 1,some 2] rfl (@cU _ _ _ _ (@aJ _ _ _ _ _ _ _ aS (pv 0) ah (λ_ _=>rfl))) rfl (λ_ _ _ _ _=>(aQ (i:=0) dh rfl (Or.inl rfl))) (λ_ _ _ _ _=>(eQ (aE (og (K:=K) (hu8 hr)) (pv 0) (@aF _ _ _ _ _ (@aa _ _ _ _ _ (pv 1) (@aa _ _ _ _ _ (pv 2) ag rfl) rfl)) (aN _)))) (λ_ _ _ _ _=>(pv 0))) ag rfl)) ag rfl) rfl))))),?_⟩
 obtain ⟨t,e1,e2⟩:=W.ow.at'
 have le:=W.le
 refine ⟨_,rfl,_,rfl,(by show 2<=Ai;decide),λp hp =>?_⟩
 have s1:=af hp (.tup [.int a,.int b])
 have ep:upd H p (.tup [.int a,.int b]) p=some (.tup ([a,b].map V.int)):=ae
 generalize upd H p (.tup [.int a,.int b])=H1 at s1 ep
 have W1:=W.same s1
 refine ⟨_,rfl,r,_,1,_,rfl,rfl,SqT.of (s1 _ _ e1),rfl,t,p,ts,[a,b],rfl,rfl,s1 _ _ e2,W1.ow.tup,ep,_,rfl,?_⟩
 by_cases c:[a,b]∈ts.map (·.2)
 rotate_left
 ·rw[decide_eq_false c]
  exact aR ⟨(by show 1<=Ai;decide),q1 c _ s1⟩
 rw[decide_eq_true c]
 refine aH ⟨_,rfl,r,_,0,_,rfl,rfl,SqT.of (s1 _ _ e1),rfl,_,rfl,r,_,1,_,rfl,rfl,SqT.of (s1 _ _ e1),rfl,t,rfl,⟨_,SqT.of (s1 _ _ e2)⟩,bS (xs:=ts.map λu =>.ref u.1) (λi ys H'=>ay H1 H'/\ys=((ts.take i).filter λu => !decide (u.2=[a,b])).map λu =>.ref u.1) ⟨ay.refl _,rfl⟩ (by rw[Ac];exact small (by omega)) (λi ys H' _ k=>SqT.of (k.1 _ _ (s1 _ _ e2))) ?_ ?_⟩
 ·rintro i x ys G hx hy ⟨sG,rfl⟩ R1 R0 r1 r0
  obtain ⟨u,hu,rfl⟩:=iE hx
  have mu:=AJ hu
  have hu1:=sG _ _ (W1.ow.tup u mu)
  have tk:∀c:Bool,(!decide (u.2=[a,b]))=c->(ts.take (i+1)).filter (λu => !decide (u.2=[a,b]))=(ts.take i).filter (λu => !decide (u.2=[a,b]))++(if c=true then [u] else []):=λc ec=>by
   rw[Bc,hu,Cm]
   congr 1
   cases c with
   | true=>rw[if_pos rfl];exact B2 ec
   | false=>rw[if_neg Ao];exact B3 (by rw[ec];exact Ao)
  refine ⟨_,rfl,_,rfl,_,rfl,(by show 2<=Ai;decide),λp2 hp2 =>?_⟩
  have g2:=af hp2 (.tup [.int a,.int b])
  have ep2:upd G p2 (.tup [.int a,.int b]) p2=some (.tup ([a,b].map V.int)):=ae
  generalize upd G p2 (.tup [.int a,.int b])=G2 at g2 ep2
  refine ⟨u.1,p2,u.2,[a,b],rfl,rfl,SqT.of (g2 _ _ hu1),SqT.of ep2,_,rfl,?_⟩
  by_cases d:u.2=[a,b]
  ·rw[decide_eq_true d]
   refine aH (r0 _ ⟨sG.trans g2,?_⟩)
   rw[tk false (by rw[decide_eq_true d];rfl)]
   exact congrArg _ (AZ _).symm
  ·rw[decide_eq_false d]
   refine aR ⟨_,rfl,r1 _ _ ⟨sG.trans g2,?_⟩⟩
   rw[tk true (by rw[decide_eq_false d];rfl),Ap];rfl
 ·rintro ys G hy ⟨sG,rfl⟩ l hl
  rw[Ac,AA (Ah _)]
  refine ⟨l,_,rfl,.inl ⟨SqL.of ae,λt2 ht2=>⟨(by show 2<=Ai;decide),λb' hb =>?_⟩⟩⟩
  have gA:=((af hl (.lst ((ts.filter λu => !decide (u.2=[a,b])).map λu =>.ref u.1))).trans (af ht2 (.tup ((ts.filter λu => !decide (u.2=[a,b])).map λu =>.ref u.1)))).trans (af hb (.tup [.int m,.ref t2]))
  refine q2 c b' (ts.filter λu => !decide (u.2=[a,b])) _ (s1.trans (sG.trans gA)) ⟨⟨t2,ae,(af hb _) _ _ ae⟩,λu hu=>gA _ _ (sG _ _ (W1.ow.tup u (AS.mp hu).1)),λu hu=>W.ow.rng u (AS.mp hu).1⟩ ?_
  rw[FI];rfl
end
open PySem L2
@[irreducible] def fP (C:Addr):Sp:=λvs H Q E=>∃(r:Addr) (m:Int) (ts:List (Addr×List Int)),vs=[.ref r]/\Ow H r m ts/\ts.length<=200/\∀F:List (List Int),F.Nodup->(∀t,t∈F↔t∈ts.map (·.2)\/t∈(ts.map (·.2)).map swp)->(200<F.length->∀H',ay H H'->E (.ref C) none H')/\(F.length<=200->∀z us H',ay H H'->Wo H' z m us->(us.map (·.2)).Perm F->Q (.ref z) H')
theorem dz {C:Addr}{vs:List V}{H:Hp}{Q:VK}{E:XK}:fP C vs H Q E↔∃(r:Addr) (m:Int) (ts:List (Addr×List Int)),vs=[.ref r]/\Ow H r m ts/\ts.length<=200/\∀F:List (List Int),F.Nodup->(∀t,t∈F↔t∈ts.map (·.2)\/t∈(ts.map (·.2)).map swp)->(200<F.length->∀H',ay H H'->E (.ref C) none H')/\(F.length<=200->∀z us H',ay H H'->Wo H' z m us->(us.map (·.2)).Perm F->Q (.ref z) H'):=by
 delta fP
 exact Cj
section
variable  {P:Au}{w:AX}{K:Ab}{mg:Str->Option Ae}{base:Heap}{f:Addr}{fd:Be}{c_WebError c_BadWeb c_NoStep c_NoText c_TooMany c_NoTie c_NoRing c_NotClear c_NotThree c_BadBoard c_NoRow c_NoBack:Addr}
theorem kj:aP ["web", "about"] ["web"] (aq iW):=⟨rfl,rfl,rfl,by decide +kernel,rfl,by decide +kernel,by decide +kernel⟩
theorem kq:(["tie"]:List Str).Nodup:=by decide +kernel
theorem qu (F:Fun K "both_ways" "both_ways" iW f fd)(B:Blt mg)(Z:Exs K mg c_WebError c_BadWeb c_NoStep c_NoText c_TooMany c_NoTie c_NoRing c_NotClear c_NotThree c_BadBoard c_NoRow c_NoBack)(xChk:fK P w K mg base 1 "checked_oneway" ["many", "arrows"] (lV c_TooMany))(C:Cst mg):bC P w K mg base (CX2 P w) 2 f fd ["web"] (fP c_TooMany):=by
 refine F.vi kj (λvs H Q E h =>?_) (λcdv A outer s H vs Q E hr h =>?_)
 ·obtain ⟨_,_,_,rfl,_⟩:=dz.mp h
  rfl
 obtain ⟨r,m,ts,rfl,W,tl,q⟩:=dz.mp h
 refine ⟨_,(@ai _ _ _ _ _ (eS (i:=1) ["tie"] [none] rfl kj.nd rfl rfl (@cU _ _ _ _ (@aJ _ _ _ _ _ _ _ aS (pv 0) ah (λ_ _=>rfl))) rfl (λ_ _ _ _ _=>(aQ (i:=0) kq rfl (Or.inl rfl))) (λ_ _ _ _ _=>dN) (λ_ _ _ _ _=>(@aF _ _ _ _ _ (@aa _ _ _ _ _ (@aJ _ _ _ _ _ _ _ (cF (K:=K)) (pv 0) ah (λ_ _=>rfl)) (@aa _ _ _ _ _ (@aJ _ _ _ _ _ _ _ (cF (K:=K)) (pv 0) ah (λ_ _=>rfl)) ag rfl) rfl))))
  (@ao _ _ _ (@aV _ _ _ _ (kg oo xChk hr (by decide) rfl (@aa _ _ _ _ _ (@aJ _ _ _ _ _ _ _ aS (pv 0) ah (λ_ _=>rfl)) (@aa _ _ _ _ _ (aj (fF (w:=w) rfl hr.hd) rfl B.b_sorted cu (@aa _ _ _ _ _ (aD (jU (w:=w) rfl hr.hd hr.units) rfl B.b_set vy (@aa _ _ _ _ _ (@ba _ _ _ _ _ _ _ _ mz (aD eN rfl B.b_list dG (@aa _ _ _ _ _ (@aJ _ _ _ _ _ _ _ aS (pv 0) ah (λ_ _=>rfl)) ag rfl)) (pv 1)) ag rfl)) ag rfl)) ag rfl) rfl))))),?_⟩
 obtain ⟨t,e1,e2⟩:=W.at'
 refine ⟨_,rfl,r,_,1,_,rfl,rfl,SqT.of e1,rfl,t,rfl,⟨_,SqT.of e2⟩,bS (xs:=ts.map λu =>.ref u.1) (λi ys H'=>ay H H'/\∃us:List (Addr×List Int),ys=us.map (λu =>.ref u.1)/\Tus H' us/\us.map (·.2)=((ts.map (·.2)).take i).map swp) ⟨ay.refl _,[],rfl,λu hu=>(by cases hu),rfl⟩ (by rw[Ac];exact small (by omega)) (λi ys H' _ k=>SqT.of (k.1 _ _ e2)) ?_ ?_⟩
 ·rintro i x ys H1 hx hy ⟨s1,us,rfl,tu,eu⟩ R1 R0 r1 r0
  obtain ⟨u,hu,rfl⟩:=iE hx
  have mu:=AJ hu
  obtain ⟨x,y,e3,_⟩:=W.rng u mu
  have hu1:=s1 _ _ (W.tup u mu)
  rw[e3] at hu1
  refine aR ⟨_,rfl,u.1,_,1,_,rfl,rfl,SqT.of hu1,rfl,_,rfl,u.1,_,0,_,rfl,rfl,SqT.of hu1,rfl,(by show 2<=Ai;decide),λa ha=>r1 _ _ ⟨s1.trans (af ha _),us++[(a,[y,x])],by rw[Ap];rfl,Tus.iF (tu.same (af ha _)) (u:=(a,[y,x])) ae,?_⟩⟩
  rw[Ap,eu,Bc,AO,hu,Ap]
  show _++[[y,x]]=_++[swp u.2]
  rw[e3];rfl
 rintro ys H1 hy ⟨s1,us,rfl,tu,eu⟩ la hla
 rw[Ac,AA (by rw[Ac];exact Ah _)] at eu
 have lu:us.length=ts.length:=by have:=congrArg List.length eu;rwa [Ac,Ac,Ac] at this
 have g2:=af hla (.lst (us.map λu =>.ref u.1))
 have ela:upd H1 la (.lst (us.map λu =>.ref u.1)) la=some (.lst (us.map λu =>.ref u.1)):=ae
 have tu:=tu.same g2
 have s2:=s1.trans g2
 generalize upd H1 la (.lst (us.map λu =>.ref u.1))=H2 at g2 ela tu s2
 have W2:=W.same s2
 refine ⟨_,rfl,r,_,0,_,rfl,rfl,SqT.of (s2 _ _ e1),rfl,_,rfl,r,_,1,_,rfl,rfl,SqT.of (s2 _ _ e1),rfl,t,_,rfl,.inr (SqT.of (s2 _ _ e2)),λl1 hl1 =>?_⟩
 have g3:=af hl1 (.lst (ts.map λu =>.ref u.1))
 have el1:upd H2 l1 (.lst (ts.map λu =>.ref u.1)) l1=some (.lst (ts.map λu =>.ref u.1)):=ae
 have ela:=g3 _ _ ela
 have s3:=s2.trans g3
 have tu:=tu.same g3
 generalize upd H2 l1 (.lst (ts.map λu =>.ref u.1))=H3 at g3 el1 ela s3 tu
 refine ⟨_,rfl,l1,la,_,_,rfl,rfl,SqL.of el1,SqL.of ela,(by rw[Ac,Ac];exact small (by omega)),λl2 hl2 =>?_⟩
 have eap:(ts.map λu=>V.ref u.1)++(us.map λu=>V.ref u.1)=(ts++us).map λu=>V.ref u.1:=Ap.symm
 rw[eap]
 have g4:=af hl2 (.lst ((ts++us).map λu=>V.ref u.1))
 have el2:upd H3 l2 (.lst ((ts++us).map λu=>V.ref u.1)) l2=some (.lst ((ts++us).map λu=>V.ref u.1)):=ae
 have s4:=s3.trans g4
 have tall:Tus H3 (ts++us):=λu hu=>by
  rcases Ax.mp hu with z | z
  ·exact s3 _ _ (W.tup u z)
  ·exact tu u z
 have tall:=tall.same g4
 generalize upd H3 l2 (.lst ((ts++us).map λu=>V.ref u.1))=H4 at g4 el2 s4 tall
 have rng:∀u∈ts++us,∃x y,u.2=[x,y]/\0<=x/\x<m/\0<=y/\y<m:=λu hu=>by
  rcases Ax.mp hu with z | z
  ·exact W.rng u z
  ·have:u.2∈us.map (·.2):=BA z
   rw[eu] at this
   obtain ⟨v,hv,ev⟩:=AG.mp this
   obtain ⟨w',hw,rfl⟩:=AG.mp hv
   obtain ⟨x,y,e,x0,x1,y0,y1⟩:=W.rng w' hw
   exact ⟨y,x,by rw[<- ev,e];rfl,y0,y1,x0,x1⟩
 have lall:(ts++us).length<=400:=by rw[Am];omega
 refine ⟨l2,ts++us,rfl,.inl (SqL.of el2),λu hu=>SqT.of (tall u hu),by omega,λsa ds hsa sub nd cov le =>?_⟩
 have g5:=af hsa (fE w sa (ds.map λt =>.ref t.1))
 have esa:upd H4 sa (fE w sa (ds.map λt =>.ref t.1)) sa=some (fE w sa (ds.map λt =>.ref t.1)):=ae
 have s5:=s4.trans g5
 have tall:=tall.same g5
 generalize upd H4 sa (fE w sa (ds.map λt =>.ref t.1))=H5 at g5 esa s5 tall
 refine ⟨sa,ds,rfl,esa,λu hu=>⟨SqT.of (tall u (sub u hu)),?_⟩,by omega,λl3 out hl3 pm so =>?_⟩
 ·obtain ⟨x,y,e,_⟩:=rng u (sub u hu)
  rw[e];intro z;cases z
 have g6:=af hl3 (.lst (out.map λt =>.ref t.1))
 have s6:=s5.trans g6
 have nd':(out.map (·.2)).Nodup:=((pm.map (·.2)).nodup_iff).mpr nd
 obtain ⟨q1,q2⟩:=q (out.map (·.2)) nd' λp=>by
  constructor
  ·intro hp
   obtain ⟨u,hu,rfl⟩:=AG.mp hp
   rcases Ax.mp (sub u (pm.mem_iff.mp hu)) with z | z
   ·exact .inl (BA z)
   ·right;rw[<- eu];exact BA z
  ·intro hp
   have:∃u∈ts++us,u.2=p:=by
    rcases hp with z | z
    ·obtain ⟨u,hu,e⟩:=AG.mp z
     exact ⟨u,Cp _ hu,e⟩
    ·rw[<- eu] at z
     obtain ⟨u,hu,e⟩:=AG.mp z
     exact ⟨u,AY _ hu,e⟩
   obtain ⟨u,hu,rfl⟩:=this
   exact ((pm.map (·.2)).mem_iff).mpr (cov u hu)
 rw[Ac] at q1 q2
 exact eB.mpr ⟨l3,m,out,rfl,.inl ae,λu hu=>g6 _ _ (tall u (sub u (pm.mem_iff.mp hu))),λu hu=>rng u (sub u (pm.mem_iff.mp hu)),nd',by rw[pm.length_eq];omega,λc H' s=>q1 c H' (s6.trans s),λc z vs' H' s wo pm'=>q2 c z vs' H' (s6.trans s) wo pm'⟩
end
@[irreducible] def dB (K:Ab):Sp:=λvs H Q _=>∃(x:V) (t:Ae) (b1 b2:Bool),vs=[x]/\cw K H x t/\PySem.W.kitOne K t (.type "int")=some b1/\PySem.W.kitOne K t (.type "bool")=some b2/\Q (.bl (b1 && !b2)) H
theorem bq {K:Ab}{vs:List V}{H:Hp}{Q:VK}{E:XK}:dB K vs H Q E↔∃(x:V) (t:Ae) (b1 b2:Bool),vs=[x]/\cw K H x t/\PySem.W.kitOne K t (.type "int")=some b1/\PySem.W.kitOne K t (.type "bool")=some b2/\Q (.bl (b1 && !b2)) H:=by
 delta dB
 exact Cj
section
variable  {P:Au}{w:AX}{K:Ab}{mg:Str->Option Ae}{base:Heap}{f T:Addr}{fd:Be}
theorem vE:aP ["found"] ["found"] (aq mV):=⟨rfl,rfl,rfl,by decide +kernel,rfl,by decide +kernel,by decide +kernel⟩
theorem vF (F:Fun K "_law_whole" "_law_whole" mV f fd)(B:Blt mg)(C:Cst mg):bC P w K mg base CX0 1 f fd ["found"] (dB K):=by
 refine F.ok vE (λvs H Q E h =>?_) (λcdv A outer s H vs Q E hr h =>?_)
 ·obtain ⟨_,_,_,_,rfl,_⟩:=bq.mp h
  rfl
 obtain ⟨x,t,b1,b2,rfl,ty,k1,k2,q⟩:=bq.mp h
 refine ⟨_,(@ao _ _ _ (@aV _ _ _ _ (gG (aj bV rfl B.b_isinstance av (@aa _ _ _ _ _ (pv 0) (@aa _ _ _ _ _ (bI (v :=.ty "int") rfl B.b_int gN rfl) ag rfl) rfl)) (fw (t5 (aj bV rfl B.b_isinstance av (@aa _ _ _ _ _ (pv 0) (@aa _ _ _ _ _ (bI (v :=.ty "bool") rfl B.b_bool rj rfl) ag rfl) rfl))))))),?_⟩
 refine ⟨_,rfl,x, "int",t,b1,rfl,ty,k1,_,rfl,?_⟩
 cases b1 with
 | false=>exact aH q
 | true=>exact aR ⟨_,rfl,x, "bool",t,b2,rfl,ty,k2,_,rfl,q⟩
end
abbrev oR:Sp:=λvs H Q _=>∃(p:Addr) (m:Nat),vs=[.ref p,.int (m:Nat)]/\Pt 1 H p/\m<=40/\∀(b:Addr) (P:List Int) (H':Hp),Bu 1 p H H'->H' b=some (.tup (P.map V.int))->P.length<=m->Q (.ref b) H'
@[irreducible] def jx:Sp:=oR
theorem fQ {vs:List V}{H:Hp}{Q:VK}{E:XK}:jx vs H Q E↔oR vs H Q E:=by
 delta jx
 exact Cj
section
variable  {P:Au}{w:AX}{K:Ab}{mg:Str->Option Ae}{base:Heap}{f T:Addr}{fd:Be}
theorem gE:aP ["pot", "many", "share"] ["pot", "many"] (aq fc):=⟨rfl,rfl,rfl,by decide +kernel,rfl,by decide +kernel,by decide +kernel⟩
theorem cQ:(["place", "pot", "share"]:List Str).Nodup:=by decide +kernel
theorem kI (F:Fun K "_law_some_places" "_law_some_places" fc f fd)(B:Blt mg)(cLTake:Cal P w K mg base 1 "_law_take" ["pot", "many"] gQ)(C:Cst mg):bC P w K mg base CX0 2 f fd ["pot", "many"] jx:=by
 refine F.ok gE (λvs H Q E h =>?_) (λcdv A outer s H vs Q E hr h =>?_)
 ·obtain ⟨_,_,rfl,_⟩:=fQ.mp h
  rfl
 obtain ⟨p,m,rfl,hp,m40,q⟩:=fQ.mp h
 refine ⟨_,(@ai _ _ _ _ _ (@aX _ _ 2 _ _ _ _ gE.nd rfl (Or.inr rfl) (@ba _ _ _ _ _ _ _ _ eL ah (aG cLTake hr (by decide) rfl (@aa _ _ _ _ _ (pv 0) (@aa _ _ _ _ _ ah ag rfl) rfl))) rfl (by first | exact .inl rfl | exact .inr rfl | assumption))
  (@ao _ _ _ (@aV _ _ _ _ (aD az rfl B.b_tuple aM (@aa _ _ _ _ _ (bO ["place", "pot", "share"] [none,some 0,some 2] rfl (bR rfl B.b_range (@aa _ _ _ _ _ (pv 1) ag rfl)) rfl (λ_ _ _ _ _=>(aQ (i:=0) cQ rfl (Or.inl rfl))) (λ_ _ _ _ _=>(eQ (aE nq (aG cLTake hr (by decide) rfl (@aa _ _ _ _ _ (pv 1) (@aa _ _ _ _ _ ah ag rfl) rfl)) (pv 2) (aN _)))) (λ_ _ _ _ _=>(pv 0))) ag rfl))))),?_⟩
 refine ⟨_,rfl,aB.mpr ⟨p,3,rfl,hp,by decide,by decide,λsh H1 s0 s1 u1 =>?_⟩⟩
 refine ⟨_,_,rfl,rfl,?_⟩
 refine ⟨_,rfl,(m:Int),rfl,by omega,by omega,?_⟩
 rw[Bb]
 refine cK (λi ys H'=>Bu 1 p H H'/\∃P:List Int,ys=P.map V.int/\P.length<=i) ⟨u1,[],rfl,Ah _⟩ (small (by omega)) ?_ ?_
 ·rintro i ys H2 hi hy ⟨b2,P,rfl,lP⟩ R1 R0 r1 r0
  refine ⟨_,rfl,aB.mpr ⟨p,4,rfl,b2.pot,by decide,by decide,λd H3 d0 d1 u3 =>?_⟩⟩
  refine ⟨_,rfl,_,_,rfl,rfl,_,rfl,uu (λz =>?_) λz =>?_⟩
  ·exact ⟨_,rfl,r1 _ _ ⟨b2.trans u3,P++[0+(i:Int)],by rw[Ap];rfl,by rw[Am];show _+1<=_;omega⟩⟩
  ·exact r0 _ ⟨b2.trans u3,P,rfl,by omega⟩
 ·rintro ys H2 hy ⟨b2,P,rfl,lP⟩ l hl
  refine ⟨l,_,rfl,.inl ⟨SqL.of ae,λt ht =>?_⟩⟩
  exact q t P _ (b2.same ((af hl _).trans (af ht _))) ae lP
end
open PySem L2
theorem xy {X:Cx}(hu:X.A.units+8<cLine):OpR X (Bo .In) (λx y H Q=>∃(p b:Addr) (ts:List (Addr×List Int)) (m:List Int),x = .ref b/\y = .ref p/\H p=some (.lst (ts.map λt =>.ref t.1))/\(∀t∈ts,H t.1=some (.tup (t.2.map V.int)))/\H b=some (.tup (m.map V.int))/\Q (.bl (decide (m∈ts.map (·.2)))) H):=by
 intro pins s σ H x y v u Q I rx ry h
 obtain ⟨p,b,ts,m,rfl,rfl,hp,ht,hb,q⟩:=h
 cases rx
 cases ry
 have ht':∀t∈ts,SqT X.K H t.1 (t.2.map V.int):=λt hm=>SqT.of (ht t hm)
 obtain ⟨its,r,pl,hz⟩:=I.list (SqL.of (K:=X.K) hp)
 have ei:=cA r
 refine SeqAt.in_listAt (bW ts m) pl.isList (λy hy =>?_) ⟨.bl _,H,I,rfl,?_⟩
 ·have hy':y∈its:=by simpa using hy
  rw[ei] at hy'
  obtain ⟨t,hm,rfl⟩:=AG.mp hy'
  rw[cC I ht' hm]
  exact I.eqT (by show X.A.units+1<cLine;omega) (ht' t hm) (SqT.of hb)
 ·rw[show its.toArray.any (bW ts m)=its.any (bW ts m) by simp,ei,ij I ht' ts (λt h=>h)]
  exact q
theorem lX (us:List (Addr×List Int)):(us.map λu=>(u.1,V.int (u.2.getD 0 0),V.int (u.2.getD 1 0))).map (λt=>V.ref t.1)=us.map λu=>V.ref u.1:=by rw[FH];rfl
theorem ng {us:List (Addr×List Int)}{i:Nat}{t:Addr×V×V}(h:(us.map λu=>(u.1,V.int (u.2.getD 0 0),V.int (u.2.getD 1 0)))[i]? = some t):∃u,us[i]? = some u/\t=(u.1,V.int (u.2.getD 0 0),V.int (u.2.getD 1 0)):=by
 rw[AO] at h
 cases e:us[i]? with
 | none=>rw[e] at h;cases h
 | some u=>rw[e] at h;exact ⟨u,rfl,(A1 h).symm⟩
theorem rE {K:Ab}{H:Hp}{b t:Addr}{m:Int}{ts:List (Addr×List Int)}(W:Ow H b m ts)(e:H t=some (.tup (ts.map λu =>.ref u.1))):SqT K H t ((ts.map λu=>(u.1,V.int (u.2.getD 0 0),V.int (u.2.getD 1 0))).map λt =>.ref t.1)/\∀t∈ts.map λu=>(u.1,V.int (u.2.getD 0 0),V.int (u.2.getD 1 0)),SqT K H t.1 [t.2.1,t.2.2]:=by
 rw[lX]
 refine ⟨SqT.of e,λt ht =>?_⟩
 obtain ⟨u,hu,rfl⟩:=AG.mp ht
 obtain ⟨x,y,e,_⟩:=W.rng u hu
 have:=W.tup u hu
 rw[e] at this
 have e0:(u.1,V.int (u.2.getD 0 0),V.int (u.2.getD 1 0))=(u.1,V.int x,V.int y):=by rw[e];rfl
 rw[e0]
 exact SqT.of this
abbrev oS:Sp:=λvs H Q _=>∃(r q:Addr) (m:Nat) (ts:List (Addr×List Int)) (P:List Int),vs=[.ref r,.ref q]/\Ow H r (m:Int) ts/\ts.length<=250/\H q=some (.tup (P.map V.int))/\∀(b:Addr) (us:List (Addr×List Int)) (H':Hp),ay H H'->Ow H' b (m:Int) us->us.map (·.2)=(ts.map (·.2)).filter (iY P)->Q (.ref b) H'
@[irreducible] def jy:Sp:=oS
theorem fR {vs:List V}{H:Hp}{Q:VK}{E:XK}:jy vs H Q E↔oS vs H Q E:=by
 delta jy
 exact Cj
section
variable  {P:Au}{w:AX}{K:Ab}{mg:Str->Option Ae}{base:Heap}{f T:Addr}{fd:Be}
theorem xA:aP ["web", "places"] ["web", "places"] (aq qj):=⟨rfl,rfl,rfl,by decide +kernel,rfl,by decide +kernel,by decide +kernel⟩
theorem gZ:(["a", "b", "places"]:List Str).Nodup:=by decide +kernel
theorem xB (F:Fun K "_law_less" "_law_less" qj f fd)(B:Blt mg)(C:Cst mg):bC P w K mg base CX0 1 f fd ["web", "places"] jy:=by
 refine F.ok xA (λvs H Q E h =>?_) (λcdv A outer s H vs Q E hr h =>?_)
 ·obtain ⟨_,_,_,_,_,rfl,_⟩:=fR.mp h
  rfl
 obtain ⟨r,q,m,ts,P,rfl,W,tl,eq,k⟩:=fR.mp h
 refine ⟨_,(@ao _ _ _ (@aV _ _ _ _ (@aF _ _ _ _ _ (@aa _ _ _ _ _ (@aJ _ _ _ _ _ _ _ aS (pv 0) ah (λ_ _=>rfl)) (@aa _ _ _ _ _ (aD az rfl B.b_tuple aM (@aa _ _ _ _ _ (bO ["a", "b", "places"] [none,none,some 1] rfl (@cU _ _ _ _ (@aJ _ _ _ _ _ _ _ aS (pv 0) ah (λ_ _=>rfl))) rfl (λ_ _ _ _ _=>(jO (K:=K) (i:=0) (j:=1) gZ rfl rfl (Or.inl rfl) (Or.inl rfl))) (λ_ _ _ _ _=>(eQ (PW.pt (iJ (aE (fW (K:=K)) (pv 0) (pv 2) rfl) (fV (aE (fW (K:=K)) (pv 1) (pv 2) rfl)))))) (λ_ _ _ _ _=>(@aF _ _ _ _ _ (@aa _ _ _ _ _ (pv 0) (@aa _ _ _ _ _ (pv 1) ag rfl) rfl)))) ag rfl)) ag rfl) rfl)))),?_⟩
 obtain ⟨t,e1,e2⟩:=W.at'
 refine ⟨_,rfl,r,_,0,_,rfl,rfl,SqT.of e1,rfl,_,rfl,r,_,1,_,rfl,rfl,SqT.of e1,rfl,t,rfl,⟨_,SqT.of e2⟩,iT (ts:=ts.map λu:Addr×List Int=>(u.1,V.int (u.2.getD 0 0),V.int (u.2.getD 1 0))) (λi ys H'=>ay H H'/\∃us:List (Addr×List Int),ys=us.map (λu =>.ref u.1)/\Tus H' us/\us.map (·.2)=((ts.map (·.2)).take i).filter (iY P)/\us.length<=i) (by decide) ⟨ay.refl _,[],rfl,λu hu=>(by cases hu),rfl,Ah _⟩ (by rw[Ac];exact small (by omega)) (λi ys H' _ k=>rE (W.same k.1) (k.1 _ _ e2)) ?_ ?_⟩
 ·rintro i v ys H1 hv hy ⟨s1,us,rfl,tu,eu,lu⟩ R1 R0 r1 r0
  obtain ⟨u,hu,rfl⟩:=ng hv
  have mu:=AJ hu
  obtain ⟨x,y,e3,_⟩:=W.rng u mu
  have g0:u.2.getD 0 0=x:=by rw[e3];rfl
  have g1:u.2.getD 1 0=y:=by rw[e3];rfl
  rw[g0,g1]
  have tk:∀c:Bool,iY P u.2=c->((ts.map (·.2)).take (i+1)).filter (iY P)=((ts.map (·.2)).take i).filter (iY P)++(if c=true then [u.2] else []):=λc ec=>by
   rw[Bc,AO,hu,Cm]
   congr 1
   cases c with
   | true=>rw[if_pos rfl];exact B2 ec
   | false=>rw[if_neg Ao];exact B3 (by rw[ec];exact Ao)
  have eq1:=s1 _ _ eq
  refine ⟨_,rfl,_,rfl,q,_,rfl,.inr (SqT.of eq1),rfl,gn P,_,rfl,m9 (λc1 =>?_) λc1 =>?_⟩
  ·refine ⟨_,rfl,_,rfl,q,_,rfl,.inr (SqT.of eq1),rfl,gn P,_,rfl,m9 (λc2 =>?_) λc2 =>?_⟩
   ·refine ⟨_,rfl,_,rfl,(by show 2<=Ai;decide),λc hc=>r1 _ _ ⟨s1.trans (af hc _),us++[(c,[x,y])],by rw[Ap];rfl,Tus.iF (tu.same (af hc _)) (u:=(c,[x,y])) ae,?_,by rw[Am];show _+1<=_;omega⟩⟩
    rw[tk true (by rw[e3];show (!decide (x∈P) && !decide (y∈P))=true;rw[decide_eq_false c1,decide_eq_false c2];rfl),Ap,eu,e3];rfl
   ·refine r0 _ ⟨s1,us,rfl,tu,?_,by omega⟩
    rw[tk false (by rw[e3];show (!decide (x∈P) && !decide (y∈P))=false;rw[decide_eq_true c2];simp),eu]
    exact (AZ _).symm
  ·refine aH (r0 _ ⟨s1,us,rfl,tu,?_,by omega⟩)
   rw[tk false (by rw[e3];show (!decide (x∈P) && !decide (y∈P))=false;rw[decide_eq_true c1];rfl),eu]
   exact (AZ _).symm
 ·rintro ys H1 hy ⟨s1,us,rfl,tu,eu,lu⟩ l hl
  rw[Ac,AA (by rw[Ac];exact Ah _)] at eu
  refine ⟨l,_,rfl,.inl ⟨SqL.of ae,λt2 ht2=>⟨(by show 2<=Ai;decide),λb hb =>?_⟩⟩⟩
  have gA:=((af hl (.lst (us.map λu =>.ref u.1))).trans (af ht2 (.tup (us.map λu =>.ref u.1)))).trans (af hb (.tup [.int (m:Int),.ref t2]))
  refine k b us _ (s1.trans gA) ⟨⟨t2,ae,(af hb _) _ _ ae⟩,λu hu=>gA _ _ (tu u hu),λu hu =>?_⟩ eu
  have:u.2∈us.map (·.2):=AG.mpr ⟨u,hu,rfl⟩
  rw[eu] at this
  obtain ⟨v,hv,e⟩:=AG.mp (AS.mp this).1
  rw[<- e]
  exact W.rng v hv
end
def Knd (K:Ab)(cs:List Addr)(W C:Addr)(i:Nat):Prop:=i<11/\ExI K C/\(∀j,j<11->PySem.W.kitOne K (.ref C) (.ref (cs.getD j 0))=some (i == j))/\PySem.W.kitOne K (.ref C) (.type "ValueError")=some true/\PySem.W.kitOne K (.ref C) (.ref W)=some true
@[irreducible] def jz (K:Ab)(cs:List Addr)(W:Addr):Sp:=λvs H Q _=>∃(ea C:Addr) (d:Option Addr) (i p:Nat),vs=[.ref ea,.int p]/\H ea=some (aU ea (.ref C) d)/\Knd K cs W C i/\p<3/\∀H',ay H H'->Q (.bl (i == p)) H'
theorem fS {K:Ab}{cs:List Addr}{W:Addr}{vs:List V}{H:Hp}{Q:VK}{E:XK}:jz K cs W vs H Q E↔∃(ea C:Addr) (d:Option Addr) (i p:Nat),vs=[.ref ea,.int p]/\H ea=some (aU ea (.ref C) d)/\Knd K cs W C i/\p<3/\∀H',ay H H'->Q (.bl (i == p)) H':=by
 delta jz
 exact Cj
theorem zc:∀i:Nat,i<11->([i == 0,i == 1,i == 2,i == 3,i == 4,i == 5,i == 6,i == 7,i == 8,i == 9,i == 10]:List Bool).count true=1:=by decide
section
variable  {P:Au}{w:AX}{K:Ab}{mg:Str->Option Ae}{base:Heap}{f:Addr}{fd:Be}{c_WebError c_BadWeb c_NoStep c_NoText c_TooMany c_NoTie c_NoRing c_NotClear c_NotThree c_BadBoard c_NoRow c_NoBack:Addr}
theorem oT:aP ["e", "place", "some"] ["e", "place"] (aq mW):=⟨rfl,rfl,rfl,by decide +kernel,rfl,by decide +kernel,by decide +kernel⟩
theorem vG (F:Fun K "_law_alone" "_law_alone" mW f fd)(B:Blt mg)(Z:Exs K mg c_WebError c_BadWeb c_NoStep c_NoText c_TooMany c_NoTie c_NoRing c_NotClear c_NotThree c_BadBoard c_NoRow c_NoBack)(C:Cst mg):bC P w K mg base CX0 1 f fd ["e", "place"] (jz K [c_BadWeb,c_TooMany,c_NoTie,c_NoRing,c_NotClear,c_NotThree,c_BadBoard,c_NoStep,c_NoText,c_NoRow,c_NoBack] c_WebError):=by
 refine F.ok oT (λvs H Q E h =>?_) (λcdv A outer s H vs Q E hr h =>?_)
 ·obtain ⟨_,_,_,_,_,rfl,_⟩:=fS.mp h
  rfl
 obtain ⟨ea,C,d,i,p,rfl,he,⟨li,zi,ko,kv,kw⟩,lp,q⟩:=fS.mp h
 refine ⟨_,(@ai _ _ _ _ _ (@aX _ _ 2 _ _ _ _ oT.nd rfl (Or.inl rfl) (@dM _ _ _ _ (@aa _ _ _ _ _ (aj (bD (K:=K)) rfl B.b_isinstance av (@aa _ _ _ _ _ (pv 0) (@aa _ _ _ _ _ (bT (v :=.ref c_BadWeb) rfl Z.x_BadWeb rfl) ag rfl) rfl)) (@aa _ _ _ _ _ (aj (bD (K:=K)) rfl B.b_isinstance av (@aa _ _ _ _ _ (pv 0) (@aa _ _ _ _ _ (bT (v :=.ref c_TooMany) rfl Z.x_TooMany rfl) ag rfl) rfl)) (@aa _ _ _ _ _ (aj (bD (K:=K)) rfl B.b_isinstance av (@aa _ _ _ _ _ (pv 0) (@aa _ _ _ _ _ (bT (v :=.ref c_NoTie) rfl Z.x_NoTie rfl) ag rfl) rfl)) (@aa _ _ _ _ _ (aj (bD (K:=K)) rfl B.b_isinstance av (@aa _ _ _ _ _ (pv 0) (@aa _ _ _ _ _ (bT (v :=.ref c_NoRing) rfl Z.x_NoRing rfl) ag rfl) rfl)) (@aa _ _ _ _ _ (aj (bD (K:=K)) rfl B.b_isinstance av (@aa _ _ _ _ _ (pv 0) (@aa _ _ _ _ _ (bT (v :=.ref c_NotClear) rfl Z.x_NotClear rfl) ag rfl) rfl)) (@aa _ _ _ _ _ (aj (bD (K:=K)) rfl B.b_isinstance av (@aa _ _ _ _ _ (pv 0) (@aa _ _ _ _ _ (bT (v :=.ref c_NotThree) rfl Z.x_NotThree rfl) ag rfl) rfl)) (@aa _ _ _ _ _ (aj (bD (K:=K)) rfl B.b_isinstance av (@aa _ _ _ _ _ (pv 0) (@aa _ _ _ _ _ (bT (v :=.ref c_BadBoard) rfl Z.x_BadBoard rfl) ag rfl) rfl)) (@aa _ _ _ _ _ (aj (bD (K:=K)) rfl B.b_isinstance av (@aa _ _ _ _ _ (pv 0) (@aa _ _ _ _ _ (bT (v :=.ref c_NoStep) rfl Z.x_NoStep rfl) ag rfl) rfl)) (@aa _ _ _ _ _ (aj (bD (K:=K)) rfl B.b_isinstance av (@aa _ _ _ _ _ (pv 0) (@aa _ _ _ _ _ (bT (v :=.ref c_NoText) rfl Z.x_NoText rfl) ag rfl) rfl)) (@aa _ _ _ _ _ (aj (bD (K:=K)) rfl B.b_isinstance av (@aa _ _ _ _ _ (pv 0) (@aa _ _ _ _ _ (bT (v :=.ref c_NoRow) rfl Z.x_NoRow rfl) ag rfl) rfl)) (@aa _ _ _ _ _ (aj (bD (K:=K)) rfl B.b_isinstance av (@aa _ _ _ _ _ (pv 0) (@aa _ _ _ _ _ (bT (v :=.ref c_NoBack) rfl Z.x_NoBack rfl) ag rfl) rfl)) ag rfl) rfl) rfl) rfl) rfl) rfl) rfl) rfl) rfl) rfl) rfl)) rfl (by first | exact .inl rfl | exact .inr rfl | assumption))
  (@ai _ _ _ _ _ (@bz _ _ _ _ _ _ _ _ (PW.pt (dX (bK (bJ (aj (bD (K:=K)) rfl B.b_isinstance av (@aa _ _ _ _ _ (pv 0) (@aa _ _ _ _ _ (bT (v :=.ref c_WebError) rfl Z.x_WebError rfl) ag rfl) rfl)))) (di (bK (bJ (aj (bD (K:=K)) rfl B.b_isinstance av (@aa _ _ _ _ _ (pv 0) (@aa _ _ _ _ _ (bI (v :=.ty "ValueError") rfl B.b_ValueError kG rfl) ag rfl) rfl))))))) bA aL)
  (@ao _ _ _ (@aV _ _ _ _ (gG (cX fq (nE Ct Fc PySem.F.type_list_count tI (pv 2) (@aa _ _ _ _ _ hW ag rfl)) ah (aN _)) (fw (@aJ _ _ _ _ _ _ _ cY (pv 2) (pv 1) (λ_ _=>rfl)))))))),?_⟩
 refine ⟨_,rfl,ea,_,d,_,(i == 0),rfl,he,zi,rfl,ko 0 (by decide),_,rfl,ea,_,d,_,(i == 1),rfl,he,zi,rfl,ko 1 (by decide),_,rfl,ea,_,d,_,(i == 2),rfl,he,zi,rfl,ko 2 (by decide),_,rfl,ea,_,d,_,(i == 3),rfl,he,zi,rfl,ko 3 (by decide),_,rfl,ea,_,d,_,(i == 4),rfl,he,zi,rfl,ko 4 (by decide),_,rfl,ea,_,d,_,(i == 5),rfl,he,zi,rfl,ko 5 (by decide),_,rfl,ea,_,d,_,(i == 6),rfl,he,zi,rfl,ko 6 (by decide),_,rfl,ea,_,d,_,(i == 7),rfl,he,zi,rfl,ko 7 (by decide),_,rfl,ea,_,d,_,(i == 8),rfl,he,zi,rfl,ko 8 (by decide),_,rfl,ea,_,d,_,(i == 9),rfl,he,zi,rfl,ko 9 (by decide),_,rfl,ea,_,d,_,(i == 10),rfl,he,zi,rfl,ko 10 (by decide),(by show 11<=Ai;decide),λl hl =>?_⟩
 have g1:=af hl (.lst [.bl (i == 0),.bl (i == 1),.bl (i == 2),.bl (i == 3),.bl (i == 4),.bl (i == 5),.bl (i == 6),.bl (i == 7),.bl (i == 8),.bl (i == 9),.bl (i == 10)])
 have el:upd H l (.lst [.bl (i == 0),.bl (i == 1),.bl (i == 2),.bl (i == 3),.bl (i == 4),.bl (i == 5),.bl (i == 6),.bl (i == 7),.bl (i == 8),.bl (i == 9),.bl (i == 10)]) l=some (.lst [.bl (i == 0),.bl (i == 1),.bl (i == 2),.bl (i == 3),.bl (i == 4),.bl (i == 5),.bl (i == 6),.bl (i == 7),.bl (i == 8),.bl (i == 9),.bl (i == 10)]):=ae
 have he:=g1 _ _ he
 generalize upd H l (.lst [.bl (i == 0),.bl (i == 1),.bl (i == 2),.bl (i == 3),.bl (i == 4),.bl (i == 5),.bl (i == 6),.bl (i == 7),.bl (i == 8),.bl (i == 9),.bl (i == 10)])=H1 at g1 el he
 refine ⟨_,rfl,ea,_,d,_,true,rfl,he,zi,rfl,kw,_,rfl,aH ⟨_,rfl,ea,_,d,_,true,rfl,he,zi,rfl,kv,_,rfl,aH ?_⟩⟩
 have gp:([.bl (i == 0),.bl (i == 1),.bl (i == 2),.bl (i == 3),.bl (i == 4),.bl (i == 5),.bl (i == 6),.bl (i == 7),.bl (i == 8),.bl (i == 9),.bl (i == 10)]:List V)[p]? = some (.bl (i == p)):=by
  rcases (by omega:p=0\/p=1\/p=2) with z | z | z <;> subst z <;> rfl
 have c1:=zc i li
 refine ⟨_,rfl,.inl ⟨rfl,_,SqL.of el⟩,l,[i == 0,i == 1,i == 2,i == 3,i == 4,i == 5,i == 6,i == 7,i == 8,i == 9,i == 10],true,rfl,rfl,el,rfl,?_⟩
 refine ⟨true,by rw[c1];rfl,aR ⟨_,rfl,_,rfl,l,_,p,_,rfl,rfl,SqL.of el,bN gp,q _ g1⟩⟩
end
abbrev vH:Sp:=λvs H Q _=>∃(m:Int) (x:V) (b:Bool),vs=[.int m,x]/\Itm H m x b/\∀H',ay H H'->Q (.bl b) H'
@[irreducible] def rF:Sp:=vH
theorem eE {vs:List V}{H:Hp}{Q:VK}{E:XK}:rF vs H Q E↔vH vs H Q E:=by
 delta rF
 exact Cj
section
variable  {P:Au}{w:AX}{K:Ab}{mg:Str->Option Ae}{base:Heap}{f T:Addr}{fd:Be}
theorem tV:aP ["many", "thing"] ["many", "thing"] (aq j9):=⟨rfl,rfl,rfl,by decide +kernel,rfl,by decide +kernel,by decide +kernel⟩
theorem fU:(["place", "many"]:List Str).Nodup:=by decide +kernel
theorem tW (F:Fun K "_law_is_pair" "_law_is_pair" j9 f fd)(B:Blt mg)(cLWhole:Cal P w K mg base 1 "_law_whole" ["found"] (dB K))(C:Cst mg):bC P w K mg base CX0 2 f fd ["many", "thing"] rF:=by
 refine F.ok tV (λvs H Q E h =>?_) (λcdv A outer s H vs Q E hr h =>?_)
 ·obtain ⟨_,_,_,rfl,_⟩:=eE.mp h
  rfl
 obtain ⟨m,x,b,rfl,hx,q⟩:=eE.mp h
 refine ⟨_,(@ai _ _ _ _ _ (@bz _ _ _ _ _ _ _ _ (PW.pt (dX (bK (bJ (aj c0 rfl B.b_isinstance av (@aa _ _ _ _ _ (pv 1) (@aa _ _ _ _ _ (@aF _ _ _ _ _ (@aa _ _ _ _ _ (bI (v :=.ty "list") rfl B.b_list dG rfl) (@aa _ _ _ _ _ (bI (v :=.ty "tuple") rfl B.b_tuple aM rfl) ag rfl) rfl)) ag rfl) rfl)))) (di (aE qI (aj aO rfl B.b_len cc (@aa _ _ _ _ _ (pv 1) ag rfl)) ah (aN _))))) (@ao _ _ _ (@aV _ _ _ _ hW)) aL)
  (@ao _ _ _ (@aV _ _ _ _ (aj (nI rfl) rfl B.b_all vx (@aa _ _ _ _ _ (bO ["place", "many"] [none,some 0] rfl (yG (pv 1)) rfl (λ_ _ _ _ _=>(aQ (i:=0) fU rfl (Or.inl rfl))) (λ_ _ _ _ _=>dN) (λ_ _ _ _ _=>(gG (aG cLWhole hr (by decide) rfl (@aa _ _ _ _ _ (pv 0) ag rfl)) (fw (nz kQ nq ah (pv 0) (pv 1)))))) ag rfl))))),?_⟩
 refine ⟨_,rfl,(by show 2<=Ai;decide),λp hp =>?_⟩
 have s0:=af hp (.tup [.ty "list",.ty "tuple"])
 have hx:=hx.same s0
 have ep:SqT K (upd H p (.tup [.ty "list",.ty "tuple"])) p (["list", "tuple"].map V.ty):=SqT.of ae
 generalize upd H p (.tup [.ty "list",.ty "tuple"])=H1 at s0 ep hx
 cases hx with
 | flat f =>
  obtain ⟨⟨t,ty,k⟩,_,n⟩:=gS (K:=K) f
  exact ⟨x,p,_,t,false,rfl,ep,ty,n,k,_,rfl,aR (q _ s0)⟩
 | @len a xs e n =>
  obtain ⟨⟨t,ty,k⟩,_,n'⟩:=fg (K:=K) e
  refine ⟨.ref a,p,_,t,true,rfl,ep,ty,n',k,_,rfl,aH ⟨_,rfl,a,xs,rfl,e.imp SqL.of SqT.of,rfl,_,rfl,?_⟩⟩
  rw[decide_eq_false (λz=>n (by have:=V.int.inj z;omega))]
  exact aR (q _ s0)
 | @pr a x y b e hix hiy hb =>
  obtain ⟨⟨t,ty,k⟩,_,n'⟩:=fg (K:=K) e
  refine ⟨.ref a,p,_,t,true,rfl,ep,ty,n',k,_,rfl,aH ⟨_,rfl,a,_,rfl,e.imp SqL.of SqT.of,rfl,_,rfl,xJ rfl ?_⟩⟩
  have atp:∀{G:Hp},ay H1 G->G a=H1 a:=λ{G} s=>by
   rcases e with z | z
   ·rw[s _ _ z,z]
   ·rw[s _ _ z,z]
  refine ⟨_,rfl,a,rfl,sJ (xs:=[x,y]) (λi ys H'=>H'=H1/\ys=([pl m x,pl m y].take i).map V.bl) e ⟨rfl,rfl⟩ (by show 2<=Ai;decide) (λi ys H' z=>by rw[z.1]) ?_ ?_⟩
  ·rintro i z ys G hz hy ⟨rfl,rfl⟩ R1 R0 r1 r0
   have hin:Inn G z:=by
    match i,hz with
    | 0,hz=>cases hz;exact hix
    | 1,hz=>cases hz;exact hiy
   have ei:([pl m x,pl m y].take (i+1)).map V.bl=([pl m x,pl m y].take i).map V.bl++[.bl (pl m z)]:=by
    match i,hz with
    | 0,hz=>cases hz;rfl
    | 1,hz=>cases hz;rfl
   obtain ⟨t,b1,b2,ty,k1,k2,ew⟩:=vz (K:=K) hin
   refine aR ⟨_,rfl,bq.mpr ⟨z,t,b1,b2,rfl,ty,k1,k2,_,rfl,?_⟩⟩
   rw[ew]
   have fin:∀b',b'=pl m z->R1 (.bl b') G:=λb' e=>r1 _ _ ⟨rfl,by rw[ei,e]⟩
   cases z with
   | int n =>
    refine aR ⟨_,rfl,0,n,rfl,rfl,_,rfl,?_⟩
    by_cases c:(0:Int)<=n
    ·rw[decide_eq_true c]
     exact aR ⟨_,rfl,n,m,rfl,rfl,fin _ (by show _=(decide ((0:Int)<=n) && decide (n<m));rw[decide_eq_true c];rfl)⟩
    ·rw[decide_eq_false c]
     exact aH (fin _ (by show _=(decide ((0:Int)<=n) && decide (n<m));rw[decide_eq_false c];rfl))
   | _=>exact aH (fin _ rfl)
  ·rintro ys G hy ⟨rfl,rfl⟩ l hl
   refine ⟨l,[pl m x,pl m y],rfl,SqL.of ae,?_⟩
   have:([pl m x,pl m y].all id)=b:=by rw[<- hb];simp
   rw[this]
   exact q _ (s0.trans (af hl _))
end
open PySem L2
abbrev vI:Sp:=λvs H Q _=>∃(M T:V),vs=[M,T]/\((Bad H M T/\∀t H',ay H H'->H' t=some (.tup [.int 0,.int (-1)])->Q (.ref t) H')\/∃(m:Int) (r:Addr) (xs:List V) (ps:List (List Int)),M = .int m/\0<=m/\m<=40/\T = .ref r/\(H r=some (.lst xs)\/H r=some (.tup xs))/\xs.length<=300/\U2 H m xs ps/\(ps.length<xs.length->∀t H',ay H H'->H' t=some (.tup [.int 0,.int (ps.length:Nat)])->Q (.ref t) H')/\(ps.length=xs.length->200<xs.length->∀t H',ay H H'->H' t=some (.tup [.int 1,.non])->Q (.ref t) H')/\(ps.length=xs.length->xs.length<=200->∀H',ay H H'->Q .non H'))
@[irreducible] def rG:Sp:=vI
theorem cv {vs:List V}{H:Hp}{Q:VK}{E:XK}:rG vs H Q E↔vI vs H Q E:=by
 delta rG
 exact Cj
section
variable  {P:Au}{w:AX}{K:Ab}{mg:Str->Option Ae}{base:Heap}{f T:Addr}{fd:Be}
theorem qv:aP ["many", "row", "seen", "at"] ["many", "row"] (aq vw):=⟨rfl,rfl,rfl,by decide +kernel,rfl,by decide +kernel,by decide +kernel⟩
theorem zd (F:Fun K "_law_due" "_law_due" vw f fd)(B:Blt mg)(cLWhole:Cal P w K mg base 1 "_law_whole" ["found"] (dB K))(cLIsPair:Cal P w K mg base 2 "_law_is_pair" ["many", "thing"] rF)(C:Cst mg):bC P w K mg base CX0 3 f fd ["many", "row"] rG:=by
 refine F.ok qv (λvs H Q E h =>?_) (λcdv A outer s H vs Q E hr h =>?_)
 ·obtain ⟨_,_,rfl,_⟩:=cv.mp h
  rfl
 obtain ⟨M,T,rfl,hh⟩:=cv.mp h
 refine ⟨_,(@ai _ _ _ _ _ (@bz _ _ _ _ _ _ _ _ (PW.pt (dX (bK (bJ (aG cLWhole hr (by decide) rfl (@aa _ _ _ _ _ (pv 0) ag rfl)))) (dX (bK (nA kQ kQ ah (pv 0) ah)) (di (bK (bJ (aj c0 rfl B.b_isinstance av (@aa _ _ _ _ _ (pv 1) (@aa _ _ _ _ _ (@aF _ _ _ _ _ (@aa _ _ _ _ _ (bI (v :=.ty "list") rfl B.b_list dG rfl) (@aa _ _ _ _ _ (bI (v :=.ty "tuple") rfl B.b_tuple aM rfl) ag rfl) rfl)) ag rfl) rfl)))))))) (@ao _ _ _ (@aV _ _ _ _ (@aF _ _ _ _ _ (@aa _ _ _ _ _ ah (@aa _ _ _ _ _ (qD mj ah) ag rfl) rfl)))) aL)
  (@ai _ _ _ _ _ (@aX _ _ 2 _ _ _ _ qv.nd rfl (Or.inl rfl) (@dM _ _ _ _ ag) rfl (by first | exact .inl rfl | exact .inr rfl | assumption))
  (@ai _ _ _ _ _ (@fz _ _ _ _ _ _ _ _ CY rfl (bR rfl B.b_range (@aa _ _ _ _ _ (aj aO rfl B.b_len cc (@aa _ _ _ _ _ (pv 1) ag rfl)) ag rfl)) (aQ (i:=3) qv.nd rfl (Or.inl rfl))
   (@ai _ _ _ _ _ (@bz _ _ _ _ _ _ _ _ (PW.pt (dX (bK (bJ (aG cLIsPair hr (by decide) rfl (@aa _ _ _ _ _ (pv 0) (@aa _ _ _ _ _ (@aJ _ _ _ _ _ _ _ (de (K:=K)) (pv 1) (pv 3) (λ_ _=>rfl)) ag rfl) rfl)))) (di (aE (xy (hu8 hr)) (aD az rfl B.b_tuple aM (@aa _ _ _ _ _ (@aJ _ _ _ _ _ _ _ (de (K:=K)) (pv 1) (pv 3) (λ_ _=>rfl)) ag rfl)) (pv 2) rfl)))) (@ao _ _ _ (@aV _ _ _ _ (@aF _ _ _ _ _ (@aa _ _ _ _ _ ah (@aa _ _ _ _ _ (pv 3) ag rfl) rfl)))) aL)
   (@ao _ _ _ (hX (nE Ct E2 E3 k7 (pv 2) (@aa _ _ _ _ _ (aD az rfl B.b_tuple aM (@aa _ _ _ _ _ (@aJ _ _ _ _ _ _ _ (de (K:=K)) (pv 1) (pv 3) (λ_ _=>rfl)) ag rfl)) ag rfl))))) (λ_=>rfl))
  (@ao _ _ _ (@aV _ _ _ _ (@aJ _ _ _ _ _ _ _ cY (@dM _ _ _ _ (@aa _ _ _ _ _ cj (@aa _ _ _ _ _ (@aF _ _ _ _ _ (@aa _ _ _ _ _ ah (@aa _ _ _ _ _ cj ag rfl) rfl)) ag rfl) rfl)) (aD d7 rfl B.b_int gN (@aa _ _ _ _ _ (cX kR (aj aO rfl B.b_len cc (@aa _ _ _ _ _ (pv 1) ag rfl)) ah (aN _)) ag rfl)) (λ_ _=>rfl))))))),?_⟩
 rcases hh with ⟨hb,be⟩ | ⟨m,r,xs,ps,rfl,m0,m1,rfl,hx,xl,U,be,tm,q⟩
 ·have rz:∀(H1:Hp),ay H H1->∀t,H1 t=none->Q (.ref t) (upd H1 t (.tup [.int 0,.int (-1)])):=λH1 s1 t ht=>be t _ (s1.trans (af ht _)) ae
  have sz:(2:Nat)<=Ai:=by decide
  cases hb with
  | flt f w =>
   obtain ⟨_,⟨t,b1,b2,ty,k1,k2,e⟩,_⟩:=gS (K:=K) f
   refine ⟨_,rfl,bq.mpr ⟨M,t,b1,b2,rfl,ty,k1,k2,_,rfl,?_⟩⟩
   rw[e,w]
   exact aR ⟨_,rfl,sz,rz _ (ay.refl _)⟩
  | sq e =>
   obtain ⟨_,⟨t,b1,b2,ty,k1,k2,eb⟩,_⟩:=fg (K:=K) e
   refine ⟨_,rfl,bq.mpr ⟨_,t,b1,b2,rfl,ty,k1,k2,_,rfl,?_⟩⟩
   rw[eb]
   exact aR ⟨_,rfl,sz,rz _ (ay.refl _)⟩
  | @num m _ hm =>
   refine ⟨_,rfl,bq.mpr ⟨_,_,true,false,rfl,.int m,rfl,rfl,_,rfl,aH ⟨_,rfl,_,_,rfl,rfl,_,rfl,?_⟩⟩⟩
   by_cases c:(0:Int)<=m
   ·rw[decide_eq_true c]
    refine aR ⟨_,_,rfl,rfl,_,rfl,?_⟩
    rw[decide_eq_false (show ¬ m<=40 by omega)]
    exact aR ⟨_,rfl,sz,rz _ (ay.refl _)⟩
   ·rw[decide_eq_false c]
    exact aH ⟨_,rfl,aR ⟨_,rfl,sz,rz _ (ay.refl _)⟩⟩
  | @row m _ h0 h1 f =>
   refine ⟨_,rfl,bq.mpr ⟨_,_,true,false,rfl,.int m,rfl,rfl,_,rfl,aH ⟨_,rfl,_,_,rfl,rfl,_,rfl,xx h0 ⟨_,_,rfl,rfl,_,rfl,?_⟩⟩⟩⟩
   rw[decide_eq_true h1]
   refine aH ⟨_,rfl,(by show 2<=Ai;decide),λp hp =>?_⟩
   have s0:=af hp (.tup [.ty "list",.ty "tuple"])
   have f:=f.cx λa u _ e=>s0 a u e
   have ep:SqT K (upd H p (.tup [.ty "list",.ty "tuple"])) p (["list", "tuple"].map V.ty):=SqT.of ae
   generalize upd H p (.tup [.ty "list",.ty "tuple"])=H1 at s0 ep f
   obtain ⟨⟨t,ty,k⟩,_,n⟩:=gS (K:=K) f
   exact ⟨_,p,_,t,false,rfl,ep,ty,n,k,_,rfl,aR ⟨_,rfl,sz,rz _ s0⟩⟩
 refine ⟨_,rfl,bq.mpr ⟨_,_,true,false,rfl,.int m,rfl,rfl,_,rfl,aH ⟨_,rfl,_,_,rfl,rfl,_,rfl,xx m0 ⟨_,_,rfl,rfl,_,rfl,?_⟩⟩⟩⟩
 rw[decide_eq_true m1]
 refine aH ⟨_,rfl,(by show 2<=Ai;decide),λp hp =>?_⟩
 have s0:=af hp (.tup [.ty "list",.ty "tuple"])
 have ep:SqT K (upd H p (.tup [.ty "list",.ty "tuple"])) p (["list", "tuple"].map V.ty):=SqT.of ae
 have hx0:upd H p (.tup [.ty "list",.ty "tuple"]) r=some (.lst xs)\/upd H p (.tup [.ty "list",.ty "tuple"]) r=some (.tup xs):=hx.imp (s0 _ _) (s0 _ _)
 have U0:=U.same s0
 generalize upd H p (.tup [.ty "list",.ty "tuple"])=H1 at s0 ep hx0 U0
 obtain ⟨⟨t,ty,kk⟩,_,n⟩:=fg (K:=K) hx0
 refine ⟨_,p,_,t,true,rfl,ep,ty,n,kk,_,rfl,aH ⟨(by show 0<=Ai;decide),λls hls =>?_⟩⟩
 have s1:=af hls (.lst [])
 have els:upd H1 ls (.lst []) ls=some (.lst (([]:List (Addr×List Int)).map λu =>.ref u.1)):=ae
 have U1:=U0.same s1
 have hx1:=hx0.imp (s1 _ _) (s1 _ _)
 have nlr:r≠ls:=by rcases hx0 with e | e <;> exact aA e hls
 generalize upd H1 ls (.lst [])=H2 at s1 els U1 hx1
 have ix:∀{K1:Hp} (_:K1 r=some (.lst xs)\/K1 r=some (.tup xs)) (i:Nat) (v:V) (Q:VK),xs[i]? = some v->Q v K1->rIx K (.ref r) (.int (0+(i:Int))) K1 Q:=λ{K1} h1 i v Q e h=>by
  rw[EB]
  rcases h1 with z | z
  ·exact .inl ⟨r,_,(i:Int),v,rfl,rfl,SqL.of z,bN e,h⟩
  ·exact .inr (.inl ⟨r,_,(i:Int),v,rfl,rfl,SqT.of z,bN e,h⟩)
 refine ⟨_,rfl,r,_,rfl,hx1.imp SqL.of SqT.of,(xs.length:Int),rfl,by omega,by omega,?_⟩
 rw[Bb]
 refine cy (λi σ H'=>(∃c4,σ=[some (.int m),some (.ref r),some (.ref ls),c4])/\ay H1 H'/\i<=ps.length/\∃us:List (Addr×List Int),H' ls=some (.lst (us.map λu =>.ref u.1))/\Tus H' us/\us.map (·.2)=ps.take i) ⟨⟨_,rfl⟩,s1,A5 _,[],els,λu hu=>(by cases hu),rfl⟩ ?_ ?_
 ·rintro i σ G hi ⟨⟨c4,rfl⟩,sG,ik,us,el,tu,eu⟩
  have hxi:xs[i]? = some xs[i]:=Aw hi
  have hxG:=hx0.imp (sG _ _) (sG _ _)
  have lu:us.length=i:=by have:=congrArg List.length eu;rw[Ac,Bg] at this;omega
  refine ⟨_,rfl,_,rfl,_,rfl,ix hxG i _ _ hxi ?_⟩
  have stop:∀(K1:Hp) (σ':St),σ'[3]? = some (some (.int (0+(i:Int))))->ay H1 K1->i=ps.length->yc (zC (nB (tC (.int 0)) (nB (tY 3) vT))) { nx:=λ_ _=>False,rt:=Q } σ' K1:=λK1 σ' e sk ei=>by
   refine ⟨_,e,(by show 2<=Ai;decide),λt ht=>be (by omega) t _ (s0.trans (sk.trans (af ht _))) ?_⟩
   rw[ae,EB,ei]
  by_cases c:i<ps.length
  ·have epi:ps[i]? = some ps[i]:=Aw c
   have pq:=(U0.yes i _ _ hxi epi).same sG
   refine eE.mpr ⟨m,_,true,rfl,pq.itm,λG2 s4=>⟨_,rfl,aH ?_⟩⟩
   obtain ⟨a,y,z,exi,ezp,ea,y0,y1,z0,z1⟩:=pq.same s4
   have hx2:=hxG.imp (s4 _ _) (s4 _ _)
   have el2:=s4 _ _ el
   have tu2:=tu.same s4
   have nin:[y,z]∉us.map (·.2):=λmm=>by
    rw[eu] at mm
    have nd:=U0.nd
    obtain ⟨j,hj⟩:=A3.mp mm
    have lj:j<i:=by have:=(Al.mp hj).1;rw[Bg] at this;omega
    rw[BK,if_pos lj] at hj
    have e1:ps[j]? = ps[i]? := by rw[hj,epi,ezp]
    have:=(GV (by omega) nd).mp e1
    omega
   refine ⟨_,rfl,_,rfl,ix hx2 i _ _ hxi ?_⟩
   have fin:∀(K1:Hp) (b:Addr),ay G2 K1->K1 b=some (.tup [.int y,.int z])->(∀(Q:VK),Q (.bl (decide ([y,z]∈us.map (·.2)))) K1->True)->True:=λ_ _ _ _ _=>trivial
   have step:∀(K1:Hp) (b:Addr),ay G2 K1->K1 b=some (.tup ([y,z].map V.int))->us.length<1000->ay H1 (upd K1 ls (.lst ((us.map λu=>V.ref u.1)++[.ref b])))/\i+1<=ps.length/\∃us':List (Addr×List Int),upd K1 ls (.lst ((us.map λu=>V.ref u.1)++[.ref b])) ls=some (.lst (us'.map λu =>.ref u.1))/\Tus (upd K1 ls (.lst ((us.map λu=>V.ref u.1)++[.ref b]))) us'/\us'.map (·.2)=ps.take (i+1):=λK1 b sk eb _=>by
    have tk:=tu2.same sk
    have elk:=sk _ _ el2
    refine ⟨λb' u e=>by rw[au (aA e hls)];exact sG.trans (s4.trans sk) b' u e,c,us++[(b,[y,z])],by rw[ae,Ap];rfl,λu hu =>?_,by rw[Ap,eu,Bc,epi,ezp];rfl⟩
    have nt:∀{b:Addr} {ys:List V},K1 b=some (.tup ys)->upd K1 ls (.lst ((us.map λu=>V.ref u.1)++[.ref b])) b=some (.tup ys):=λ{b ys} e=>by
     rw[au (jC e elk (by intro z;cases z))];exact e
    have nt':∀{b c:Addr} {ys:List V},K1 c=some (.tup ys)->upd K1 ls (.lst ((us.map λu=>V.ref u.1)++[.ref b])) c=some (.tup ys):=λ{b c ys} e=>by
     rw[au (jC e elk (by intro z;cases z))];exact e
    rcases Ax.mp hu with w | w
    ·exact nt' (tk u w)
    ·rw[AB] at w;subst w;exact nt' eb
   rw[exi]
   rcases ea with ea | ea
   ·refine ⟨a,_,rfl,.inl ⟨SqL.of ea,λb hb =>?_⟩⟩
    have g5:=af hb (.tup [.int y,.int z])
    have eb:upd G2 b (.tup [.int y,.int z]) b=some (.tup ([y,z].map V.int)):=ae
    generalize upd G2 b (.tup [.int y,.int z])=G3 at g5 eb
    refine ⟨_,rfl,ls,b,us,[y,z],rfl,rfl,g5 _ _ el2,tu2.same g5,eb,_,rfl,?_⟩
    rw[decide_eq_false nin]
    refine aH ⟨_,rfl,.inl ⟨rfl,_,SqL.of (g5 _ _ el2)⟩,_,rfl,_,rfl,ix (hx2.imp (g5 _ _) (g5 _ _)) i _ _ hxi ?_⟩
    rw[exi]
    refine ⟨a,_,rfl,.inl ⟨SqL.of (g5 _ _ ea),λb2 hb2 =>?_⟩⟩
    have g6:=af hb2 (.tup [.int y,.int z])
    obtain ⟨h1,h2,h3⟩:=step _ b2 (g5.trans g6) ae (by omega)
    exact ⟨ls,_,_,rfl,rfl,(g5.trans g6) _ _ el2,(by rw[Ac];exact cp (by omega)),⟨_,rfl⟩,h1,h2,h3⟩
   ·refine ⟨a,_,rfl,.inr ⟨SqT.of ea,?_⟩⟩
    refine ⟨_,rfl,ls,a,us,[y,z],rfl,rfl,el2,tu2,ea,_,rfl,?_⟩
    rw[decide_eq_false nin]
    refine aH ⟨_,rfl,.inl ⟨rfl,_,SqL.of el2⟩,_,rfl,_,rfl,ix hx2 i _ _ hxi ?_⟩
    rw[exi]
    refine ⟨a,_,rfl,.inr ⟨SqT.of ea,?_⟩⟩
    obtain ⟨h1,h2,h3⟩:=step _ a (ay.refl _) ea (by omega)
    exact ⟨ls,_,_,rfl,rfl,el2,(by rw[Ac];exact cp (by omega)),⟨_,rfl⟩,h1,h2,h3⟩
  ·obtain rfl:i=ps.length:=by omega
   rcases U0.no _ hxi with it | ⟨p',pm,pq⟩
   ·exact eE.mpr ⟨m,_,false,rfl,it.same sG,λG2 s4=>⟨_,rfl,aR (stop _ _ rfl (sG.trans s4) rfl)⟩⟩
   ·have pq:=pq.same sG
    refine eE.mpr ⟨m,_,true,rfl,pq.itm,λG2 s4=>⟨_,rfl,aH ?_⟩⟩
    obtain ⟨a,y,z,exi,ezp,ea,y0,y1,z0,z1⟩:=pq.same s4
    have hx2:=hxG.imp (s4 _ _) (s4 _ _)
    have el2:=s4 _ _ el
    have tu2:=tu.same s4
    have inn:[y,z]∈us.map (·.2):=by rw[eu,AA (Ah _), <- ezp];exact pm
    refine ⟨_,rfl,_,rfl,ix hx2 _ _ _ hxi ?_⟩
    rw[exi]
    rcases ea with ea | ea
    ·refine ⟨a,_,rfl,.inl ⟨SqL.of ea,λb hb =>?_⟩⟩
     have g5:=af hb (.tup [.int y,.int z])
     have eb:upd G2 b (.tup [.int y,.int z]) b=some (.tup ([y,z].map V.int)):=ae
     generalize upd G2 b (.tup [.int y,.int z])=G3 at g5 eb
     refine ⟨_,rfl,ls,b,us,[y,z],rfl,rfl,g5 _ _ el2,tu2.same g5,eb,_,rfl,?_⟩
     rw[decide_eq_true inn]
     exact aR (stop _ _ rfl (sG.trans (s4.trans g5)) rfl)
    ·refine ⟨a,_,rfl,.inr ⟨SqT.of ea,?_⟩⟩
     refine ⟨_,rfl,ls,a,us,[y,z],rfl,rfl,el2,tu2,ea,_,rfl,?_⟩
     rw[decide_eq_true inn]
     exact aR (stop _ _ rfl (sG.trans s4) rfl)
 rintro σ G ⟨⟨c4,rfl⟩,sG,lk,us,el,tu,eu⟩
 have ek:ps.length=xs.length:=CC U.le lk
 have sG':=s0.trans sG
 have hxG:=hx0.imp (sG _ _) (sG _ _)
 refine ⟨(by show 2<=Ai;decide),λt1 ht1 =>?_⟩
 have g1:=af ht1 (.tup [.int 1,.non])
 have et1:upd G t1 (.tup [.int 1,.non]) t1=some (.tup [.int 1,.non]):=ae
 generalize upd G t1 (.tup [.int 1,.non])=G1 at g1 et1
 refine ⟨(by show 2<=Ai;decide),λl2 hl2 =>?_⟩
 have g2:=af hl2 (.lst [.non,.ref t1])
 have el2:upd G1 l2 (.lst [.non,.ref t1]) l2=some (.lst [.non,.ref t1]):=ae
 have et1:=g2 _ _ et1
 have s2:=sG'.trans (g1.trans g2)
 have hx3:=hxG.imp ((g1.trans g2) _ _) ((g1.trans g2) _ _)
 generalize upd G1 l2 (.lst [.non,.ref t1])=G2 at g2 el2 et1 s2 hx3
 refine ⟨_,rfl,r,_,rfl,hx3.imp SqL.of SqT.of,_,_,rfl,rfl,.inr ⟨_,rfl,?_⟩⟩
 by_cases c:200<xs.length
 ·rw[decide_eq_true (show ((xs.length:Int)>200) by omega)]
  exact ⟨l2,_,1,_,rfl,rfl,SqL.of el2,rfl,tm ek c t1 _ s2 et1⟩
 ·rw[decide_eq_false (show ¬ ((xs.length:Int)>200) by omega)]
  exact ⟨l2,_,0,_,rfl,rfl,SqL.of el2,rfl,q ek (by omega) _ s2⟩
end
end K55
set_option maxHeartbeats 2000000
namespace K55
open PySem L2
theorem lY {X:Cx}{body:List Stmt}{D0:Ends}{σ0:St}{H0:Hp}(sts:List Stmt)(M:St->Hp->Prop)(h:∃t2,PSs X sts t2/\∀σ H,M σ H->t2 D0 σ H)
  (g:∀t2,PSs X sts t2->(∀σ H,M σ H->t2 D0 σ H)->∃t,PSs X body t/\t D0 σ0 H0):∃t,PSs X body t/\t D0 σ0 H0:=by
 obtain ⟨t2,p2,m2⟩:=h
 exact g t2 p2 m2
theorem z9 {p:Addr}{H H':Hp}(b:Bu 1 p H H')(h:Pt 1 H p):Tp H H':=λ_ _ e=>b.tup h e
theorem qw {X:Cx}{body:List Stmt}{D0:Ends}{σ0:St}{H0:Hp}(M:St->Hp->Prop)
  (g:∃sts:List Stmt,(∀t2,PSs X sts t2->(∀σ H,M σ H->t2 D0 σ H)->∃t,PSs X body t/\t D0 σ0 H0)/\∃t2,PSs X sts t2/\∀σ H,M σ H->t2 D0 σ H):∃t,PSs X body t/\t D0 σ0 H0:=by
 obtain ⟨sts,g,t2,p2,m2⟩:=g
 exact g t2 p2 m2
def It (H:Hp)(m:Int)(x:V):Prop:=∃b,Itm H m x b
theorem It.same {H H':Hp}{m:Int}{x:V}(s:ay H H')(h:It H m x):It H' m x:=let ⟨b,i⟩:=h;⟨b,i.same s⟩
theorem It.bu {p:Addr}{H H':Hp}{m:Int}{x:V}(u:Bu 1 p H H')(h:Pt 1 H p)(n:x ≠ .ref p)(i:It H m x):It H' m x:=let ⟨b,i⟩:=i;⟨b,i.cx (z9 u h) λa o e q=>u.st a o (λz=>n (by rw[e,z])) q⟩
theorem It.updd {H:Hp}{rr:Addr}{xs:List V}{o:HO}{m:Int}{x:V}(h:H rr=some (.lst xs))(n:x ≠ .ref rr)(i:It H m x):It (upd H rr o) m x:=let ⟨b,i⟩:=i;⟨b,i.cx (λa u e=>by rw[au (jC h e (by intro z;cases z)).symm];exact e) λa u e q=>by rw[au (λz=>n (by rw[e,z]))];exact q⟩
structure Rq (H:Hp)(p rr:Addr)(m:Int)(xs:List V):Prop where
 at':H rr=some (.lst xs)
 ne:rr≠p
 it:∀x∈xs,It H m x/\x ≠ .ref rr/\x ≠ .ref p
theorem Rq.bu {H H':Hp}{p rr:Addr}{m:Int}{xs:List V}(h:Rq H p rr m xs)(u:Bu 1 p H H')(hp:Pt 1 H p):Rq H' p rr m xs:=⟨u.st _ _ h.ne h.at',h.ne,λx hx=>let ⟨a,b,c⟩:=h.it x hx;⟨a.bu u hp c,b,c⟩⟩
theorem Rq.same {H H':Hp}{p rr:Addr}{m:Int}{xs:List V}(h:Rq H p rr m xs)(s:ay H H'):Rq H' p rr m xs:=⟨s _ _ h.at',h.ne,λx hx=>let ⟨a,b,c⟩:=h.it x hx;⟨a.same s,b,c⟩⟩
theorem Rq.put {H:Hp}{p rr:Addr}{m:Int}{xs ys:List V}(h:Rq H p rr m xs)(k:∀y∈ys,y∈xs\/(It H m y/\y ≠ .ref rr/\y ≠ .ref p)):Rq (upd H rr (.lst ys)) p rr m ys:=by
 refine ⟨ae,h.ne,λy hy =>?_⟩
 have:It H m y/\y ≠ .ref rr/\y ≠ .ref p:=(k y hy).elim (h.it y) id
 exact ⟨this.1.updd h.at' this.2.1,this.2⟩
theorem Rq.ins {H:Hp}{p rr:Addr}{m:Int}{xs:List V}(h:Rq H p rr m xs){v:V}(hv:It H m v)(n1:v ≠ .ref rr)(n2:v ≠ .ref p)(i:Nat):Rq (upd H rr (.lst (xs.take i++v :: xs.drop i))) p rr m (xs.take i++v :: xs.drop i):=h.put λy hy=>by
 rcases Ax.mp hy with z | z
 ·exact .inl (Cq z)
 ·rcases AH.mp z with rfl | z
  ·exact .inr ⟨hv,n1,n2⟩
  ·exact .inl (CT z)
theorem rH {α:Type}(xs:List α)(v:α)(i:Nat):(xs.take i++v :: xs.drop i).length=xs.length+1:=by
 rw[Am,Ba,Bg,B8];omega
theorem It.listed {H:Hp}{m:Int}{a l:Addr}{ys:List V}(e:H a=some (.tup ys))(hl:H l=none)(i:It H m (.ref a)):It (upd H l (.lst ys)) m (.ref l):=by
 obtain ⟨b,i⟩:=i
 have g:=af hl (.lst ys)
 cases i with
 | flat f=>cases f with | dic q=>rw[e] at q;cases q
 | len q n =>
  rcases q with q | q
  ·rw[e] at q;cases q
  ·rw[e] at q;cases q;exact ⟨_,.len (.inl ae) n⟩
 | pr q hx hy hb =>
  rcases q with q | q
  ·rw[e] at q;cases q
  ·rw[e] at q;cases q;exact ⟨_,.pr (.inl ae) (hx.tp g.tp) (hy.tp g.tp) hb⟩
theorem ze {K:Ab}{H:Hp}{m:Int}{x:V}(i:It H m x):∃t b,cw K H x t/\PySem.W.kitOne K t (.type "tuple")=some b/\(b=true->∃a ys,x = .ref a/\H a=some (.tup ys)):=by
 obtain ⟨b,i⟩:=i
 cases i with
 | flat f =>
  cases f with
  | non=>exact ⟨_,false,.non,rfl,λz=>by cases z⟩
  | bl b=>exact ⟨_,false,.bl b,rfl,λz=>by cases z⟩
  | int i=>exact ⟨_,false,.int i,rfl,λz=>by cases z⟩
  | str s=>exact ⟨_,false,.str s,rfl,λz=>by cases z⟩
  | dic e=>exact ⟨_,false,.dK e,rfl,λz=>by cases z⟩
 | len e n =>
  rcases e with e | e
  ·exact ⟨_,false,.lst e,rfl,λz=>by cases z⟩
  ·exact ⟨_,true,.tup e,rfl,λ_=>⟨_,_,rfl,e⟩⟩
 | pr e hx hy hb =>
  rcases e with e | e
  ·exact ⟨_,false,.lst e,rfl,λz=>by cases z⟩
  ·exact ⟨_,true,.tup e,rfl,λ_=>⟨_,_,rfl,e⟩⟩
abbrev oU:Sp:=λvs H Q _=>∃(p:Addr) (m:Int),vs=[.ref p,.int m]/\Pt 1 H p/\0<=m/\m<=40/\∀(rr:Addr) (xs:List V) H',Bu 1 p H H'->Rq H' p rr m xs->xs.length<=205->Q (.ref rr) H'
@[irreducible] def jA:Sp:=oU
theorem dJ {vs:List V}{H:Hp}{Q:VK}{E:XK}:jA vs H Q E↔oU vs H Q E:=by
 delta jA
 exact Cj
theorem xC {st:Int}{n:Nat}{g:TG}{tb:TS}{D:Ends}{σ:St}{H:Hp}(Pv:St->Hp->Prop)(h0:Pv σ H)
  (hs:∀(i:Nat) σ H,i<n->Pv σ H->g (.int ((i:Nat)*st)) σ H λσ2 H2=>tb { D with nx:=Pv,ct:=Pv,bk:=D.nx } σ2 H2) (hd:∀σ H,Pv σ H->D.nx σ H) :
  ∃W:Nat->Nat->St->Hp->Prop,(∃m,W 0 m σ H)/\∀i m σ H,W i m σ H →
   ((vp st n).stop i H/\D.nx σ H)\/((vp st n).go i H/\∃N:St->Hp->Prop,(∀σ' H',N σ' H'->∃m',m'<m/\W (i+1) m' σ' H')/\∀x H',(vp st n).yld i H x H'->g x σ H' λσ2 H2=>tb { D with nx:=N,ct:=N,bk:=D.nx } σ2 H2):=by
 refine ⟨λi m σ H=>m=n-i/\i<=n/\Pv σ H,⟨n,by simp,A5 _,h0⟩,?_⟩
 rintro i m σ H ⟨rfl,hi,pv⟩
 by_cases c:i<n
 ·refine .inr ⟨c,Pv,λσ' H' p=>⟨n-(i+1),by omega,rfl,c,p⟩,λx H' y =>?_⟩
  obtain ⟨rfl,rfl⟩:=y
  exact hs i σ H' c pv
 ·exact .inl ⟨by show n<=i;omega,hd σ H pv⟩
theorem xD {n k:Nat}(h:k<n):ixN n (k:Int)=some k:=by
 unfold ixN
 simp
 omega
section
variable  {P:Au}{w:AX}{K:Ab}{mg:Str->Option Ae}{base:Heap}{f T:Addr}{fd:Be}
theorem dC:aP ["pot", "many", "row", "turn", "pair", "odd", "at"] ["pot", "many"] (aq iA):=⟨rfl,rfl,rfl,by decide +kernel,rfl,by decide +kernel,by decide +kernel⟩
theorem qx:(["k"]:List Str).Nodup:=by decide +kernel
theorem vJ (F:Fun K "_law_pairs" "_law_pairs" iA f fd)(B:Blt mg)(cLTake:Cal P w K mg base 1 "_law_take" ["pot", "many"] gQ)(C:Cst mg):bC P w K mg base CX0 2 f fd ["pot", "many"] jA:=by
 refine F.ok dC (λvs H Q E h =>?_) (λcdv A outer s H vs Q E hr h =>?_)
 ·obtain ⟨_,_,rfl,_⟩:=dJ.mp h
  rfl
 obtain ⟨p,m,rfl,hp,m0,m1,q⟩:=dJ.mp h
 refine lY ((bG iA).drop 5) (λσ H'=>∃(rr:Addr) (xs:List V) (c3 c4 c5 c6:Option V),σ=[some (.ref p),some (.int m),some (.ref rr),c3,c4,c5,c6]/\Bu 1 p H H'/\H rr=none/\Rq H' p rr m xs/\xs.length<=204) ?hC λtC pC mC =>?gC
 case hC =>
  refine ⟨_,(@ai _ _ _ _ _ (@fz _ _ _ _ _ _ _ _ CY rfl (tN rfl B.b_range (@aa _ _ _ _ _ ah (@aa _ _ _ _ _ (aj aO rfl B.b_len cc (@aa _ _ _ _ _ (pv 2) ag rfl)) (@aa _ _ _ _ _ (@ba _ _ _ _ _ _ _ _ eL ah (aG cLTake hr (by decide) rfl (@aa _ _ _ _ _ (pv 0) (@aa _ _ _ _ _ ah ag rfl) rfl))) ag rfl) rfl) rfl)) (aQ (i:=6) dC.nd rfl (Or.inl rfl))
   (@ao _ _ _ (@bz _ _ _ _ _ _ _ _ (bJ (aj bV rfl B.b_isinstance av (@aa _ _ _ _ _ (@aJ _ _ _ _ _ _ _ cY (pv 2) (pv 6) (λ_ _=>rfl)) (@aa _ _ _ _ _ (bI (v :=.ty "tuple") rfl B.b_tuple aM rfl) ag rfl) rfl))) (@ao _ _ _ (@ph _ _ _ _ _ _ (aD eN rfl B.b_list dG (@aa _ _ _ _ _ (@aJ _ _ _ _ _ _ _ cY (pv 2) (pv 6) (λ_ _=>rfl)) ag rfl)) (t7 (pv 2) (pv 6) set_list) rfl rfl rfl)) aL)) (λ_=>rfl))
  (@ao _ _ _ (@aV _ _ _ _ (pv 2)))),?_⟩
  rintro σ H1 ⟨rr,xs,c3,c4,c5,c6,rfl,u1,hrr,R,l1⟩
  have np:=R.ne
  refine ⟨_,rfl,rr,_,rfl,.inl (SqL.of R.at'),_,rfl,aB.mpr ⟨p,3,rfl,u1.pot,by decide,by decide,λd H2 d0 d1 u2=>⟨_,_,rfl,rfl,(xs.length:Int),2+d,rfl,⟨by omega,by omega,by omega,by omega⟩,λn hn =>?_⟩⟩⟩
  refine xC (λσ H'=>(∃c6',σ=[some (.ref p),some (.int m),some (.ref rr),c3,c4,c5,c6'])/\Bu 1 p H H'/\∃ys,Rq H' p rr m ys/\ys.length=xs.length) ⟨⟨_,rfl⟩,u1.trans u2,xs,R.bu u2 u1.pot,rfl⟩ ?_ ?_
  ·rintro i σ G hi ⟨⟨c6',rfl⟩,uG,ys,RG,ly⟩
   have lt:(i:Int)*(2+d)<xs.length:=hn i hi
   have ge:0<=(i:Int)*(2+d):=Int.mul_nonneg (by omega) (by omega)
   obtain ⟨k,ek⟩:∃k:Nat,(i:Int)*(2+d)=k:=⟨((i:Int)*(2+d)).toNat,by omega⟩
   rw[ek]
   have hk:k<ys.length:=by omega
   have ey:ys[k]? = some ys[k]:=Aw hk
   obtain ⟨it,nr,npp⟩:=RG.it _ (CJ hk)
   obtain ⟨t,b,ty,kt,tp⟩:=ze (K:=K) it
   refine ⟨_,rfl,_,rfl,rr,_,k,_,rfl,rfl,SqL.of RG.at',bN ey,_, "tuple",t,b,rfl,ty,kt,_,rfl,?_⟩
   cases b with
   | false=>exact aH ⟨⟨_,rfl⟩,uG,ys,RG,ly⟩
   | true =>
    obtain ⟨a,zs,ea,ez⟩:=tp rfl
    rw[ea] at it nr npp ey
    refine aR ⟨_,rfl,_,rfl,rr,_,k,_,rfl,rfl,SqL.of RG.at',bN ey,a,_,rfl,.inr (SqT.of ez),λl hl =>?_⟩
    have g:=af hl (.lst zs)
    have il:=it.listed ez hl
    have R2:=RG.same g
    have nl:l≠rr:=Ca (aA RG.at' hl)
    have nlp:l≠p:=uG.pot.ne hl
    have u2:=uG.same g
    generalize upd G l (.lst zs)=G2 at g il R2 u2
    refine ⟨_,rfl,_,rfl,rr,_,k,k,rfl,rfl,R2.at',xD hk,⟨_,rfl⟩,u2.jX hrr R2.ne _,ys.set k (.ref l),R2.put λy hy =>?_,by rw[Hl];exact ly⟩
    rcases List.mem_or_eq_of_mem_set hy with z | z
    ·exact .inl z
    ·rw[z];exact .inr ⟨il,λq=>nl (V.ref.inj q),λq=>nlp (V.ref.inj q)⟩
  ·rintro σ G ⟨⟨c6',rfl⟩,uG,ys,RG,ly⟩
   exact ⟨_,rfl,q rr ys _ uG RG (by omega)⟩
 case gC =>
 refine lY ((bG iA).drop 4) (λσ H'=>∃(rr:Addr) (xs:List V) (c3 c4 c5 c6:Option V),σ=[some (.ref p),some (.int m),some (.ref rr),c3,c4,c5,c6]/\Bu 1 p H H'/\H rr=none/\Rq H' p rr m xs/\xs.length<=203) ?hB λtB pB mB =>?gB
 case hB =>
  refine ⟨_,(@ai _ _ _ _ _ (@bz _ _ _ _ _ _ _ _ (PW.pt (iJ (aE (yS hr) (pv 2) (@dM _ _ _ _ ag) (aN _)) (fV (aE fq (aG cLTake hr (by decide) rfl (@aa _ _ _ _ _ (pv 0) (@aa _ _ _ _ _ ah ag rfl) rfl)) ah (aN _))))) (@ao _ _ _ (hX (nE Ct E4 E5 lh (pv 2) (@aa _ _ _ _ _ (aG cLTake hr (by decide) rfl (@aa _ _ _ _ _ (pv 0) (@aa _ _ _ _ _ (@ba _ _ _ _ _ _ _ _ eL (aj aO rfl B.b_len cc (@aa _ _ _ _ _ (pv 2) ag rfl)) ah) ag rfl) rfl)) (@aa _ _ _ _ _ (@aJ _ _ _ _ _ _ _ cY (pv 2) (aG cLTake hr (by decide) rfl (@aa _ _ _ _ _ (pv 0) (@aa _ _ _ _ _ (aj aO rfl B.b_len cc (@aa _ _ _ _ _ (pv 2) ag rfl)) ag rfl) rfl)) (λ_ _=>rfl)) ag rfl) rfl)))) aL)
  pC),?_⟩
  rintro σ H1 ⟨rr,xs,c3,c4,c5,c6,rfl,u1,hrr,R,l1⟩
  refine ⟨_,rfl,(by show 0<=Ai;decide),λz hz =>?_⟩
  have g:=af hz (.lst [])
  have ez:upd H1 z (.lst []) z=some (.lst []):=ae
  have R:=R.same g
  have u1:=u1.same g
  generalize upd H1 z (.lst [])=H2 at g ez R u1
  refine ⟨rr,z,xs,rfl,rfl,R.at',ez,λxz=>⟨_,rfl,aH (mC _ _ ⟨rr,xs,_,_,_,_,rfl,u1,hrr,R,by omega⟩)⟩,λxz=>⟨_,rfl,aR ?_⟩⟩
  refine ⟨_,rfl,aB.mpr ⟨p,5,rfl,u1.pot,by decide,by decide,λd H3 d0 d1 u3=>⟨rfl,_,rfl,?_⟩⟩⟩
  have R3:=R.bu u3 u1.pot
  have u13:=u1.trans u3
  by_cases c:d=0
  rotate_left
  ·rw[decide_eq_false (λz=>c (V.int.inj z))]
   exact aH (mC _ _ ⟨rr,xs,_,_,_,_,rfl,u13,hrr,R3,by omega⟩)
  rw[decide_eq_true (by rw[c])]
  have lp:=F4.mpr xz
  refine aR ⟨_,rfl,.inl ⟨rfl,_,SqL.of R3.at'⟩,_,rfl,_,rfl,rr,_,rfl,.inl (SqL.of R3.at'),_,_,rfl,rfl,aB.mpr ⟨p,_,rfl,u13.pot,by omega,by omega,λe H4 e0 e1 u4 =>?_⟩⟩
  have R4:=R3.bu u4 u13.pot
  have u14:=u13.trans u4
  refine ⟨_,rfl,_,rfl,_,rfl,rr,_,rfl,.inl (SqL.of R4.at'),aB.mpr ⟨p,_,rfl,u14.pot,by omega,by omega,λf H5 f0 f1 u5 =>?_⟩⟩
  have R5:=R4.bu u5 u14.pot
  have u15:=u14.trans u5
  obtain ⟨k,rfl⟩:∃k:Nat,f=k:=⟨f.toNat,by omega⟩
  have hk:k<xs.length:=by omega
  have ey:xs[k]? = some xs[k]:=Aw hk
  obtain ⟨it,nr,npp⟩:=R5.it _ (CJ hk)
  refine ⟨rr,_,k,_,rfl,rfl,SqL.of R5.at',bN ey,rr,xs,e,_,rfl,rfl,R5.at',e0,by omega,cp (by omega),?_⟩
  exact mC _ _ ⟨rr,_,_,_,_,_,rfl,u15.jX hrr R5.ne _,hrr,R5.ins it nr npp e.toNat,by rw[rH];omega⟩
 case gB =>
 refine qw (λσ H'=>∃(rr:Addr) (xs:List V) (c3 c4 c5 c6:Option V),σ=[some (.ref p),some (.int m),some (.ref rr),c3,c4,c5,c6]/\Bu 1 p H H'/\H rr=none/\Rq H' p rr m xs/\xs.length<=202) ⟨_,λtA pA mA=>⟨_,(@ai _ _ _ _ _ (eS (i:=2) ["k"] [none] rfl dC.nd rfl rfl (bR rfl B.b_range (@aa _ _ _ _ _ (@ba _ _ _ _ _ _ _ _ eL ah (aG cLTake hr (by decide) rfl (@aa _ _ _ _ _ (pv 0) (@aa _ _ _ _ _ ah ag rfl) rfl))) ag rfl)) rfl (λ_ _ _ _ _=>(aQ (i:=0) qx rfl (Or.inl rfl))) (λ_ _ _ _ _=>dN) (λ_ _ _ _ _=>(@aF _ _ _ _ _ (@aa _ _ _ _ _ (@ba _ _ _ _ _ _ _ _ mi (pv 0) ah) (@aa _ _ _ _ _ (@ba _ _ _ _ _ _ _ _ gJ (pv 0) ah) ag rfl) rfl))))
  (@ai _ _ _ _ _ (@bz _ _ _ _ _ _ _ _ (PW.pt (dX (aE qI (pv 1) ah (aN _)) (di (aE fq (aG cLTake hr (by decide) rfl (@aa _ _ _ _ _ (pv 0) (@aa _ _ _ _ _ ah ag rfl) rfl)) ah (aN _))))) (@ai _ _ _ _ _ (@aX _ _ 2 _ _ _ _ dC.nd rfl (Or.inl rfl) (@dM _ _ _ _ ag) rfl (by first | exact .inl rfl | exact .inr rfl | assumption))
   (@ao _ _ _ (@fz _ _ _ _ _ _ _ _ CY rfl (bR rfl B.b_range (@aa _ _ _ _ _ (@ba _ _ _ _ _ _ _ _ gI (aG cLTake hr (by decide) rfl (@aa _ _ _ _ _ (pv 0) (@aa _ _ _ _ _ ah ag rfl) rfl)) (aD d7 rfl B.b_int gN (@aa _ _ _ _ _ (cX kR (pv 1) ah (aN _)) ag rfl))) ag rfl)) (aQ (i:=3) dC.nd rfl (Or.inl rfl))
    (@ai _ _ _ _ _ (@aX _ _ 4 _ _ _ _ dC.nd rfl (Or.inl rfl) (@aF _ _ _ _ _ (@aa _ _ _ _ _ (aG cLTake hr (by decide) rfl (@aa _ _ _ _ _ (pv 0) (@aa _ _ _ _ _ (pv 1) ag rfl) rfl)) (@aa _ _ _ _ _ (aG cLTake hr (by decide) rfl (@aa _ _ _ _ _ (pv 0) (@aa _ _ _ _ _ (pv 1) ag rfl) rfl)) ag rfl) rfl)) rfl (by first | exact .inl rfl | exact .inr rfl | assumption))
    (@ao _ _ _ (@bz _ _ _ _ _ _ _ _ (aE (qd (hu8 hr)) (pv 4) (pv 2) rfl) (@ao _ _ _ (hX (nE Ct E2 E3 k7 (pv 2) (@aa _ _ _ _ _ (pv 4) ag rfl)))) aL))) (λ_=>rfl)))) aL)
  pA)),?gA⟩,?hA⟩
 case hA =>
  refine ⟨_,(@ai _ _ _ _ _ (@aX _ _ 5 _ _ _ _ dC.nd rfl (Or.inl rfl) (@aF _ _ _ _ _ (@aa _ _ _ _ _ gF (@aa _ _ _ _ _ cj (@aa _ _ _ _ _ (@aF _ _ _ _ _ ag) (@aa _ _ _ _ _ (@aF _ _ _ _ _ (@aa _ _ _ _ _ ah ag rfl)) (@aa _ _ _ _ _ (@aF _ _ _ _ _ (@aa _ _ _ _ _ ah (@aa _ _ _ _ _ ah (@aa _ _ _ _ _ ah ag rfl) rfl) rfl)) (@aa _ _ _ _ _ (@aF _ _ _ _ _ (@aa _ _ _ _ _ ah (@aa _ _ _ _ _ (pv 1) ag rfl) rfl)) (@aa _ _ _ _ _ (@aF _ _ _ _ _ (@aa _ _ _ _ _ (qD mj ah) (@aa _ _ _ _ _ ah ag rfl) rfl)) (@aa _ _ _ _ _ (@aF _ _ _ _ _ (@aa _ _ _ _ _ hW (@aa _ _ _ _ _ ah ag rfl) rfl)) (@aa _ _ _ _ _ gF (@aa _ _ _ _ _ (@dM _ _ _ _ (@aa _ _ _ _ _ ah ag rfl)) (@aa _ _ _ _ _ ah (@aa _ _ _ _ _ n8 (@aa _ _ _ _ _ (@aF _ _ _ _ _ (@aa _ _ _ _ _ ah (@aa _ _ _ _ _ cj ag rfl) rfl)) (@aa _ _ _ _ _ (@aF _ _ _ _ _ (@aa _ _ _ _ _ (@aF _ _ _ _ _ (@aa _ _ _ _ _ ah ag rfl)) (@aa _ _ _ _ _ ah ag rfl) rfl)) ag rfl) rfl) rfl) rfl) rfl) rfl) rfl) rfl) rfl) rfl) rfl) rfl) rfl) rfl)) rfl (by first | exact .inl rfl | exact .inr rfl | assumption))
  (@ai _ _ _ _ _ (@bz _ _ _ _ _ _ _ _ (aE fq (aG cLTake hr (by decide) rfl (@aa _ _ _ _ _ (pv 0) (@aa _ _ _ _ _ ah ag rfl) rfl)) ah (aN _)) (@ao _ _ _ (hX (nE Ct E4 E5 lh (pv 2) (@aa _ _ _ _ _ (aG cLTake hr (by decide) rfl (@aa _ _ _ _ _ (pv 0) (@aa _ _ _ _ _ (@ba _ _ _ _ _ _ _ _ eL (aj aO rfl B.b_len cc (@aa _ _ _ _ _ (pv 2) ag rfl)) ah) ag rfl) rfl)) (@aa _ _ _ _ _ (@aJ _ _ _ _ _ _ _ aS (pv 5) (aG cLTake hr (by decide) rfl (@aa _ _ _ _ _ (pv 0) (@aa _ _ _ _ _ ah ag rfl) rfl)) (λ_ _=>rfl)) ag rfl) rfl)))) aL)
  pB)),?_⟩
  rintro σ G0 ⟨rr,xs,c3,c4,c5,c6,rfl,u1,hrr,R,l1⟩
  refine ⟨(by show 0<=Ai;decide),λp0 h0 =>?_⟩
  try dsimp only
  have s0:=af h0 (.tup [])
  have e0:upd G0 p0 (.tup []) p0=some (.tup []):=ae
  generalize upd G0 p0 (.tup [])=O0 at s0 e0
  refine ⟨(by show 1<=Ai;decide),λp1 h1 =>?_⟩
  try dsimp only
  have s1:=af h1 (.tup [.int 0])
  have e1:upd O0 p1 (.tup [.int 0]) p1=some (.tup [.int 0]):=ae
  generalize upd O0 p1 (.tup [.int 0])=O1 at s1 e1
  refine ⟨(by show 3<=Ai;decide),λp2 h2 =>?_⟩
  try dsimp only
  have s2:=af h2 (.tup [.int 0,.int 0,.int 0])
  have e2:upd O1 p2 (.tup [.int 0,.int 0,.int 0]) p2=some (.tup [.int 0,.int 0,.int 0]):=ae
  generalize upd O1 p2 (.tup [.int 0,.int 0,.int 0])=O2 at s2 e2
  refine ⟨_,rfl,(by show 2<=Ai;decide),λp3 h3 =>?_⟩
  try dsimp only
  have s3:=af h3 (.tup [.int 0,.int m])
  have e3:upd O2 p3 (.tup [.int 0,.int m]) p3=some (.tup [.int 0,.int m]):=ae
  generalize upd O2 p3 (.tup [.int 0,.int m])=O3 at s3 e3
  refine ⟨_,rfl,(by show 2<=Ai;decide),λp4 h4 =>?_⟩
  try dsimp only
  have s4:=af h4 (.tup [.int (-1),.int 0])
  have e4:upd O3 p4 (.tup [.int (-1),.int 0]) p4=some (.tup [.int (-1),.int 0]):=ae
  generalize upd O3 p4 (.tup [.int (-1),.int 0])=O4 at s4 e4
  refine ⟨(by show 2<=Ai;decide),λp5 h5 =>?_⟩
  try dsimp only
  have s5:=af h5 (.tup [.bl true,.int 0])
  have e5:upd O4 p5 (.tup [.bl true,.int 0]) p5=some (.tup [.bl true,.int 0]):=ae
  generalize upd O4 p5 (.tup [.bl true,.int 0])=O5 at s5 e5
  refine ⟨(by show 1<=Ai;decide),λp6 h6 =>?_⟩
  try dsimp only
  have s6:=af h6 (.lst [.int 0])
  have e6:upd O5 p6 (.lst [.int 0]) p6=some (.lst [.int 0]):=ae
  generalize upd O5 p6 (.lst [.int 0])=O6 at s6 e6
  refine λp7 h7 =>?_
  have s7:=af h7 (.dK [])
  have e7:upd O6 p7 (.dK []) p7=some (.dK []):=ae
  generalize upd O6 p7 (.dK [])=O7 at s7 e7
  refine ⟨(by show 2<=Ai;decide),λp8 h8 =>?_⟩
  try dsimp only
  have s8:=af h8 (.tup [.int 0,.non])
  have e8:upd O7 p8 (.tup [.int 0,.non]) p8=some (.tup [.int 0,.non]):=ae
  generalize upd O7 p8 (.tup [.int 0,.non])=O8 at s8 e8
  refine ⟨(by show 1<=Ai;decide),λp9 h9 =>?_⟩
  try dsimp only
  have s9:=af h9 (.tup [.int 0])
  have e9:upd O8 p9 (.tup [.int 0]) p9=some (.tup [.int 0]):=ae
  generalize upd O8 p9 (.tup [.int 0])=O9 at s9 e9
  refine ⟨(by show 2<=Ai;decide),λp10 h10 =>?_⟩
  try dsimp only
  have s10:=af h10 (.tup [.ref p9,.int 0])
  have e10:upd O9 p10 (.tup [.ref p9,.int 0]) p10=some (.tup [.ref p9,.int 0]):=ae
  generalize upd O9 p10 (.tup [.ref p9,.int 0])=O10 at s10 e10
  refine ⟨(by show 14<=Ai;decide),λp11 h11 =>?_⟩
  try dsimp only
  have s11:=af h11 (.tup [.str "",.non,.ref p0,.ref p1,.ref p2,.ref p3,.ref p4,.ref p5,.str "ab",.ref p6,.int 7,.ref p7,.ref p8,.ref p10])
  have e11:upd O10 p11 (.tup [.str "",.non,.ref p0,.ref p1,.ref p2,.ref p3,.ref p4,.ref p5,.str "ab",.ref p6,.int 7,.ref p7,.ref p8,.ref p10]) p11=some (.tup [.str "",.non,.ref p0,.ref p1,.ref p2,.ref p3,.ref p4,.ref p5,.str "ab",.ref p6,.int 7,.ref p7,.ref p8,.ref p10]):=ae
  generalize upd O10 p11 (.tup [.str "",.non,.ref p0,.ref p1,.ref p2,.ref p3,.ref p4,.ref p5,.str "ab",.ref p6,.int 7,.ref p7,.ref p8,.ref p10])=O11 at s11 e11
  have S11:=ay.refl O11
  have S10:=s11.trans S11
  have S9:=s10.trans S10
  have S8:=s9.trans S9
  have S7:=s8.trans S8
  have S6:=s7.trans S7
  have S5:=s6.trans S6
  have S4:=s5.trans S5
  have S3:=s4.trans S4
  have S2:=s3.trans S3
  have S1:=s2.trans S2
  have S0:=s1.trans S1
  have sA:ay G0 O11:=s0.trans S0
  have e0:=S0 _ _ e0
  have e1:=S1 _ _ e1
  have e2:=S2 _ _ e2
  have e3:=S3 _ _ e3
  have e4:=S4 _ _ e4
  have e5:=S5 _ _ e5
  have e6:=S6 _ _ e6
  have e7:=S7 _ _ e7
  have e8:=S8 _ _ e8
  have e9:=S9 _ _ e9
  have e10:=S10 _ _ e10
  have N0:=ay.refl G0
  have N1:=N0.trans s0
  have N2:=N1.trans s1
  have N3:=N2.trans s2
  have N4:=N3.trans s3
  have N5:=N4.trans s4
  have N6:=N5.trans s5
  have N7:=N6.trans s6
  have N8:=N7.trans s7
  have N9:=N8.trans s8
  have N10:=N9.trans s9
  have N11:=N10.trans s10
  have R1:=R.same sA
  have u2:=u1.same sA
  have hI:∀x∈([.str "",.non,.ref p0,.ref p1,.ref p2,.ref p3,.ref p4,.ref p5,.str "ab",.ref p6,.int 7,.ref p7,.ref p8,.ref p10]:List V),It O11 m x/\x ≠ .ref rr/\x ≠ .ref p:=by
   have nx:∀{q:Addr} {G:Hp},ay G0 G->G q=none->q≠rr/\q≠p:=λ{q G} s e=>⟨λz=>(by rw[z,s _ _ R.at'] at e;cases e),λz=>(by obtain ⟨w,_,q'⟩:=u1.pot;rw[z,s _ _ q'] at e;cases e)⟩
   have mk:∀{q:Addr} {G:Hp},ay G0 G->G q=none->It O11 m (.ref q)->It O11 m (.ref q)/\V.ref q ≠ .ref rr/\V.ref q ≠ .ref p:=λ{q G} s e i=>⟨i,λz=>(nx s e).1 (V.ref.inj z),λz=>(nx s e).2 (V.ref.inj z)⟩
   have fl:∀{x:V},Flt O11 x->(∀a,x ≠ .ref a)->It O11 m x/\x ≠ .ref rr/\x ≠ .ref p:=λ{x} f n=>⟨⟨_,.flat f⟩,n _,n _⟩
   intro x hx
   simp only[AH,B9,or_false] at hx
   rcases hx with rfl | rfl | rfl | rfl | rfl | rfl | rfl | rfl | rfl | rfl | rfl | rfl | rfl | rfl
   ·exact fl (.str _) λa z=>by cases z
   ·exact fl .non λa z=>by cases z
   ·exact mk N0 h0 ⟨_,.len (.inr e0) (by decide)⟩
   ·exact mk N1 h1 ⟨_,.len (.inr e1) (by decide)⟩
   ·exact mk N2 h2 ⟨_,.len (.inr e2) (by decide)⟩
   ·exact mk N3 h3 ⟨_,.pr (.inr e3) (.int _) (.int _) rfl⟩
   ·exact mk N4 h4 ⟨_,.pr (.inr e4) (.int _) (.int _) rfl⟩
   ·exact mk N5 h5 ⟨_,.pr (.inr e5) (.bl _) (.int _) rfl⟩
   ·exact fl (.str _) λa z=>by cases z
   ·exact mk N6 h6 ⟨_,.len (.inl e6) (by decide)⟩
   ·exact fl (.int _) λa z=>by cases z
   ·exact mk N7 h7 ⟨_,.flat (.dic e7)⟩
   ·exact mk N8 h8 ⟨_,.pr (.inr e8) (.int _) .non rfl⟩
   ·exact mk N10 h10 ⟨_,.pr (.inr e10) (.tup e9) (.int _) rfl⟩
  refine ⟨_,rfl,aB.mpr ⟨p,3,rfl,u2.pot,by decide,by decide,λd H3 d0 d1 u3=>⟨rfl,_,rfl,?_⟩⟩⟩
  have R3:=R1.bu u3 u2.pot
  have u13:=u2.trans u3
  by_cases c:d=0
  rotate_left
  ·rw[decide_eq_false (λz=>c (V.int.inj z))]
   exact aH (mB _ _ ⟨rr,xs,_,_,_,_,rfl,u13,hrr,R3,by omega⟩)
  rw[decide_eq_true (by rw[c])]
  refine aR ⟨_,rfl,.inl ⟨rfl,_,SqL.of R3.at'⟩,_,rfl,_,rfl,rr,_,rfl,.inl (SqL.of R3.at'),_,_,rfl,rfl,aB.mpr ⟨p,_,rfl,u13.pot,by omega,by omega,λe H4 e0' e1' u4 =>?_⟩⟩
  have R4:=R3.bu u4 u13.pot
  have u14:=u13.trans u4
  refine ⟨_,rfl,_,rfl,aB.mpr ⟨p,14,rfl,u14.pot,by decide,by decide,λf H5 f0 f1 u5 =>?_⟩⟩
  have R5:=R4.bu u5 u14.pot
  have u15:=u14.trans u5
  have u35:=u3.trans (u4.trans u5)
  obtain ⟨k,rfl⟩:∃k:Nat,f=k:=⟨f.toNat,by omega⟩
  have ln:k<([.str "",.non,.ref p0,.ref p1,.ref p2,.ref p3,.ref p4,.ref p5,.str "ab",.ref p6,.int 7,.ref p7,.ref p8,.ref p10]:List V).length:=by show k<14;omega
  obtain ⟨i1,i2,i3⟩:=hI _ (CJ ln)
  have np11:p11≠p:=u1.pot.same N11 |>.ne h11
  exact ⟨p11,_,k,_,rfl,rfl,SqT.of (u35.st _ _ np11 e11),bN (Aw ln),rr,xs,e,_,rfl,rfl,R5.at',e0',by omega,cp (by omega),mB _ _ ⟨rr,_,_,_,_,_,rfl,u15.jX hrr R5.ne _,hrr,R5.ins (i1.bu u35 u2.pot i3) i2 i3 e.toNat,by rw[rH];omega⟩⟩
 case gA =>
 refine ⟨_,rfl,aB.mpr ⟨p,4,rfl,hp,by decide,by decide,λd H1 d0 d1 u1=>⟨_,_,rfl,rfl,199+d,rfl,by omega,by omega,?_⟩⟩⟩
 obtain ⟨N,hN⟩:∃N:Nat,199+d=N:=⟨(199+d).toNat,by omega⟩
 rw[hN,Bb]
 refine cK (λi ys H'=>Bu 1 p H H'/\ys.length=i/\∀y∈ys,∃a i j,y = .ref a/\H' a=some (.tup [.int i,.int j])) ⟨u1,rfl,λy hy=>by cases hy⟩ (small (by omega)) ?_ ?_
 ·rintro i ys G hi hy ⟨uG,ly,hys⟩ R1 R0 r1 r0
  refine aR ⟨_,rfl,_,_,rfl,rfl,⟨by decide,by decide⟩,_,rfl,_,_,rfl,rfl,(by show (0:Int)<20;decide),(by show 2<=Ai;decide),λa ha=>r1 _ _ ⟨uG.same (af ha _),by rw[Am,ly];rfl,λy hy =>?_⟩⟩
  rcases Ax.mp hy with z | z
  ·obtain ⟨b,i,j,rfl,e⟩:=hys y z
   exact ⟨b,i,j,rfl,(af ha _) _ _ e⟩
  ·rw[AB] at z;subst z;exact ⟨a,_,_,rfl,ae⟩
 rintro ys G hy ⟨uG,ly,hys⟩ l hl
 have nl:l≠p:=uG.pot.ne hl
 have hHl:H l=none:=by
  cases e:H l with
  | none=>rfl
  | some o=>rw[uG.st _ _ nl e] at hl;cases hl
 have g:=af hl (.lst ys)
 have el:upd G l (.lst ys) l=some (.lst ys):=ae
 have u2:=uG.same g
 have hys:∀y∈ys,∃a i j,y = .ref a/\upd G l (.lst ys) a=some (.tup [.int i,.int j]):=λy hy=>by
  obtain ⟨a,i,j,e1,e2⟩:=hys y hy
  exact ⟨a,i,j,e1,g _ _ e2⟩
 generalize upd G l (.lst ys)=G1 at g el u2 hys
 have R:Rq G1 p l m ys:=⟨el,nl,λy hy=>by
  obtain ⟨a,i,j,rfl,e⟩:=hys y hy
  exact ⟨⟨_,.pr (.inr e) (.int _) (.int _) rfl⟩,λz=>(by rw[V.ref.inj z,el] at e;cases e),λz=>u2.pot.neT e (V.ref.inj z)⟩⟩
 refine ⟨_,rfl,rfl,_,rfl,?_⟩
 by_cases c:m=40
 ·rw[decide_eq_true (show V.int m=V.int 40 by rw[c])]
  refine aH ⟨_,rfl,aB.mpr ⟨p,2,rfl,u2.pot,by decide,by decide,λe G2 e0 e1 u3=>⟨rfl,_,rfl,?_⟩⟩⟩
  have u23:=u2.trans u3
  by_cases c2:e=0
  rotate_left
  ·rw[decide_eq_false (λz=>c2 (V.int.inj z))]
   exact aH (mA _ _ ⟨l,ys,_,_,_,_,rfl,u23,hHl,R.bu u3 u2.pot,by omega⟩)
  rw[decide_eq_true (by rw[c2])]
  refine aR ?_
  refine ⟨(by show 0<=Ai;decide),λr2 hr2 =>?_⟩
  have nr2:r2≠p:=u23.pot.ne hr2
  have hH2:H r2=none:=by
   cases e:H r2 with
   | none=>rfl
   | some o=>rw[u23.st _ _ nr2 e] at hr2;cases hr2
  have g:=af hr2 (.lst [])
  have er2:upd G2 r2 (.lst []) r2=some (.lst (([]:List (Addr×List Int)).map λu =>.ref u.1)):=ae
  have v1:=u23.same g
  generalize upd G2 r2 (.lst [])=J0 at g er2 v1
  refine ⟨_,rfl,aB.mpr ⟨p,10,rfl,v1.pot,by decide,by decide,λn J1 n0 n1 w1 =>?_⟩⟩
  have v2:=v1.trans w1
  refine ⟨_,rfl,_,_,rfl,rfl,.inr ⟨_,rfl,_,_,rfl,rfl,.inl ⟨by omega,by omega⟩,?_⟩⟩
  obtain ⟨N,hN,N0,N1,N2⟩:∃N:Int,n*(if decide (m>0)=true then 1 else 0)=N/\0<=N/\N<=9/\(0<N->0<m):=by
   refine ⟨_,rfl,?_⟩
   by_cases c:m>0
   ·rw[decide_eq_true c,if_pos rfl];omega
   ·rw[decide_eq_false c,if_neg Ao];omega
  refine ⟨N,congrArg (λx=>[V.int x]) hN,by omega,by omega,cy (λk σ H'=>(∃c3 c4 c5 c6,σ=[some (.ref p),some (.int m),some (.ref r2),c3,c4,c5,c6])/\Bu 1 p H H'/\∃us:List (Addr×List Int),H' r2=some (.lst (us.map λu =>.ref u.1))/\Tus H' us/\(∀u∈us,u.2.length=2)/\us.length<=k) ⟨⟨_,_,_,_,rfl⟩,v2,[],w1.st _ _ nr2 er2,λu hu=>(by cases hu),λu hu=>(by cases hu),A5 _⟩ ?_ ?_⟩
  ·rintro k σ J2 hk ⟨⟨c3,c4,c5,c6,rfl⟩,uJ,us,el,tu,tw,lu⟩
   have hm:0<m:=N2 (by omega)
   refine ⟨_,rfl,_,rfl,aB.mpr ⟨p,m,rfl,uJ.pot,by omega,by omega,λx J3 x0 x1 w3 =>?_⟩⟩
   have u3:=uJ.trans w3
   refine ⟨_,rfl,_,rfl,aB.mpr ⟨p,m,rfl,u3.pot,by omega,by omega,λy J4 y0 y1 w4 =>?_⟩⟩
   have u4:=u3.trans w4
   have w34:=w3.trans w4
   have el:=w34.st _ _ nr2 el
   have tu:=tu.bu w34 uJ.pot
   refine ⟨(by show 2<=Ai;decide),λt ht =>?_⟩
   have g4:=af ht (.tup ([x,y].map V.int))
   have et:upd J4 t (.tup ([x,y].map V.int)) t=some (.tup ([x,y].map V.int)):=ae
   have el:=g4 _ _ el
   have tu:=tu.same g4
   have u5:=u4.same g4
   rw[show [V.int x,V.int y]=[x,y].map V.int from rfl]
   generalize upd J4 t (.tup ([x,y].map V.int))=J5 at g4 et el tu u5
   refine ⟨_,rfl,_,rfl,r2,t,us,[x,y],rfl,rfl,el,tu,et,_,rfl,uu (λz =>?_) λz=>⟨⟨_,_,_,_,rfl⟩,u5,us,el,tu,tw,by omega⟩⟩
   refine ⟨_,rfl,.inl ⟨rfl,_,SqL.of el⟩,_,rfl,r2,_,_,rfl,rfl,el,by rw[Ac];exact cp (by omega),⟨_,_,_,_,rfl⟩,u5.jX hH2 nr2 _,us++[(t,[x,y])],by rw[ae,Ap];rfl,λu hu =>?_,λu hu =>?_,by rw[Am];show _+1<=_;omega⟩
   ·have nt:∀{b:Addr} {ys:List V},J5 b=some (.tup ys)->upd J5 r2 (.lst ((us.map λu=>V.ref u.1)++[.ref t])) b=some (.tup ys):=λ{b ys} e=>by
     rw[au (jC e el (by intro z;cases z))];exact e
    rcases Ax.mp hu with w | w
    ·exact nt (tu u w)
    ·rw[AB] at w;subst w;exact nt et
   ·rcases Ax.mp hu with w | w
    ·exact tw u w
    ·rw[AB] at w;subst w;rfl
  ·rintro σ J2 ⟨⟨c3,c4,c5,c6,rfl⟩,uJ,us,el,tu,tw,lu⟩
   refine mA _ _ ⟨r2,_,_,_,_,_,rfl,uJ,hH2,⟨el,nr2,λx hx =>?_⟩,by rw[Ac];omega⟩
   obtain ⟨u,hu,rfl⟩:=AG.mp hx
   have eu:=tu u hu
   have l2:=tw u hu
   obtain ⟨a,v⟩:=u
   match v,l2 with
   | [i,j],_ =>
    exact ⟨⟨_,.pr (.inr eu) (.int i) (.int j) rfl⟩,λz=>(by rw[V.ref.inj z,el] at eu;cases eu),λz=>uJ.pot.neT eu (V.ref.inj z)⟩
 ·rw[decide_eq_false (λz=>c (V.int.inj z))]
  refine aR ?_
  refine ⟨(by show 0<=Ai;decide),λr2 hr2 =>?_⟩
  have nr2:r2≠p:=u2.pot.ne hr2
  have hH2:H r2=none:=by
   cases e:H r2 with
   | none=>rfl
   | some o=>rw[u2.st _ _ nr2 e] at hr2;cases hr2
  have g:=af hr2 (.lst [])
  have er2:upd G1 r2 (.lst []) r2=some (.lst (([]:List (Addr×List Int)).map λu =>.ref u.1)):=ae
  have v1:=u2.same g
  generalize upd G1 r2 (.lst [])=J0 at g er2 v1
  refine ⟨_,rfl,aB.mpr ⟨p,10,rfl,v1.pot,by decide,by decide,λn J1 n0 n1 w1 =>?_⟩⟩
  have v2:=v1.trans w1
  refine ⟨_,rfl,_,_,rfl,rfl,.inr ⟨_,rfl,_,_,rfl,rfl,.inl ⟨by omega,by omega⟩,?_⟩⟩
  obtain ⟨N,hN,N0,N1,N2⟩:∃N:Int,n*(if decide (m>0)=true then 1 else 0)=N/\0<=N/\N<=9/\(0<N->0<m):=by
   refine ⟨_,rfl,?_⟩
   by_cases c:m>0
   ·rw[decide_eq_true c,if_pos rfl];omega
   ·rw[decide_eq_false c,if_neg Ao];omega
  refine ⟨N,congrArg (λx=>[V.int x]) hN,by omega,by omega,cy (λk σ H'=>(∃c3 c4 c5 c6,σ=[some (.ref p),some (.int m),some (.ref r2),c3,c4,c5,c6])/\Bu 1 p H H'/\∃us:List (Addr×List Int),H' r2=some (.lst (us.map λu =>.ref u.1))/\Tus H' us/\(∀u∈us,u.2.length=2)/\us.length<=k) ⟨⟨_,_,_,_,rfl⟩,v2,[],w1.st _ _ nr2 er2,λu hu=>(by cases hu),λu hu=>(by cases hu),A5 _⟩ ?_ ?_⟩
  ·rintro k σ J2 hk ⟨⟨c3,c4,c5,c6,rfl⟩,uJ,us,el,tu,tw,lu⟩
   have hm:0<m:=N2 (by omega)
   refine ⟨_,rfl,_,rfl,aB.mpr ⟨p,m,rfl,uJ.pot,by omega,by omega,λx J3 x0 x1 w3 =>?_⟩⟩
   have u3:=uJ.trans w3
   refine ⟨_,rfl,_,rfl,aB.mpr ⟨p,m,rfl,u3.pot,by omega,by omega,λy J4 y0 y1 w4 =>?_⟩⟩
   have u4:=u3.trans w4
   have w34:=w3.trans w4
   have el:=w34.st _ _ nr2 el
   have tu:=tu.bu w34 uJ.pot
   refine ⟨(by show 2<=Ai;decide),λt ht =>?_⟩
   have g4:=af ht (.tup ([x,y].map V.int))
   have et:upd J4 t (.tup ([x,y].map V.int)) t=some (.tup ([x,y].map V.int)):=ae
   have el:=g4 _ _ el
   have tu:=tu.same g4
   have u5:=u4.same g4
   rw[show [V.int x,V.int y]=[x,y].map V.int from rfl]
   generalize upd J4 t (.tup ([x,y].map V.int))=J5 at g4 et el tu u5
   refine ⟨_,rfl,_,rfl,r2,t,us,[x,y],rfl,rfl,el,tu,et,_,rfl,uu (λz =>?_) λz=>⟨⟨_,_,_,_,rfl⟩,u5,us,el,tu,tw,by omega⟩⟩
   refine ⟨_,rfl,.inl ⟨rfl,_,SqL.of el⟩,_,rfl,r2,_,_,rfl,rfl,el,by rw[Ac];exact cp (by omega),⟨_,_,_,_,rfl⟩,u5.jX hH2 nr2 _,us++[(t,[x,y])],by rw[ae,Ap];rfl,λu hu =>?_,λu hu =>?_,by rw[Am];show _+1<=_;omega⟩
   ·have nt:∀{b:Addr} {ys:List V},J5 b=some (.tup ys)->upd J5 r2 (.lst ((us.map λu=>V.ref u.1)++[.ref t])) b=some (.tup ys):=λ{b ys} e=>by
     rw[au (jC e el (by intro z;cases z))];exact e
    rcases Ax.mp hu with w | w
    ·exact nt (tu u w)
    ·rw[AB] at w;subst w;exact nt et
   ·rcases Ax.mp hu with w | w
    ·exact tw u w
    ·rw[AB] at w;subst w;rfl
  ·rintro σ J2 ⟨⟨c3,c4,c5,c6,rfl⟩,uJ,us,el,tu,tw,lu⟩
   refine mA _ _ ⟨r2,_,_,_,_,_,rfl,uJ,hH2,⟨el,nr2,λx hx =>?_⟩,by rw[Ac];omega⟩
   obtain ⟨u,hu,rfl⟩:=AG.mp hx
   have eu:=tu u hu
   have l2:=tw u hu
   obtain ⟨a,v⟩:=u
   match v,l2 with
   | [i,j],_ =>
    exact ⟨⟨_,.pr (.inr eu) (.int i) (.int j) rfl⟩,λz=>(by rw[V.ref.inj z,el] at eu;cases eu),λz=>uJ.pot.neT eu (V.ref.inj z)⟩
end
end K55
set_option maxHeartbeats 800000
namespace K55
open PySem L2
theorem oV {cB cT:Addr}{vs:List V}{H:Hp}{Q Q':VK}{E E':XK}(hq:∀v H,Q v H->Q' v H)(he:∀c d H,E c d H->E' c d H)(h:fL cB cT vs H Q E):fL cB cT vs H Q' E':=by
 obtain ⟨M,T,rfl,hh⟩:=bH.mp h
 refine bH.mpr ⟨M,T,rfl,hh.imp (λ⟨a,b⟩=>⟨a,λdx H' s x=>he _ _ _ (b dx H' s x)⟩) λ⟨m,r,xs,ps,e1,e2,e3,e4,e5,e6,e7,k1,k2,k3⟩=>⟨m,r,xs,ps,e1,e2,e3,e4,e5,e6,e7,λc dx H' s x=>he _ _ _ (k1 c dx H' s x),λc d H' s=>he _ _ _ (k2 c d H' s),λc d b ts H' s w p=>hq _ _ (k3 c d b ts H' s w p)⟩⟩
theorem qy {C:Addr}{vs:List V}{H:Hp}{Q Q':VK}{E E':XK}(hq:∀v H,Q v H->Q' v H)(he:∀c d H,E c d H->E' c d H)(h:jb C vs H Q E):jb C vs H Q' E':=by
 obtain ⟨r,m,a,b,ts,rfl,W,rg,k1,k2,k3⟩:=cE.mp h
 exact cE.mpr ⟨r,m,a,b,ts,rfl,W,rg,λc H' s=>hq _ _ (k1 c H' s),λc d H' s=>he _ _ _ (k2 c d H' s),λc d z us H' s w p=>hq _ _ (k3 c d z us H' s w p)⟩
theorem oW {C:Addr}{vs:List V}{H:Hp}{Q Q':VK}{E E':XK}(hq:∀v H,Q v H->Q' v H)(he:∀c d H,E c d H->E' c d H)(h:fO C vs H Q E):fO C vs H Q' E':=by
 obtain ⟨r,m,a,b,ts,rfl,W,k1,k2⟩:=cn.mp h
 exact cn.mpr ⟨r,m,a,b,ts,rfl,W,λc H' s=>he _ _ _ (k1 c H' s),λc z us H' s w p=>hq _ _ (k2 c z us H' s w p)⟩
theorem oX {C:Addr}{vs:List V}{H:Hp}{Q Q':VK}{E E':XK}(hq:∀v H,Q v H->Q' v H)(he:∀c d H,E c d H->E' c d H)(h:fP C vs H Q E):fP C vs H Q' E':=by
 obtain ⟨r,m,ts,rfl,W,l,k⟩:=dz.mp h
 exact dz.mpr ⟨r,m,ts,rfl,W,l,λF nd me=>⟨λc H' s=>he _ _ _ ((k F nd me).1 c H' s),λc z us H' s w p=>hq _ _ ((k F nd me).2 c z us H' s w p)⟩⟩
def Hrd (K:Ab)(W:Addr)(Q:VK):XK:=λcls d H'=>PySem.W.exmOne K cls (.ref W)=some true/\∀ea,H' ea=none->Q (.ref ea) (upd H' ea (aU ea cls d))
@[irreducible] def gq (K:Ab)(cB cT cN cW:Addr):Sp:=λvs H Q _=>∃(k:Int) (x y z:V),vs=[.int k,x,y,z]/\((k=0/\fL cB cT [x,y] H Q (Hrd K cW Q))\/(k=1/\jb cT [x,y,z] H Q (Hrd K cW Q))\/(k=2/\fO cN [x,y,z] H Q (Hrd K cW Q))\/(k=3/\fP cT [x] H Q (Hrd K cW Q)))
theorem aT {K:Ab}{cB cT cN cW:Addr}{vs:List V}{H:Hp}{Q:VK}{E:XK}:gq K cB cT cN cW vs H Q E↔∃(k:Int) (x y z:V),vs=[.int k,x,y,z]/\((k=0/\fL cB cT [x,y] H Q (Hrd K cW Q))\/(k=1/\jb cT [x,y,z] H Q (Hrd K cW Q))\/(k=2/\fO cN [x,y,z] H Q (Hrd K cW Q))\/(k=3/\fP cT [x] H Q (Hrd K cW Q))):=by
 delta gq
 exact Cj
section
variable  {P:Au}{w:AX}{K:Ab}{mg:Str->Option Ae}{base:Heap}{f:Addr}{fd:Be}{c_WebError c_BadWeb c_NoStep c_NoText c_TooMany c_NoTie c_NoRing c_NotClear c_NotThree c_BadBoard c_NoRow c_NoBack:Addr}
theorem cR:aP ["way", "one", "other", "third", "found", "e"] ["way", "one", "other", "third"] (aq mX):=⟨rfl,rfl,rfl,by decide +kernel,rfl,by decide +kernel,by decide +kernel⟩
theorem vK (F:Fun K "_law_heard" "_law_heard" mX f fd)(B:Blt mg)(Z:Exs K mg c_WebError c_BadWeb c_NoStep c_NoText c_TooMany c_NoTie c_NoRing c_NotClear c_NotThree c_BadBoard c_NoRow c_NoBack)(xMade:fK P w K mg base 4 "made_oneway" ["many", "arrows"] (fL c_BadWeb c_TooMany))(xPut:fK P w K mg base 2 "put_arrow" ["web", "one", "other"] (jb c_TooMany))(xLess:fK P w K mg base 1 "less_arrow" ["web", "one", "other"] (fO c_NoTie))(xBoth:fK P w K mg base 2 "both_ways" ["web"] (fP c_TooMany))(C:Cst mg):bC P w K mg base CX0 5 f fd ["way", "one", "other", "third"] (gq K c_BadWeb c_TooMany c_NoTie c_WebError):=by
 refine F.ok cR (λvs H Q E h =>?_) (λcdv A outer s H vs Q E hr h =>?_)
 ·obtain ⟨_,_,_,_,rfl,_⟩:=aT.mp h
  rfl
 obtain ⟨k,x,y,z,rfl,hh⟩:=aT.mp h
 refine ⟨_,(@ai _ _ _ _ _ (@aX _ _ 4 _ _ _ _ cR.nd rfl (Or.inl rfl) cj rfl (by first | exact .inl rfl | exact .inr rfl | assumption))
  (@ai _ _ _ _ _ (w5 (i:=5) (n := "e") (x := "WebError") rfl rfl cR.nd rfl rfl rfl Z.x_WebError (eZ (qh (aE fq (pv 0) ah (aN _)) (eZ (jt (i:=4) cR.nd rfl (Or.inl rfl) xMade hr (by decide) rfl (@aa _ _ _ _ _ (pv 1) (@aa _ _ _ _ _ (pv 2) ag rfl) rfl))) (eZ (qh (aE fq (pv 0) ah (aN _)) (eZ (jt (i:=4) cR.nd rfl (Or.inl rfl) xPut hr (by decide) rfl (@aa _ _ _ _ _ (pv 1) (@aa _ _ _ _ _ (pv 2) (@aa _ _ _ _ _ (pv 3) ag rfl) rfl) rfl))) (eZ (qh (aE fq (pv 0) ah (aN _)) (eZ (jt (i:=4) cR.nd rfl (Or.inl rfl) xLess hr (by decide) rfl (@aa _ _ _ _ _ (pv 1) (@aa _ _ _ _ _ (pv 2) (@aa _ _ _ _ _ (pv 3) ag rfl) rfl) rfl))) (eZ (jt (i:=4) cR.nd rfl (Or.inl rfl) xBoth hr (by decide) rfl (@aa _ _ _ _ _ (pv 1) ag rfl))))))))) (λ_=>(@ao _ _ _ (@aX _ _ 4 _ _ _ _ cR.nd rfl (Or.inl rfl) (pv 5) rfl (by first | exact .inl rfl | exact .inr rfl | assumption)))))
  (@ao _ _ _ (@aV _ _ _ _ (pv 4))))),?_⟩
 have ok:∀(σ:St) (v:V) (H':Hp),σ[4]? = some (some v)->Q v H'->yc (tY 4) { nx:=λ_ H'=>Q .non H',rt:=Q } σ H':=λσ v H' e q=>⟨_,e,q⟩
 have df:∀a b:Int,a≠b->decide (V.int a=V.int b)=false:=λa b n=>decide_eq_false λz=>n (V.int.inj z)
 rcases hh with ⟨rfl,h1⟩ | ⟨rfl,h1⟩ | ⟨rfl,h1⟩ | ⟨rfl,h1⟩
 ·refine ⟨_,rfl,rfl,_,rfl,?_⟩
  rw[decide_eq_true rfl]
  refine aR ⟨_,rfl,_,rfl,oV (λv H' q=>⟨_,rfl,q⟩) (λc d H' ⟨e1,e2⟩=>⟨e1,λea he=>⟨_,rfl,_,rfl,e2 ea he⟩⟩) h1⟩
 ·refine ⟨_,rfl,rfl,_,rfl,?_⟩
  rw[df _ _ (by decide)]
  refine aH ⟨_,rfl,rfl,_,rfl,?_⟩
  rw[decide_eq_true rfl]
  refine aR ⟨_,rfl,_,rfl,_,rfl,qy (λv H' q=>⟨_,rfl,q⟩) (λc d H' ⟨e1,e2⟩=>⟨e1,λea he=>⟨_,rfl,_,rfl,e2 ea he⟩⟩) h1⟩
 ·refine ⟨_,rfl,rfl,_,rfl,?_⟩
  rw[df _ _ (by decide)]
  refine aH ⟨_,rfl,rfl,_,rfl,?_⟩
  rw[df _ _ (by decide)]
  refine aH ⟨_,rfl,rfl,_,rfl,?_⟩
  rw[decide_eq_true rfl]
  refine aR ⟨_,rfl,_,rfl,_,rfl,oW (λv H' q=>⟨_,rfl,q⟩) (λc d H' ⟨e1,e2⟩=>⟨e1,λea he=>⟨_,rfl,_,rfl,e2 ea he⟩⟩) h1⟩
 ·refine ⟨_,rfl,rfl,_,rfl,?_⟩
  rw[df _ _ (by decide)]
  refine aH ⟨_,rfl,rfl,_,rfl,?_⟩
  rw[df _ _ (by decide)]
  refine aH ⟨_,rfl,rfl,_,rfl,?_⟩
  rw[df _ _ (by decide)]
  refine aH ⟨_,rfl,oX (λv H' q=>⟨_,rfl,q⟩) (λc d H' ⟨e1,e2⟩=>⟨e1,λea he=>⟨_,rfl,_,rfl,e2 ea he⟩⟩) h1⟩
end
@[irreducible] def iZ (K:Ab)(cs:List Addr)(cW:Addr):Sp:=λvs H Q _=>∃(ea t C:Addr) (d:Option Addr) (i:Nat) (w:V),vs=[.ref ea,.ref t]/\H ea=some (aU ea (.ref C) d)/\H t=some (.tup [.int (i:Nat),w])/\Knd K cs cW C i/\i<3/\(i=0->ExN K C/\PySem.W.findIn K (.ref C) "at" = some none/\∃dx n,d=some dx/\H dx=some (.xd [("at",.int n)])/\w = .int n)/\∀H',ay H H'->Q (.bl true) H'
theorem bE {K:Ab}{cs:List Addr}{cW:Addr}{vs:List V}{H:Hp}{Q:VK}{E:XK}:iZ K cs cW vs H Q E↔∃(ea t C:Addr) (d:Option Addr) (i:Nat) (w:V),vs=[.ref ea,.ref t]/\H ea=some (aU ea (.ref C) d)/\H t=some (.tup [.int (i:Nat),w])/\Knd K cs cW C i/\i<3/\(i=0->ExN K C/\PySem.W.findIn K (.ref C) "at" = some none/\∃dx n,d=some dx/\H dx=some (.xd [("at",.int n)])/\w = .int n)/\∀H',ay H H'->Q (.bl true) H':=by
 delta iZ
 exact Cj
section
variable  {P:Au}{w:AX}{K:Ab}{mg:Str->Option Ae}{base:Heap}{f:Addr}{fd:Be}{c_WebError c_BadWeb c_NoStep c_NoText c_TooMany c_NoTie c_NoRing c_NotClear c_NotThree c_BadBoard c_NoRow c_NoBack:Addr}
theorem qz:aP ["found", "due"] ["found", "due"] (aq iX):=⟨rfl,rfl,rfl,by decide +kernel,rfl,by decide +kernel,by decide +kernel⟩
theorem qA (F:Fun K "_law_refused" "_law_refused" iX f fd)(B:Blt mg)(Z:Exs K mg c_WebError c_BadWeb c_NoStep c_NoText c_TooMany c_NoTie c_NoRing c_NotClear c_NotThree c_BadBoard c_NoRow c_NoBack)(cLAlone:Cal P w K mg base 1 "_law_alone" ["e", "place"] (jz K [c_BadWeb,c_TooMany,c_NoTie,c_NoRing,c_NotClear,c_NotThree,c_BadBoard,c_NoStep,c_NoText,c_NoRow,c_NoBack] c_WebError))(cLWhole:Cal P w K mg base 1 "_law_whole" ["found"] (dB K))(C:Cst mg):bC P w K mg base CX0 2 f fd ["found", "due"] (iZ K [c_BadWeb,c_TooMany,c_NoTie,c_NoRing,c_NotClear,c_NotThree,c_BadBoard,c_NoStep,c_NoText,c_NoRow,c_NoBack] c_WebError):=by
 refine F.ok qz (λvs H Q E h =>?_) (λcdv A outer s H vs Q E hr h =>?_)
 ·obtain ⟨_,_,_,_,_,_,rfl,_⟩:=bE.mp h
  rfl
 obtain ⟨ea,t,C,d,i,w,rfl,he,et,kn,li,hat,q⟩:=bE.mp h
 refine ⟨_,(@ai _ _ _ _ _ (@bz _ _ _ _ _ _ _ _ (bK (bJ (aG cLAlone hr (by decide) rfl (@aa _ _ _ _ _ (pv 0) (@aa _ _ _ _ _ (@aJ _ _ _ _ _ _ _ aS (pv 1) ah (λ_ _=>rfl)) ag rfl) rfl)))) (@ao _ _ _ (@aV _ _ _ _ hW)) aL)
  (@ao _ _ _ (@aV _ _ _ _ (zo (cX qI (@aJ _ _ _ _ _ _ _ aS (pv 1) ah (λ_ _=>rfl)) ah (aN _)) (fw (gG (aG cLWhole hr (by decide) rfl (@aa _ _ _ _ _ (vo (pv 0) (by rfl)) ag rfl)) (fw (cX fq (vo (pv 0) (by rfl)) (@aJ _ _ _ _ _ _ _ aS (pv 1) ah (λ_ _=>rfl)) (aN _))))))))),?_⟩
 refine ⟨_,rfl,_,rfl,t,_,0,_,rfl,rfl,SqT.of et,rfl,fS.mpr ⟨ea,C,d,i,i,rfl,he,kn,li,λH1 s1 =>?_⟩⟩
 have he:=s1 _ _ he
 have et:=s1 _ _ et
 rw[show (i == i)=true from beq_self_eq_true i]
 refine ⟨_,rfl,aH ⟨_,rfl,t,_,0,_,rfl,rfl,SqT.of et,rfl,rfl,_,rfl,?_⟩⟩
 by_cases c:i=0
 ·subst c
  obtain ⟨N,na,dx,n,rfl,edx,rfl⟩:=hat rfl
  have edx:=s1 _ _ edx
  rw[decide_eq_true (show V.int ((0:Nat):Int)=V.int 0 from rfl)]
  refine aH ⟨_,rfl,ea,C,dx,_,_,rfl,he,edx,N,kn.2.1,na,rfl,bq.mpr ⟨.int n,_,true,false,rfl,.int n,rfl,rfl,_,rfl,aR ?_⟩⟩
  refine ⟨_,rfl,ea,C,dx,_,_,rfl,he,edx,N,kn.2.1,na,rfl,_,rfl,t,_,1,_,rfl,rfl,SqT.of et,rfl,rfl,?_⟩
  rw[decide_eq_true rfl]
  exact q _ s1
 ·rw[decide_eq_false (λz=>c (by have:=V.int.inj z;omega))]
  exact aR (q _ s1)
end
open PySem L2
theorem oY {K:Ab}{H:Hp}{n:Nat}:∀ns:List Int,Paired (EqS K H n) (ns.map V.int) (ns.map V.int)
 | [] =>.nil
 | a :: t =>.cons (by cases n <;> exact .inl ⟨a,rfl,rfl⟩) (oY t)
theorem oZ {K:Ab}{H:Hp}{n:Nat}:∀{ts us:List (Addr×List Int)},ts.map (·.2)=us.map (·.2)->(∀u∈ts,H u.1=some (.tup (u.2.map V.int)))->(∀u∈us,H u.1=some (.tup (u.2.map V.int)))->Paired (EqS K H (n+1)) (ts.map λu=>V.ref u.1) (us.map λu=>V.ref u.1)
 | [],[],_,_,_ =>.nil
 | [],_ :: _,e,_,_=>by cases e
 | _ :: _,[],e,_,_=>by cases e
 | t :: ts,u :: us,e,h1,h2=>by
  rw[AV,AV] at e
  injection e with e1 e2
  refine .cons (.inr (.inr (.inr ⟨t.1,u.1,_,_,rfl,rfl,.inl ⟨SqT.of (h1 t AU),SqT.of (h2 u AU)⟩,?_⟩))) (oZ e2 (λx hx=>h1 x (AM _ hx)) λx hx=>h2 x (AM _ hx))
  have e1':t.2=u.2:=e1
  rw[e1'];exact oY _
theorem dD {K:Ab}{H:Hp}{t t':Addr}{m:Int}{ts us:List (Addr×List Int)}(a2:H t=some (.tup (ts.map λu =>.ref u.1)))(b2:H t'=some (.tup (us.map λu =>.ref u.1)))(ha:∀u∈ts,H u.1=some (.tup (u.2.map V.int)))(hb:∀u∈us,H u.1=some (.tup (u.2.map V.int)))(e:ts.map (·.2)=us.map (·.2)):Paired (EqS K H 20) [.int m,.ref t] [.int m,.ref t'] :=
 .cons (.inl ⟨m,rfl,rfl⟩) (.cons (.inr (.inr (.inr ⟨t,t',_,_,rfl,rfl,.inl ⟨SqT.of a2,SqT.of b2⟩,oZ e ha hb⟩))) .nil)
theorem o5 {E:List (List Int)}{x:List Int}(nd:E.Nodup)(h:x∈E):(E.filter (λp => !decide (p=x))++[x]).Perm E:=by
 refine (Cd ?_ nd).mpr λy =>?_
 ·refine E1.mpr ⟨nd.filter _,CV.mpr ⟨B9,DX⟩,λa ha b hb e =>?_⟩
  rw[AB] at hb
  have:=(AS.mp ha).2
  rw[e,hb,decide_eq_true rfl] at this
  cases this
 ·rw[Ax,AS,AB]
  constructor
  ·rintro (⟨h1,_⟩ | rfl)
   ·exact h1
   ·exact h
  ·intro hy
   by_cases c:y=x
   ·exact .inr c
   ·exact .inl ⟨hy,by rw[decide_eq_false c];rfl⟩
theorem filter_all {E:List (List Int)}{x:List Int}(h:x∉E):E.filter (λp => !decide (p=x))=E:=List.filter_eq_self.mpr λy hy=>by rw[decide_eq_false (λe=>h (by rw[<- e];exact hy))];rfl
theorem o6 {E:List (List Int)}{x:List Int}(nd:E.Nodup)(h:x∈E):(E.filter (λp => !decide (p=x))).length+1=E.length:=by
 have:=(o5 nd h).length_eq
 rwa [Am] at this
abbrev vL:Sp:=λvs H Q _=>∃(r t:Addr) (m a b:Int) (ts:List (Addr×List Int)),vs=[.ref r,.ref t]/\Wo H r m ts/\H t=some (.tup ([a,b].map V.int))/\(0<=a/\a<m/\0<=b/\b<m)/\∀H',ay H H'->Q (.bl true) H'
@[irreducible] def rJ:Sp:=vL
theorem gr {vs:List V}{H:Hp}{Q:VK}{E:XK}:rJ vs H Q E↔vL vs H Q E:=by
 delta rJ
 exact Cj
section
variable  {P:Au}{w:AX}{K:Ab}{mg:Str->Option Ae}{base:Heap}{f:Addr}{fd:Be}{c_WebError c_BadWeb c_NoStep c_NoText c_TooMany c_NoTie c_NoRing c_NotClear c_NotThree c_BadBoard c_NoRow c_NoBack:Addr}
theorem cJ:aP ["web", "arrow", "rest", "put", "less"] ["web", "arrow"] (aq fe):=⟨rfl,rfl,rfl,by decide +kernel,rfl,by decide +kernel,by decide +kernel⟩
theorem dW:(["pair", "arrow"]:List Str).Nodup:=by decide +kernel
theorem kJ (F:Fun K "_law_arrow_right" "_law_arrow_right" fe f fd)(B:Blt mg)(Z:Exs K mg c_WebError c_BadWeb c_NoStep c_NoText c_TooMany c_NoTie c_NoRing c_NotClear c_NotThree c_BadBoard c_NoRow c_NoBack)(cLHeard:Cal P w K mg base 5 "_law_heard" ["way", "one", "other", "third"] (gq K c_BadWeb c_TooMany c_NoTie c_WebError))(cLRefused:Cal P w K mg base 2 "_law_refused" ["found", "due"] (iZ K [c_BadWeb,c_TooMany,c_NoTie,c_NoRing,c_NotClear,c_NotThree,c_BadBoard,c_NoStep,c_NoText,c_NoRow,c_NoBack] c_WebError))(C:Cst mg):bC P w K mg base CX0 6 f fd ["web", "arrow"] rJ:=by
 refine F.ok cJ (λvs H Q E h =>?_) (λcdv A outer s H vs Q E hr h =>?_)
 ·obtain ⟨_,_,_,_,_,_,rfl,_⟩:=gr.mp h
  rfl
 obtain ⟨r,t,m,a,b,ts,rfl,W,et,⟨a0,a1,b0,b1⟩,q⟩:=gr.mp h
 refine ⟨_,(@ai _ _ _ _ _ (eS (i:=2) ["pair", "arrow"] [none,some 1] rfl cJ.nd rfl rfl (@cU _ _ _ _ (@aJ _ _ _ _ _ _ _ aS (pv 0) ah (λ_ _=>rfl))) rfl (λ_ _ _ _ _=>(aQ (i:=0) dW rfl (Or.inl rfl))) (λ_ _ _ _ _=>(eQ (aE (og (K:=K) (hu8 hr)) (pv 0) (pv 1) (aN _)))) (λ_ _ _ _ _=>(pv 0)))
  (@ai _ _ _ _ _ (@aX _ _ 3 _ _ _ _ cJ.nd rfl (Or.inl rfl) (aG cLHeard hr (by decide) rfl (@aa _ _ _ _ _ ah (@aa _ _ _ _ _ (pv 0) (@aa _ _ _ _ _ (@aJ _ _ _ _ _ _ _ aS (pv 1) ah (λ_ _=>rfl)) (@aa _ _ _ _ _ (@aJ _ _ _ _ _ _ _ aS (pv 1) ah (λ_ _=>rfl)) ag rfl) rfl) rfl) rfl)) rfl (by first | exact .inl rfl | exact .inr rfl | assumption))
  (@ai _ _ _ _ _ (@bz _ _ _ _ _ _ _ _ (aE fq (aj aO rfl B.b_len cc (@aa _ _ _ _ _ (pv 2) ag rfl)) ah (aN _)) (@ao _ _ _ (@bz _ _ _ _ _ _ _ _ (bK (bJ (aG cLRefused hr (by decide) rfl (@aa _ _ _ _ _ (pv 3) (@aa _ _ _ _ _ (@aF _ _ _ _ _ (@aa _ _ _ _ _ ah (@aa _ _ _ _ _ cj ag rfl) rfl)) ag rfl) rfl)))) bA aL)) (@ao _ _ _ (@bz _ _ _ _ _ _ _ _ (aE (iu hr) (pv 3) (@aF _ _ _ _ _ (@aa _ _ _ _ _ (@aJ _ _ _ _ _ _ _ aS (pv 0) ah (λ_ _=>rfl)) (@aa _ _ _ _ _ (aD az rfl B.b_tuple aM (@aa _ _ _ _ _ (aj bZ rfl B.b_sorted cu (@aa _ _ _ _ _ (@ba _ _ _ _ _ _ _ _ mz (pv 2) (@dM _ _ _ _ (@aa _ _ _ _ _ (pv 1) ag rfl))) ag rfl)) ag rfl)) ag rfl) rfl)) (aN _)) bA aL)))
  (@ai _ _ _ _ _ (@aX _ _ 4 _ _ _ _ cJ.nd rfl (Or.inl rfl) (aG cLHeard hr (by decide) rfl (@aa _ _ _ _ _ ah (@aa _ _ _ _ _ (pv 0) (@aa _ _ _ _ _ (@aJ _ _ _ _ _ _ _ aS (pv 1) ah (λ_ _=>rfl)) (@aa _ _ _ _ _ (@aJ _ _ _ _ _ _ _ aS (pv 1) ah (λ_ _=>rfl)) ag rfl) rfl) rfl) rfl)) rfl (by first | exact .inl rfl | exact .inr rfl | assumption))
  (@ai _ _ _ _ _ (@bz _ _ _ _ _ _ _ _ (aE fq (aj aO rfl B.b_len cc (@aa _ _ _ _ _ (pv 2) ag rfl)) (aj aO rfl B.b_len cc (@aa _ _ _ _ _ (@aJ _ _ _ _ _ _ _ aS (pv 0) ah (λ_ _=>rfl)) ag rfl)) (aN _)) (@ao _ _ _ (@aV _ _ _ _ (aG cLRefused hr (by decide) rfl (@aa _ _ _ _ _ (pv 4) (@aa _ _ _ _ _ (@aF _ _ _ _ _ (@aa _ _ _ _ _ ah (@aa _ _ _ _ _ cj ag rfl) rfl)) ag rfl) rfl)))) aL)
  (@ao _ _ _ (@aV _ _ _ _ (cX (wO hr) (pv 4) (@aF _ _ _ _ _ (@aa _ _ _ _ _ (@aJ _ _ _ _ _ _ _ aS (pv 0) ah (λ_ _=>rfl)) (@aa _ _ _ _ _ (aD az rfl B.b_tuple aM (@aa _ _ _ _ _ (pv 2) ag rfl)) ag rfl) rfl)) (aN _))))))))),?_⟩
 obtain ⟨t0,e1,e2⟩:=W.ow.at'
 have le:=W.le
 refine ⟨_,rfl,r,_,1,_,rfl,rfl,SqT.of e1,rfl,t0,rfl,⟨_,SqT.of e2⟩,bS (xs:=ts.map λu =>.ref u.1) (λi ys H'=>H'=H/\ys=((ts.take i).filter λu => !decide (u.2=[a,b])).map λu =>.ref u.1) ⟨rfl,rfl⟩ (by rw[Ac];exact small (by omega)) (λi ys H' _ k=>by rw[k.1];exact SqT.of e2) ?_ ?_⟩
 ·rintro i x ys G hx hy ⟨eG,rfl⟩ R1 R0 r1 r0
  obtain ⟨u,hu,rfl⟩:=iE hx
  have mu:=AJ hu
  rw[eG]
  have tk:∀c:Bool,(!decide (u.2=[a,b]))=c->(ts.take (i+1)).filter (λu => !decide (u.2=[a,b]))=(ts.take i).filter (λu => !decide (u.2=[a,b]))++(if c=true then [u] else []):=λc ec=>by
   rw[Bc,hu,Cm]
   congr 1
   cases c with
   | true=>rw[if_pos rfl];exact B2 ec
   | false=>rw[if_neg Ao];exact B3 (by rw[ec];exact Ao)
  refine ⟨_,rfl,_,rfl,u.1,t,u.2,[a,b],rfl,rfl,SqT.of (W.ow.tup u mu),SqT.of et,_,rfl,?_⟩
  by_cases d:u.2=[a,b]
  ·rw[decide_eq_true d]
   refine aH (r0 _ ⟨rfl,?_⟩)
   rw[tk false (by rw[decide_eq_true d];rfl)]
   exact congrArg _ (AZ _).symm
  ·rw[decide_eq_false d]
   refine aR ⟨_,rfl,r1 _ _ ⟨rfl,?_⟩⟩
   rw[tk true (by rw[decide_eq_false d];rfl),Ap];rfl
 rintro ys G hy ⟨eG,rfl⟩ l hl
 rw[eG] at hl ⊢
 rw[Ac,AA (Ah _)]
 generalize hR:(ts.filter λu => !decide (u.2=[a,b]))=R
 have eR:R.map (·.2)=(ts.map (·.2)).filter (λp => !decide (p=[a,b])):=by rw[<- hR,FI];rfl
 have Rsub:∀u∈R,u∈ts:=λu hu=>by rw[<- hR] at hu;exact (AS.mp hu).1
 have lRle:R.length<=ts.length:=by rw[<- hR];exact List.length_filter_le _ _
 have tR:Tus H R:=λu hu=>W.ow.tup u (Rsub u hu)
 have s1:=af hl (.lst (R.map λu =>.ref u.1))
 have el:upd H l (.lst (R.map λu =>.ref u.1)) l=some (.lst (R.map λu =>.ref u.1)):=ae
 generalize upd H l (.lst (R.map λu =>.ref u.1))=H1 at s1 el
 have kT:Knd K [c_BadWeb,c_TooMany,c_NoTie,c_NoRing,c_NotClear,c_NotThree,c_BadBoard,c_NoStep,c_NoText,c_NoRow,c_NoBack] c_WebError c_TooMany 1:=⟨by decide,(dQ Z.xi_TooMany).1,(λj hj=>by
   match j,hj with
   | 0,_=>exact (ak Z.kt (i:=3) (by decide:3<11)).1 0 (by show 0<11;decide)
   | 1,_=>exact (ak Z.kt (i:=3) (by decide:3<11)).1 3 (by show 3<11;decide)
   | 2,_=>exact (ak Z.kt (i:=3) (by decide:3<11)).1 4 (by show 4<11;decide)
   | 3,_=>exact (ak Z.kt (i:=3) (by decide:3<11)).1 5 (by show 5<11;decide)
   | 4,_=>exact (ak Z.kt (i:=3) (by decide:3<11)).1 6 (by show 6<11;decide)
   | 5,_=>exact (ak Z.kt (i:=3) (by decide:3<11)).1 7 (by show 7<11;decide)
   | 6,_=>exact (ak Z.kt (i:=3) (by decide:3<11)).1 8 (by show 8<11;decide)
   | 7,_=>exact (ak Z.kt (i:=3) (by decide:3<11)).1 1 (by show 1<11;decide)
   | 8,_=>exact (ak Z.kt (i:=3) (by decide:3<11)).1 2 (by show 2<11;decide)
   | 9,_=>exact (ak Z.kt (i:=3) (by decide:3<11)).1 9 (by show 9<11;decide)
   | 10,_=>exact (ak Z.kt (i:=3) (by decide:3<11)).1 10 (by show 10<11;decide)
   | n+11,h=>exact absurd h (by omega)),(ak Z.kt (i:=3) (by decide:3<11)).2.1,(ak Z.kt (i:=3) (by decide:3<11)).2.2⟩
 have kN:Knd K [c_BadWeb,c_TooMany,c_NoTie,c_NoRing,c_NotClear,c_NotThree,c_BadBoard,c_NoStep,c_NoText,c_NoRow,c_NoBack] c_WebError c_NoTie 2:=⟨by decide,(dQ Z.xi_NoTie).1,(λj hj=>by
   match j,hj with
   | 0,_=>exact (ak Z.kt (i:=4) (by decide:4<11)).1 0 (by show 0<11;decide)
   | 1,_=>exact (ak Z.kt (i:=4) (by decide:4<11)).1 3 (by show 3<11;decide)
   | 2,_=>exact (ak Z.kt (i:=4) (by decide:4<11)).1 4 (by show 4<11;decide)
   | 3,_=>exact (ak Z.kt (i:=4) (by decide:4<11)).1 5 (by show 5<11;decide)
   | 4,_=>exact (ak Z.kt (i:=4) (by decide:4<11)).1 6 (by show 6<11;decide)
   | 5,_=>exact (ak Z.kt (i:=4) (by decide:4<11)).1 7 (by show 7<11;decide)
   | 6,_=>exact (ak Z.kt (i:=4) (by decide:4<11)).1 8 (by show 8<11;decide)
   | 7,_=>exact (ak Z.kt (i:=4) (by decide:4<11)).1 1 (by show 1<11;decide)
   | 8,_=>exact (ak Z.kt (i:=4) (by decide:4<11)).1 2 (by show 2<11;decide)
   | 9,_=>exact (ak Z.kt (i:=4) (by decide:4<11)).1 9 (by show 9<11;decide)
   | 10,_=>exact (ak Z.kt (i:=4) (by decide:4<11)).1 10 (by show 10<11;decide)
   | n+11,h=>exact absurd h (by omega)),(ak Z.kt (i:=4) (by decide:4<11)).2.1,(ak Z.kt (i:=4) (by decide:4<11)).2.2⟩
 have W1:=W.same s1
 have two:(([a,b]:List Int).map V.int)=[.int a,.int b]:=rfl
 by_cases c:[a,b]∈ts.map (·.2)
 ·have lR:R.length+1=ts.length:=by have:=o6 W.nd c;rw[<- eR,Ac,Ac] at this;exact this
  refine ⟨_,rfl,_,rfl,t,_,0,_,rfl,rfl,SqT.of (s1 _ _ et),rfl,_,rfl,t,_,1,_,rfl,rfl,SqT.of (s1 _ _ et),rfl,aT.mpr ⟨1,.ref r,.int a,.int b,rfl,.inr (.inl ⟨rfl,cE.mpr ⟨r,m,a,b,ts,rfl,W1,⟨a0,a1,b0,b1⟩,λ_ HX sHX =>?_,λc'=>absurd c c',λc'=>absurd c c'⟩⟩)⟩⟩
  have sX:=s1.trans sHX
  have elX:=sHX _ _ el
  refine ⟨_,rfl,l,_,rfl,.inl (SqL.of elX),rfl,_,rfl,?_⟩
  rw[decide_eq_false (λz=>by have:=V.int.inj z;rw[Ac] at this;omega)]
  refine aH ?_
  have WP:=W.same sX
  have sHX:=sX
  refine ⟨_,rfl,_,rfl,r,_,0,_,rfl,rfl,SqT.of (sX _ _ e1),rfl,_,rfl,_,rfl,(by show 1<=Ai;decide),λp1 hp1 =>?_⟩
  have g1:=af hp1 (.lst [.ref t])
  have ep1:upd HX p1 (.lst [.ref t]) p1=some (.lst [.ref t]):=ae
  have sY:=sX.trans g1
  have sZ:=sHX.trans g1
  have WP:=WP.same g1
  have elX:=g1 _ _ elX
  generalize upd HX p1 (.lst [.ref t])=HY at g1 ep1 sY sZ WP elX
  refine ⟨l,p1,_,_,rfl,rfl,SqL.of elX,SqL.of ep1,(by rw[Ac];exact small (by show _+1<=_;omega)),λl2 hl2 =>?_⟩
  have eap:(R.map λu=>V.ref u.1)++[V.ref t]=(R++[(t,[a,b])]).map λu=>V.ref u.1:=by rw[Ap];rfl
  rw[eap]
  have g2:=af hl2 (.lst ((R++[(t,[a,b])]).map λu=>V.ref u.1))
  have el2:upd HY l2 (.lst ((R++[(t,[a,b])]).map λu=>V.ref u.1)) l2=some (.lst ((R++[(t,[a,b])]).map λu=>V.ref u.1)):=ae
  have sY:=sY.trans g2
  have sZ:=sZ.trans g2
  have WP:=WP.same g2
  have elX:=g2 _ _ elX
  have tall:Tus (upd HY l2 (.lst ((R++[(t,[a,b])]).map λu=>V.ref u.1))) (R++[(t,[a,b])]):=λu hu=>by
   rcases Ax.mp hu with z | z
   ·exact sY _ _ (tR u z)
   ·rw[AB] at z;subst z;exact sY _ _ et
  generalize upd HY l2 (.lst ((R++[(t,[a,b])]).map λu=>V.ref u.1))=HW at g2 el2 sY sZ WP elX tall
  refine ⟨l2,_,rfl,.inl (SqL.of el2),λu hu=>⟨SqT.of (tall u hu),?_⟩,λl3 out hl3 pm so =>?_⟩
  ·rcases Ax.mp hu with z | z
   ·obtain ⟨x,y,e,_⟩:=W.ow.rng u (Rsub u z)
    rw[e];intro z;cases z
   ·rw[AB] at z;subst z;intro z;cases z
  have g3:=af hl3 (.lst (out.map λt =>.ref t.1))
  refine ⟨l3,_,rfl,.inl ⟨SqL.of ae,λl4 hl4=>⟨(by show 2<=Ai;decide),λz hz =>?_⟩⟩⟩
  have g4:=af hl4 (.tup (out.map λt =>.ref t.1))
  have el4:upd (upd HW l3 (.lst (out.map λt =>.ref t.1))) l4 (.tup (out.map λt =>.ref t.1)) l4=some (.tup (out.map λt =>.ref t.1)):=ae
  have g5:=af hz (.tup [.int m,.ref l4])
  have ez:upd (upd (upd HW l3 (.lst (out.map λt =>.ref t.1))) l4 (.tup (out.map λt =>.ref t.1))) z (.tup [.int m,.ref l4]) z=some (.tup [.int m,.ref l4]):=ae
  have gg:=g3.trans (g4.trans g5)
  have el4:=g5 _ _ el4
  have sY:=sY.trans gg
  have sZ:=sZ.trans gg
  have WP:=WP.same gg
  have elX:=gg _ _ elX
  have tall:=tall.same gg
  generalize upd (upd (upd HW l3 (.lst (out.map λt =>.ref t.1))) l4 (.tup (out.map λt =>.ref t.1))) z (.tup [.int m,.ref l4])=HV at g5 ez el4 sY sZ WP elX tall
  obtain ⟨tw,ew1,ew2⟩:=WP.ow.at'
  have eqm:ts.map (·.2)=out.map (·.2):=ef (((o5 W.nd c).symm.trans (by rw[Ap,eR];exact CS _)).trans (pm.map (·.2)).symm) WP.so (gU so)
  refine ⟨r,z,_,_,rfl,rfl,SqT.of ew1,SqT.of ez,dD ew2 el4 WP.ow.tup (λu hu=>tall u (pm.mem_iff.mp hu)) eqm,_,rfl,aH ?_⟩
  clear ew1 ew2 ez
  refine ⟨_,rfl,_,rfl,t,_,0,_,rfl,rfl,SqT.of (sY _ _ et),rfl,_,rfl,t,_,1,_,rfl,rfl,SqT.of (sY _ _ et),rfl,aT.mpr ⟨2,.ref r,.int a,.int b,rfl,.inr (.inr (.inl ⟨rfl,cn.mpr ⟨r,m,a,b,ts,rfl,W.same sZ,λc'=>absurd c c',λ_ zl us HL sL wl el' =>?_⟩⟩))⟩⟩
  have sN:=sY.trans sL
  have elX:=sL _ _ elX
  refine ⟨_,rfl,l,_,rfl,.inl (SqL.of elX),_,rfl,r,_,1,_,rfl,rfl,SqT.of (sN _ _ e1),rfl,t0,_,rfl,.inr (SqT.of (sN _ _ e2)),rfl,_,rfl,?_⟩
  rw[decide_eq_false (λz=>by have:=V.int.inj z;rw[Ac,Ac] at this;omega)]
  refine aH ⟨_,rfl,_,rfl,r,_,0,_,rfl,rfl,SqT.of (sN _ _ e1),rfl,_,rfl,l,_,rfl,.inl ⟨SqL.of elX,λl6 hl6=>⟨(by show 2<=Ai;decide),λz6 hz6 =>?_⟩⟩⟩
  have h6:=af hl6 (.tup (R.map λt =>.ref t.1))
  have h7:=af hz6 (.tup [.int m,.ref l6])
  obtain ⟨tw,ew1,ew2⟩:=wl.at'
  have hh:=h6.trans h7
  exact ⟨zl,z6,_,_,rfl,rfl,SqT.of (hh _ _ ew1),SqT.of ae,dD (hh _ _ ew2) (h7 _ _ ae) (λu hu=>hh _ _ (wl.tup u hu)) (λu hu=>hh _ _ (sN _ _ (tR u hu))) (by rw[el',eR]),q _ (sN.trans hh)⟩
 have lR:R.length=ts.length:=by have:=congrArg List.length (filter_all c);rw[<- eR,Ac,Ac] at this;exact this
 by_cases c2:200<=ts.length
 ·refine ⟨_,rfl,_,rfl,t,_,0,_,rfl,rfl,SqT.of (s1 _ _ et),rfl,_,rfl,t,_,1,_,rfl,rfl,SqT.of (s1 _ _ et),rfl,aT.mpr ⟨1,.ref r,.int a,.int b,rfl,.inr (.inl ⟨rfl,cE.mpr ⟨r,m,a,b,ts,rfl,W1,⟨a0,a1,b0,b1⟩,λc'=>absurd c' c,λ_ _ HX sHX=>⟨Z.xm_TooMany,λea hea =>?_⟩,λ_ c'=>absurd c2 (by omega)⟩⟩)⟩⟩
  have gb:=af hea (aU ea (.ref c_TooMany) none)
  have eea:upd HX ea (aU ea (.ref c_TooMany) none) ea=some (aU ea (.ref c_TooMany) none):=ae
  have sX:=s1.trans (sHX.trans gb)
  have elX:=(sHX.trans gb) _ _ el
  generalize upd HX ea (aU ea (.ref c_TooMany) none)=HQ at gb eea sX elX
  refine ⟨_,rfl,l,_,rfl,.inl (SqL.of elX),rfl,_,rfl,?_⟩
  rw[decide_eq_true (by rw[Ac];congr 1;omega)]
  refine aR ⟨_,rfl,(by show 2<=Ai;decide),λp9 hp9 =>?_⟩
  have g9:=af hp9 (.tup [.int 1,.non])
  refine bE.mpr ⟨ea,p9,c_TooMany,none,1,.non,rfl,g9 _ _ eea,ae,kT,by decide,λe=>absurd e (by decide),λHR sR=>⟨_,rfl,aH ?_⟩⟩
  have sY:=sX.trans (g9.trans sR)
  have sZ:=sY
  have elX:=(g9.trans sR) _ _ elX
  clear g9
  refine ⟨_,rfl,_,rfl,t,_,0,_,rfl,rfl,SqT.of (sY _ _ et),rfl,_,rfl,t,_,1,_,rfl,rfl,SqT.of (sY _ _ et),rfl,aT.mpr ⟨2,.ref r,.int a,.int b,rfl,.inr (.inr (.inl ⟨rfl,cn.mpr ⟨r,m,a,b,ts,rfl,W.same sZ,λ_ HL sL=>⟨Z.xm_NoTie,λeb heb =>?_⟩,λc'=>absurd c' c⟩⟩))⟩⟩
  have gb:=af heb (aU eb (.ref c_NoTie) none)
  have eeb:upd HL eb (aU eb (.ref c_NoTie) none) eb=some (aU eb (.ref c_NoTie) none):=ae
  have sM:=sZ.trans (sL.trans gb)
  have sN:=sY.trans (sL.trans gb)
  have elX:=(sL.trans gb) _ _ elX
  generalize upd HL eb (aU eb (.ref c_NoTie) none)=HM at gb eeb sM sN elX
  refine ⟨_,rfl,l,_,rfl,.inl (SqL.of elX),_,rfl,r,_,1,_,rfl,rfl,SqT.of (sN _ _ e1),rfl,t0,_,rfl,.inr (SqT.of (sN _ _ e2)),rfl,_,rfl,?_⟩
  rw[decide_eq_true (by rw[Ac,Ac,lR])]
  refine aR ⟨_,rfl,(by show 2<=Ai;decide),λp9 hp9 =>?_⟩
  have g9:=af hp9 (.tup [.int 2,.non])
  exact bE.mpr ⟨eb,p9,c_NoTie,none,2,.non,rfl,g9 _ _ eeb,ae,kN,by decide,λe=>absurd e (by decide),λH' s=>q _ (sM.trans (g9.trans s))⟩
 ·refine ⟨_,rfl,_,rfl,t,_,0,_,rfl,rfl,SqT.of (s1 _ _ et),rfl,_,rfl,t,_,1,_,rfl,rfl,SqT.of (s1 _ _ et),rfl,aT.mpr ⟨1,.ref r,.int a,.int b,rfl,.inr (.inl ⟨rfl,cE.mpr ⟨r,m,a,b,ts,rfl,W1,⟨a0,a1,b0,b1⟩,λc'=>absurd c' c,λ_ c'=>absurd c' c2,λ_ _ zp us HX sHX WP pmU =>?_⟩⟩)⟩⟩
  have sX:=s1.trans sHX
  have elX:=sHX _ _ el
  refine ⟨_,rfl,l,_,rfl,.inl (SqL.of elX),rfl,_,rfl,?_⟩
  rw[decide_eq_false (λz=>by have:=V.int.inj z;rw[Ac] at this;omega)]
  refine aH ?_
  have sHX:=sX
  refine ⟨_,rfl,_,rfl,r,_,0,_,rfl,rfl,SqT.of (sX _ _ e1),rfl,_,rfl,_,rfl,(by show 1<=Ai;decide),λp1 hp1 =>?_⟩
  have g1:=af hp1 (.lst [.ref t])
  have ep1:upd HX p1 (.lst [.ref t]) p1=some (.lst [.ref t]):=ae
  have sY:=sX.trans g1
  have sZ:=sHX.trans g1
  have WP:=WP.same g1
  have elX:=g1 _ _ elX
  generalize upd HX p1 (.lst [.ref t])=HY at g1 ep1 sY sZ WP elX
  refine ⟨l,p1,_,_,rfl,rfl,SqL.of elX,SqL.of ep1,(by rw[Ac];exact small (by show _+1<=_;omega)),λl2 hl2 =>?_⟩
  have eap:(R.map λu=>V.ref u.1)++[V.ref t]=(R++[(t,[a,b])]).map λu=>V.ref u.1:=by rw[Ap];rfl
  rw[eap]
  have g2:=af hl2 (.lst ((R++[(t,[a,b])]).map λu=>V.ref u.1))
  have el2:upd HY l2 (.lst ((R++[(t,[a,b])]).map λu=>V.ref u.1)) l2=some (.lst ((R++[(t,[a,b])]).map λu=>V.ref u.1)):=ae
  have sY:=sY.trans g2
  have sZ:=sZ.trans g2
  have WP:=WP.same g2
  have elX:=g2 _ _ elX
  have tall:Tus (upd HY l2 (.lst ((R++[(t,[a,b])]).map λu=>V.ref u.1))) (R++[(t,[a,b])]):=λu hu=>by
   rcases Ax.mp hu with z | z
   ·exact sY _ _ (tR u z)
   ·rw[AB] at z;subst z;exact sY _ _ et
  generalize upd HY l2 (.lst ((R++[(t,[a,b])]).map λu=>V.ref u.1))=HW at g2 el2 sY sZ WP elX tall
  refine ⟨l2,_,rfl,.inl (SqL.of el2),λu hu=>⟨SqT.of (tall u hu),?_⟩,λl3 out hl3 pm so =>?_⟩
  ·rcases Ax.mp hu with z | z
   ·obtain ⟨x,y,e,_⟩:=W.ow.rng u (Rsub u z)
    rw[e];intro z;cases z
   ·rw[AB] at z;subst z;intro z;cases z
  have g3:=af hl3 (.lst (out.map λt =>.ref t.1))
  refine ⟨l3,_,rfl,.inl ⟨SqL.of ae,λl4 hl4=>⟨(by show 2<=Ai;decide),λz hz =>?_⟩⟩⟩
  have g4:=af hl4 (.tup (out.map λt =>.ref t.1))
  have el4:upd (upd HW l3 (.lst (out.map λt =>.ref t.1))) l4 (.tup (out.map λt =>.ref t.1)) l4=some (.tup (out.map λt =>.ref t.1)):=ae
  have g5:=af hz (.tup [.int m,.ref l4])
  have ez:upd (upd (upd HW l3 (.lst (out.map λt =>.ref t.1))) l4 (.tup (out.map λt =>.ref t.1))) z (.tup [.int m,.ref l4]) z=some (.tup [.int m,.ref l4]):=ae
  have gg:=g3.trans (g4.trans g5)
  have el4:=g5 _ _ el4
  have sY:=sY.trans gg
  have sZ:=sZ.trans gg
  have WP:=WP.same gg
  have elX:=gg _ _ elX
  have tall:=tall.same gg
  generalize upd (upd (upd HW l3 (.lst (out.map λt =>.ref t.1))) l4 (.tup (out.map λt =>.ref t.1))) z (.tup [.int m,.ref l4])=HV at g5 ez el4 sY sZ WP elX tall
  obtain ⟨tw,ew1,ew2⟩:=WP.ow.at'
  have eqm:us.map (·.2)=out.map (·.2):=ef ((pmU.trans (by rw[Ap,eR,filter_all c];exact CS _)).trans (pm.map (·.2)).symm) WP.so (gU so)
  refine ⟨zp,z,_,_,rfl,rfl,SqT.of ew1,SqT.of ez,dD ew2 el4 WP.ow.tup (λu hu=>tall u (pm.mem_iff.mp hu)) eqm,_,rfl,aH ?_⟩
  clear ew1 ew2 ez
  refine ⟨_,rfl,_,rfl,t,_,0,_,rfl,rfl,SqT.of (sY _ _ et),rfl,_,rfl,t,_,1,_,rfl,rfl,SqT.of (sY _ _ et),rfl,aT.mpr ⟨2,.ref r,.int a,.int b,rfl,.inr (.inr (.inl ⟨rfl,cn.mpr ⟨r,m,a,b,ts,rfl,W.same sZ,λ_ HL sL=>⟨Z.xm_NoTie,λeb heb =>?_⟩,λc'=>absurd c' c⟩⟩))⟩⟩
  have gb:=af heb (aU eb (.ref c_NoTie) none)
  have eeb:upd HL eb (aU eb (.ref c_NoTie) none) eb=some (aU eb (.ref c_NoTie) none):=ae
  have sM:=sZ.trans (sL.trans gb)
  have sN:=sY.trans (sL.trans gb)
  have elX:=(sL.trans gb) _ _ elX
  generalize upd HL eb (aU eb (.ref c_NoTie) none)=HM at gb eeb sM sN elX
  refine ⟨_,rfl,l,_,rfl,.inl (SqL.of elX),_,rfl,r,_,1,_,rfl,rfl,SqT.of (sN _ _ e1),rfl,t0,_,rfl,.inr (SqT.of (sN _ _ e2)),rfl,_,rfl,?_⟩
  rw[decide_eq_true (by rw[Ac,Ac,lR])]
  refine aR ⟨_,rfl,(by show 2<=Ai;decide),λp9 hp9 =>?_⟩
  have g9:=af hp9 (.tup [.int 2,.non])
  exact bE.mpr ⟨eb,p9,c_NoTie,none,2,.non,rfl,g9 _ _ eeb,ae,kN,by decide,λe=>absurd e (by decide),λH' s=>q _ (sM.trans (g9.trans s))⟩
end
open PySem L2
theorem rK {l m:List Int}(hl:l.Pairwise (· < ·))(hm:m.Pairwise (· < ·))(h:∀x,x∈l↔x∈m):l=m:=by
 have nl:l.Nodup:=hl.imp λh=>Int.ne_of_lt h
 have nm:m.Nodup:=hm.imp λh=>Int.ne_of_lt h
 exact ((Cd nl nm).mpr h).eq_of_pairwise (λa b _ _ h1 h2=>Int.le_antisymm h1 h2) (hl.imp λh=>Int.le_of_lt h) (hm.imp λh=>Int.le_of_lt h)
def hJ (f:Int->Bool)(n:Nat):List Int:=((BL n).filter λb:Nat=>f (b:Int)).map λb:Nat=>(b:Int)
theorem gs (f:Int->Bool)(n:Nat):hJ f (n+1)=hJ f n++(if f (n:Int)=true then [(n:Int)] else []):=by
 unfold hJ
 rw[List.range_succ,Cm,Ap]
 congr 1
 by_cases c:f (n:Int)=true
 ·rw[if_pos c];simp[c]
 ·rw[if_neg c];simp[c]
theorem o7 (f:Int->Bool)(n:Nat):(hJ f n).Pairwise (· < ·):=by
 unfold hJ
 exact Bm.mpr ((Fu.filter _).imp λh=>Int.ofNat_lt.mpr h)
theorem o8 {f:Int->Bool}{n:Nat}{x:Int}:x∈hJ f n↔0<=x/\x<n/\f x=true:=by
 unfold hJ
 rw[AG]
 constructor
 ·rintro ⟨b,hb,rfl⟩
  rw[AS,Bp] at hb
  exact ⟨by omega,by omega,hb.2⟩
 ·rintro ⟨h0,h1,h2⟩
  refine ⟨x.toNat,?_,by omega⟩
  rw[AS,Bp]
  exact ⟨by omega,by rw[show ((x.toNat:Nat):Int)=x by omega];exact h2⟩
theorem xW {E:List (List Int)}(so:E.Pairwise fC)(nd:E.Nodup):E.Pairwise λa b=>fC a b/\a≠b:=so.and nd
theorem xE {E:List (List Int)}{m:Nat}{k:Int}(so:E.Pairwise fC)(nd:E.Nodup)(rg:∀t∈E,∃x y,t=[x,y]/\0<=x/\x<(m:Int)/\0<=y/\y<(m:Int)):oG E k=hJ (λb=>decide ([k,b]∈E)) m:=by
 refine rK ?_ (o7 _ _) λx =>?_
 ·unfold oG
  refine Bm.mpr (((xW so nd).filter _).imp_of_mem λ{a b} ha hb h =>?_)
  obtain ⟨x,y,rfl,_⟩:=rg a (AS.mp ha).1
  obtain ⟨x',y',rfl,_⟩:=rg b (AS.mp hb).1
  have e1:x=k:=of_decide_eq_true (AS.mp ha).2
  have e2:x'=k:=of_decide_eq_true (AS.mp hb).2
  rcases z8.mp h.1 with z | ⟨_,z⟩
  ·omega
  ·show y<y'
   have:y≠y':=λe=>h.2 (by rw[e1,e2,e])
   omega
 ·rw[o8]
  unfold oG
  rw[AG]
  constructor
  ·rintro ⟨t,ht,e⟩
   obtain ⟨a,y,rfl,x0,x1,y0,y1⟩:=rg t (AS.mp ht).1
   have e1:a=k:=of_decide_eq_true (AS.mp ht).2
   have e:y=x:=e
   subst e1;subst e
   exact ⟨y0,y1,decide_eq_true (AS.mp ht).1⟩
  ·rintro ⟨_,_,h⟩
   exact ⟨[k,x],AS.mpr ⟨of_decide_eq_true h,decide_eq_true rfl⟩,rfl⟩
theorem zg {E:List (List Int)}{m:Nat}{k:Int}(so:E.Pairwise fC)(nd:E.Nodup)(rg:∀t∈E,∃x y,t=[x,y]/\0<=x/\x<(m:Int)/\0<=y/\y<(m:Int)):inP E k=hJ (λb=>decide ([b,k]∈E)) m:=by
 refine rK ?_ (o7 _ _) λx =>?_
 ·unfold inP
  refine Bm.mpr (((xW so nd).filter _).imp_of_mem λ{a b} ha hb h =>?_)
  obtain ⟨x,y,rfl,_⟩:=rg a (AS.mp ha).1
  obtain ⟨x',y',rfl,_⟩:=rg b (AS.mp hb).1
  have e1:y=k:=of_decide_eq_true (AS.mp ha).2
  have e2:y'=k:=of_decide_eq_true (AS.mp hb).2
  show x<x'
  rcases z8.mp h.1 with z | ⟨z,_⟩
  ·exact z
  ·exact absurd (by rw[z,e1,e2]) h.2
 ·rw[o8]
  unfold inP
  rw[AG]
  constructor
  ·rintro ⟨t,ht,e⟩
   obtain ⟨a,y,rfl,x0,x1,y0,y1⟩:=rg t (AS.mp ht).1
   have e1:y=k:=of_decide_eq_true (AS.mp ht).2
   have e:a=x:=e
   subst e1;subst e
   exact ⟨x0,x1,decide_eq_true (AS.mp ht).1⟩
  ·rintro ⟨_,_,h⟩
   exact ⟨[x,k],AS.mpr ⟨of_decide_eq_true h,decide_eq_true rfl⟩,rfl⟩
theorem rgE {m:Int}{ts:List (Addr×List Int)}(h:Rg m ts):∀t∈ts.map (·.2),∃x y,t=[x,y]/\0<=x/\x<m/\0<=y/\y<m:=λt ht=>by
 obtain ⟨u,hu,rfl⟩:=AG.mp ht
 exact h u hu
theorem Wo.bu {p:Addr}{H H':Hp}{b:Addr}{m:Int}{ts:List (Addr×List Int)}(W:Wo H b m ts)(u:Bu 1 p H H')(h:Pt 1 H p):Wo H' b m ts:=⟨W.ow.bu u h,W.so,W.nd,W.le⟩
abbrev lZ:Sp:=λvs H Q _=>∃(p r:Addr) (m:Nat) (ts:List (Addr×List Int)),vs=[.ref p,.ref r]/\Pt 1 H p/\Wo H r (m:Int) ts/\m<=40/\∀H',Bu 1 p H H'->Q (.bl true) H'
@[irreducible] def iG:Sp:=lZ
theorem fj {vs:List V}{H:Hp}{Q:VK}{E:XK}:iG vs H Q E↔lZ vs H Q E:=by
 delta iG
 exact Cj
open PySem L2
theorem vM {K:Ab}{H:Hp}{t:Addr}{m:Int}{ts:List (Addr×List Int)}(tu:Tus H ts)(rg:Rg m ts)(e:H t=some (.tup (ts.map λu =>.ref u.1))):SqT K H t ((ts.map λu=>(u.1,V.int (u.2.getD 0 0),V.int (u.2.getD 1 0))).map λt =>.ref t.1)/\∀t∈ts.map λu=>(u.1,V.int (u.2.getD 0 0),V.int (u.2.getD 1 0)),SqT K H t.1 [t.2.1,t.2.2]:=by
 rw[lX]
 refine ⟨SqT.of e,λt ht =>?_⟩
 obtain ⟨u,hu,rfl⟩:=AG.mp ht
 obtain ⟨x,y,e,_⟩:=rg u hu
 have:=tu u hu
 rw[e] at this
 have e0:(u.1,V.int (u.2.getD 0 0),V.int (u.2.getD 1 0))=(u.1,V.int x,V.int y):=by rw[e];rfl
 rw[e0]
 exact SqT.of this
theorem xX (xs:List V)(k:Nat):pF xs none (some (k:Int))=xs.take k:=by
 unfold pF
 rw[HT.um,HT.vV,FW,Nat.sub_zero]
 by_cases h:k<=xs.length
 ·rw[Hm h]
 ·rw[Nat.min_eq_right (by omega),AA (Ah _),AA (by omega)]
section
variable  {P:Au}{w:AX}{K:Ab}{mg:Str->Option Ae}{base:Heap}{f:Addr}{fd:Be}{c_WebError c_BadWeb c_NoStep c_NoText c_TooMany c_NoTie c_NoRing c_NotClear c_NotThree c_BadBoard c_NoRow c_NoBack:Addr}
theorem bX:aP ["pot", "web", "many", "arrows", "place", "places", "ties", "due", "found", "turn"] ["pot", "web"] (aq mY):=⟨rfl,rfl,rfl,by decide +kernel,rfl,by decide +kernel,by decide +kernel⟩
theorem fk:(["turn", "pot", "many"]:List Str).Nodup:=by decide +kernel
theorem eF:(["b", "place", "arrows"]:List Str).Nodup:=by decide +kernel
theorem eI:(["a", "place", "arrows"]:List Str).Nodup:=by decide +kernel
theorem iH:(["a", "b"]:List Str).Nodup:=by decide +kernel
theorem kK:(["pair"]:List Str).Nodup:=by decide +kernel
theorem vN (F:Fun K "_law_right" "_law_right" mY f fd)(B:Blt mg)(Z:Exs K mg c_WebError c_BadWeb c_NoStep c_NoText c_TooMany c_NoTie c_NoRing c_NotClear c_NotThree c_BadBoard c_NoRow c_NoBack)(cLSomePlaces:Cal P w K mg base 2 "_law_some_places" ["pot", "many"] jx)(cLHeard:Cal P w K mg base 5 "_law_heard" ["way", "one", "other", "third"] (gq K c_BadWeb c_TooMany c_NoTie c_WebError))(cLTake:Cal P w K mg base 1 "_law_take" ["pot", "many"] gQ)(cCutOneway:Cal P w K mg base 1 "cut_oneway" ["web", "places"] nc)(cLLess:Cal P w K mg base 1 "_law_less" ["web", "places"] jy)(cTurnedArrows:Cal P w K mg base 1 "turned_arrows" ["web"] jw)(cArrowsOut:Cal P w K mg base 1 "arrows_out" ["web", "place"] m7)(cArrowsIn:Cal P w K mg base 1 "arrows_in" ["web", "place"] m8)(cLArrowRight:Cal P w K mg base 6 "_law_arrow_right" ["web", "arrow"] rJ)(cLRefused:Cal P w K mg base 2 "_law_refused" ["found", "due"] (iZ K [c_BadWeb,c_TooMany,c_NoTie,c_NoRing,c_NotClear,c_NotThree,c_BadBoard,c_NoStep,c_NoText,c_NoRow,c_NoBack] c_WebError))(C:Cst mg):bC P w K mg base CX0 7 f fd ["pot", "web"] iG:=by
 refine F.ok bX (λvs H Q E h =>?_) (λcdv A outer s H vs Q E hr h =>?_)
 ·obtain ⟨_,_,_,_,rfl,_⟩:=fj.mp h
  rfl
 obtain ⟨p,r,m,ts,rfl,hp,W,hm40,q⟩:=fj.mp h
 refine ⟨_,(@ai _ _ _ _ _ (@ph _ _ _ _ _ _ (pv 1) (pf rfl (dY (aQ (i:=2) bX.nd rfl (Or.inr rfl)) (dY (aQ (i:=3) bX.nd rfl (Or.inr rfl)) mh))) rfl rfl rfl)
  (@ai _ _ _ _ _ (@fz _ _ _ _ _ _ _ _ CY rfl (@qC _ _ _ _ (bO ["turn", "pot", "many"] [none,some 0,some 2] rfl (bR rfl B.b_range (@aa _ _ _ _ _ (@ba _ _ _ _ _ _ _ _ gI ah (aD d7 rfl B.b_int gN (@aa _ _ _ _ _ (cX kR (pv 2) ah (aN _)) ag rfl))) ag rfl)) rfl (λ_ _ _ _ _=>(aQ (i:=0) fk rfl (Or.inl rfl))) (λ_ _ _ _ _=>dN) (λ_ _ _ _ _=>(aG cLTake hr (by decide) rfl (@aa _ _ _ _ _ (pv 1) (@aa _ _ _ _ _ (pv 2) ag rfl) rfl))))) (aQ (i:=4) bX.nd rfl (Or.inr rfl))
   (@ai _ _ _ _ _ (@bz _ _ _ _ _ _ _ _ (aE (q9 hr) (aG cArrowsOut hr (by decide) rfl (@aa _ _ _ _ _ (pv 1) (@aa _ _ _ _ _ (pv 4) ag rfl) rfl)) (aD az rfl B.b_tuple aM (@aa _ _ _ _ _ (bO ["b", "place", "arrows"] [none,some 4,some 3] rfl (bR rfl B.b_range (@aa _ _ _ _ _ (pv 2) ag rfl)) rfl (λ_ _ _ _ _=>(aQ (i:=0) eF rfl (Or.inl rfl))) (λ_ _ _ _ _=>(eQ (aE (mM (hu8 hr)) (@aF _ _ _ _ _ (@aa _ _ _ _ _ (pv 1) (@aa _ _ _ _ _ (pv 0) ag rfl) rfl)) (pv 2) rfl))) (λ_ _ _ _ _=>(pv 0))) ag rfl)) (aN _)) bA aL)
   (@ao _ _ _ (@bz _ _ _ _ _ _ _ _ (aE (q9 hr) (aG cArrowsIn hr (by decide) rfl (@aa _ _ _ _ _ (pv 1) (@aa _ _ _ _ _ (pv 4) ag rfl) rfl)) (aD az rfl B.b_tuple aM (@aa _ _ _ _ _ (bO ["a", "place", "arrows"] [none,some 4,some 3] rfl (bR rfl B.b_range (@aa _ _ _ _ _ (pv 2) ag rfl)) rfl (λ_ _ _ _ _=>(aQ (i:=0) eI rfl (Or.inl rfl))) (λ_ _ _ _ _=>(eQ (aE (mM (hu8 hr)) (@aF _ _ _ _ _ (@aa _ _ _ _ _ (pv 0) (@aa _ _ _ _ _ (pv 1) ag rfl) rfl)) (pv 2) rfl))) (λ_ _ _ _ _=>(pv 0))) ag rfl)) (aN _)) bA aL))) (λ_=>rfl))
  (@ai _ _ _ _ _ (@aX _ _ 5 _ _ _ _ bX.nd rfl (Or.inl rfl) (aG cLSomePlaces hr (by decide) rfl (@aa _ _ _ _ _ (pv 0) (@aa _ _ _ _ _ (pv 2) ag rfl) rfl)) rfl (by first | exact .inl rfl | exact .inr rfl | assumption))
  (@ai _ _ _ _ _ (@bz _ _ _ _ _ _ _ _ (aE (iu hr) (aG cCutOneway hr (by decide) rfl (@aa _ _ _ _ _ (pv 1) (@aa _ _ _ _ _ (pv 5) ag rfl) rfl)) (aG cLLess hr (by decide) rfl (@aa _ _ _ _ _ (pv 1) (@aa _ _ _ _ _ (pv 5) ag rfl) rfl)) (aN _)) bA aL)
  (@ai _ _ _ _ _ (@bz _ _ _ _ _ _ _ _ (aE (iu hr) (aG cTurnedArrows hr (by decide) rfl (@aa _ _ _ _ _ (pv 1) ag rfl)) (@aF _ _ _ _ _ (@aa _ _ _ _ _ (pv 2) (@aa _ _ _ _ _ (aD az rfl B.b_tuple aM (@aa _ _ _ _ _ (aj bZ rfl B.b_sorted cu (@aa _ _ _ _ _ (bO ["a", "b"] [none,none] rfl (@cU _ _ _ _ (pv 3)) rfl (λ_ _ _ _ _=>(jO (K:=K) (i:=0) (j:=1) iH rfl rfl (Or.inl rfl) (Or.inl rfl))) (λ_ _ _ _ _=>dN) (λ_ _ _ _ _=>(@aF _ _ _ _ _ (@aa _ _ _ _ _ (pv 1) (@aa _ _ _ _ _ (pv 0) ag rfl) rfl)))) ag rfl)) ag rfl)) ag rfl) rfl)) (aN _)) bA aL)
  (@ai _ _ _ _ _ (eS (i:=6) ["pair"] [none] rfl bX.nd rfl rfl (@cU _ _ _ _ (pv 3)) rfl (λ_ _ _ _ _=>(aQ (i:=0) kK rfl (Or.inl rfl))) (λ_ _ _ _ _=>dN) (λ_ _ _ _ _=>(@aF _ _ _ _ _ (@aa _ _ _ _ _ (aj (tE rfl) rfl B.b_min ql (@aa _ _ _ _ _ (pv 0) ag rfl)) (@aa _ _ _ _ _ (aj (tF rfl) rfl B.b_max qk (@aa _ _ _ _ _ (pv 0) ag rfl)) ag rfl) rfl))))
  (@ai _ _ _ _ _ (@aX _ _ 6 _ _ _ _ bX.nd rfl (Or.inl rfl) (aD az rfl B.b_tuple aM (@aa _ _ _ _ _ (aj bZ rfl B.b_sorted cu (@aa _ _ _ _ _ (@ba _ _ _ _ _ _ _ _ mz (pv 6) (uo v5 (pv 6) vX (vY (aD d7 rfl B.b_int gN (@aa _ _ _ _ _ (cX nq (aj aO rfl B.b_len cc (@aa _ _ _ _ _ (pv 6) ag rfl)) ah (aN _)) ag rfl))))) ag rfl)) ag rfl)) rfl (by first | exact .inl rfl | exact .inr rfl | assumption))
  (@ai _ _ _ _ _ (@aX _ _ 7 _ _ _ _ bX.nd rfl (Or.inl rfl) (@aF _ _ _ _ _ (@aa _ _ _ _ _ (pv 2) (@aa _ _ _ _ _ (aD az rfl B.b_tuple aM (@aa _ _ _ _ _ (aj (fF (w:=w) rfl hr.hd) rfl B.b_sorted cu (@aa _ _ _ _ _ (aD (jU (w:=w) rfl hr.hd hr.units) rfl B.b_set vy (@aa _ _ _ _ _ (@ba _ _ _ _ _ _ _ _ oa (pv 6) (aD az rfl B.b_tuple aM (@aa _ _ _ _ _ (bO ["a", "b"] [none,none] rfl (@cU _ _ _ _ (pv 6)) rfl (λ_ _ _ _ _=>(jO (K:=K) (i:=0) (j:=1) iH rfl rfl (Or.inl rfl) (Or.inl rfl))) (λ_ _ _ _ _=>dN) (λ_ _ _ _ _=>(@aF _ _ _ _ _ (@aa _ _ _ _ _ (pv 1) (@aa _ _ _ _ _ (pv 0) ag rfl) rfl)))) ag rfl))) ag rfl)) ag rfl)) ag rfl)) ag rfl) rfl)) rfl (by first | exact .inl rfl | exact .inr rfl | assumption))
  (@ai _ _ _ _ _ (@aX _ _ 8 _ _ _ _ bX.nd rfl (Or.inl rfl) (aG cLHeard hr (by decide) rfl (@aa _ _ _ _ _ ah (@aa _ _ _ _ _ (@aF _ _ _ _ _ (@aa _ _ _ _ _ (pv 2) (@aa _ _ _ _ _ (pv 6) ag rfl) rfl)) (@aa _ _ _ _ _ ah (@aa _ _ _ _ _ ah ag rfl) rfl) rfl) rfl)) rfl (by first | exact .inl rfl | exact .inr rfl | assumption))
  (@ai _ _ _ _ _ (@bz _ _ _ _ _ _ _ _ (aE kR (aj aO rfl B.b_len cc (@aa _ _ _ _ _ (@aJ _ _ _ _ _ _ _ aS (pv 7) ah (λ_ _=>rfl)) ag rfl)) ah (aN _)) (@ao _ _ _ (@aX _ _ 7 _ _ _ _ bX.nd rfl (Or.inl rfl) cj rfl (by first | exact .inl rfl | exact .inr rfl | assumption))) aL)
  (@ai _ _ _ _ _ (@bz _ _ _ _ _ _ _ _ (PW.pt (dX (PW.pt (iJ (aE uf (pv 7) cj (aN _)) (fV (bK (bJ (aG cLRefused hr (by decide) rfl (@aa _ _ _ _ _ (pv 8) (@aa _ _ _ _ _ (@aF _ _ _ _ _ (@aa _ _ _ _ _ ah (@aa _ _ _ _ _ cj ag rfl) rfl)) ag rfl) rfl))))))) (di (PW.pt (iJ (aE qJ (pv 7) cj (aN _)) (fV (aE (iu hr) (pv 8) (pv 7) (aN _)))))))) bA aL)
  (@ai _ _ _ _ _ (@fz _ _ _ _ _ _ _ _ CY rfl (bR rfl B.b_range (@aa _ _ _ _ _ (@ba _ _ _ _ _ _ _ _ gI ah (aD d7 rfl B.b_int gN (@aa _ _ _ _ _ (cX kR (pv 2) ah (aN _)) ag rfl))) ag rfl)) (aQ (i:=9) bX.nd rfl (Or.inl rfl))
   (@ao _ _ _ (@bz _ _ _ _ _ _ _ _ (bK (bJ (aG cLArrowRight hr (by decide) rfl (@aa _ _ _ _ _ (pv 1) (@aa _ _ _ _ _ (@aF _ _ _ _ _ (@aa _ _ _ _ _ (aG cLTake hr (by decide) rfl (@aa _ _ _ _ _ (pv 0) (@aa _ _ _ _ _ (pv 2) ag rfl) rfl)) (@aa _ _ _ _ _ (aG cLTake hr (by decide) rfl (@aa _ _ _ _ _ (pv 0) (@aa _ _ _ _ _ (pv 2) ag rfl) rfl)) ag rfl) rfl)) ag rfl) rfl)))) bA aL)) (λ_=>rfl))
  (@ao _ _ _ (@aV _ _ _ _ hW)))))))))))))),?_⟩
 obtain ⟨t0,e1,e2⟩:=W.ow.at'
 have le:=W.le
 refine ⟨_,rfl,r,_,rfl,SqT.of e1,rfl,_,_,rfl,_,_,rfl,rfl,?_⟩
 refine ⟨_,rfl,_,_,rfl,rfl,.inr ⟨_,rfl,_,_,rfl,rfl,.inr ⟨by split <;> decide,by split <;> decide⟩,?_⟩⟩
 obtain ⟨N,hN,N1,N2⟩:∃N:Nat,6*(if decide ((m:Int)>0)=true then 1 else 0)=(N:Int)/\N<=6/\(0<N->0<m):=by
  by_cases c:(m:Int)>0
  ·exact ⟨6,by rw[decide_eq_true c,if_pos rfl];rfl,by decide,λ_=>by omega⟩
  ·exact ⟨0,by rw[decide_eq_false c,if_neg Ao];rfl,by decide,λh=>absurd h (by decide)⟩
 refine ⟨(N:Int),congrArg (λx=>[V.int x]) hN,by omega,by omega,?_⟩
 rw[Bb]
 refine cK (λi ys H'=>Bu 1 p H H'/\∃ns:List Int,ys=ns.map V.int/\ns.length=i) ⟨Bu.refl hp,[],rfl,rfl⟩ (small (by omega)) ?_ ?_
 ·rintro i ys G hi hy ⟨uG,ns,rfl,ln⟩ R1 R0 r1 r0
  have hm:=N2 (by omega)
  exact aR ⟨_,rfl,_,rfl,aB.mpr ⟨p,(m:Int),rfl,uG.pot,by omega,by omega,λd G2 d0 d1 u2=>r1 _ _ ⟨uG.trans u2,ns++[d],by rw[Ap];rfl,by rw[Am,ln];rfl⟩⟩⟩
 rintro ys G hy ⟨uG,ns,rfl,ln⟩ l hl
 have g0:=af hl (.lst (ns.map V.int))
 have el:upd G l (.lst (ns.map V.int)) l=some (.lst (ns.map V.int)):=ae
 have nl:l≠p:=uG.pot.ne hl
 have u0:=uG.same g0
 generalize upd G l (.lst (ns.map V.int))=G0 at g0 el u0
 have sgm:∀{G1:Hp},Bu 1 p H G1->Wo G1 r (m:Int) ts/\G1 r=some (.tup [.int m,.ref t0])/\G1 t0=some (.tup (ts.map λu =>.ref u.1)):=λ{G1} u=>⟨W.bu u hp,u.tup hp e1,u.tup hp e2⟩
 refine ⟨l,rfl,⟨_,SqL.of el⟩,t9 (xs:=ns.map V.int) (λi σ H'=>(∃c4 c5 c6 c7 c8 c9,σ=[some (.ref p),some (.ref r),some (.int (m:Int)),some (.ref t0),c4,c5,c6,c7,c8,c9])/\Bu 1 p H H'/\H' l=some (.lst (ns.map V.int))) ⟨⟨_,_,_,_,_,_,rfl⟩,u0,el⟩ (λi σ H' _ z=>SqL.of z.2.2) ?_ ?_⟩
 ·rintro i x σ G1 hx ⟨⟨c4,c5,c6,c7,c8,c9,rfl⟩,u1,el⟩
  obtain ⟨k,rfl⟩:∃k,x=V.int k:=by
   obtain ⟨k,_,e⟩:=AG.mp (AJ hx)
   exact ⟨k,e.symm⟩
  obtain ⟨W1,f1,f2⟩:=sgm u1
  refine ⟨_,rfl,_,rfl,gW.mpr ⟨r,_,k,ts,rfl,W1.ow,by omega,λp1 G2 s2 ep1 =>?_⟩⟩
  have u2:=u1.same s2
  obtain ⟨W2,f1,f2⟩:=sgm u2
  have el:=s2 _ _ el
  refine ⟨_,rfl,(m:Int),rfl,by omega,by omega,?_⟩
  rw[Bb]
  refine cK (λi ys H'=>ay G2 H'/\ys=((hJ (λb=>decide ([k,b]∈ts.map (·.2))) i)).map V.int) ⟨ay.refl _,rfl⟩ (small (by omega)) ?_ ?_
  ·rintro j ys G3 hj hy ⟨s3,rfl⟩ R1 R0 r1 r0
   refine ⟨_,rfl,_,rfl,(by show 2<=Ai;decide),λq1 hq1 =>?_⟩
   have g4:=af hq1 (.tup [.int k,.int (0+(j:Int))])
   have eq1:upd G3 q1 (.tup [.int k,.int (0+(j:Int))]) q1=some (.tup ([k,(0+(j:Int))].map V.int)):=ae
   have s4:=s3.trans g4
   generalize upd G3 q1 (.tup [.int k,.int (0+(j:Int))])=G4 at g4 eq1 s4
   refine ⟨_,rfl,t0,q1,ts,[k,(0+(j:Int))],rfl,rfl,s4 _ _ f2,(W2.same s4).ow.tup,eq1,_,rfl,?_⟩
   rw[EB]
   by_cases c:[k,(j:Int)]∈ts.map (·.2)
   ·rw[decide_eq_true c]
    refine aR ⟨_,rfl,r1 _ _ ⟨s4,?_⟩⟩
    rw[gs,if_pos (decide_eq_true c),Ap];rfl
   ·rw[decide_eq_false c]
    refine aH (r0 _ ⟨s4,?_⟩)
    rw[gs,if_neg (by rw[decide_eq_false c];decide),AZ]
  rintro ys G3 hy ⟨s3,rfl⟩ l3 hl3
  refine ⟨l3,_,rfl,.inl ⟨SqL.of ae,λt3 ht3 =>?_⟩⟩
  have g5:=(af hl3 (.lst (((hJ (λb=>decide ([k,b]∈ts.map (·.2))) m)).map V.int))).trans (af ht3 (.tup (((hJ (λb=>decide ([k,b]∈ts.map (·.2))) m)).map V.int)))
  refine ⟨p1,t3,_,_,rfl,rfl,SqT.of (g5 _ _ (s3 _ _ ep1)),SqT.of ae,_,rfl,?_⟩
  rw[decide_eq_true (xE W.so W.nd (rgE W.ow.rng))]
  refine aH ?_
  have u6:=u2.same (s3.trans g5)
  have el:=g5 _ _ (s3 _ _ el)
  obtain ⟨W6,_,_⟩:=sgm u6
  refine ⟨_,rfl,_,rfl,gX.mpr ⟨r,_,k,ts,rfl,W6.ow,by omega,λp1 G2 s2 ep1 =>?_⟩⟩
  have u2:=u6.same s2
  obtain ⟨W2,f1,f2⟩:=sgm u2
  have el:=s2 _ _ el
  refine ⟨_,rfl,(m:Int),rfl,by omega,by omega,?_⟩
  rw[Bb]
  refine cK (λi ys H'=>ay G2 H'/\ys=((hJ (λb=>decide ([b,k]∈ts.map (·.2))) i)).map V.int) ⟨ay.refl _,rfl⟩ (small (by omega)) ?_ ?_
  ·rintro j ys G3 hj hy ⟨s3,rfl⟩ R1 R0 r1 r0
   refine ⟨_,rfl,_,rfl,(by show 2<=Ai;decide),λq1 hq1 =>?_⟩
   have g4:=af hq1 (.tup [.int (0+(j:Int)),.int k])
   have eq1:upd G3 q1 (.tup [.int (0+(j:Int)),.int k]) q1=some (.tup ([(0+(j:Int)),k].map V.int)):=ae
   have s4:=s3.trans g4
   generalize upd G3 q1 (.tup [.int (0+(j:Int)),.int k])=G4 at g4 eq1 s4
   refine ⟨_,rfl,t0,q1,ts,[(0+(j:Int)),k],rfl,rfl,s4 _ _ f2,(W2.same s4).ow.tup,eq1,_,rfl,?_⟩
   rw[EB]
   by_cases c:[(j:Int),k]∈ts.map (·.2)
   ·rw[decide_eq_true c]
    refine aR ⟨_,rfl,r1 _ _ ⟨s4,?_⟩⟩
    rw[gs,if_pos (decide_eq_true c),Ap];rfl
   ·rw[decide_eq_false c]
    refine aH (r0 _ ⟨s4,?_⟩)
    rw[gs,if_neg (by rw[decide_eq_false c];decide),AZ]
  rintro ys G3 hy ⟨s3,rfl⟩ l3 hl3
  refine ⟨l3,_,rfl,.inl ⟨SqL.of ae,λt3 ht3 =>?_⟩⟩
  have g5:=(af hl3 (.lst (((hJ (λb=>decide ([b,k]∈ts.map (·.2))) m)).map V.int))).trans (af ht3 (.tup (((hJ (λb=>decide ([b,k]∈ts.map (·.2))) m)).map V.int)))
  refine ⟨p1,t3,_,_,rfl,rfl,SqT.of (g5 _ _ (s3 _ _ ep1)),SqT.of ae,_,rfl,?_⟩
  rw[decide_eq_true (zg W.so W.nd (rgE W.ow.rng))]
  refine aH ?_
  have u7:=u2.same (s3.trans g5)
  have el:=g5 _ _ (s3 _ _ el)
  exact ⟨⟨_,_,_,_,_,_,rfl⟩,u7,el⟩
 rintro σ G1 ⟨⟨c4,c5,c6,c7,c8,c9,rfl⟩,u1,_⟩
 refine ⟨_,rfl,_,rfl,fQ.mpr ⟨p,m,rfl,u1.pot,hm40,λpa P G2 u2 epa lP =>?_⟩⟩
 have u2:=u1.trans u2
 obtain ⟨W2,f1,f2⟩:=sgm u2
 refine ⟨_,rfl,_,rfl,gY.mpr ⟨r,pa,m,ts,P,rfl,W2.ow,by omega,epa,λb1 us1 G3 s3 w1 em1 =>?_⟩⟩
 have epa:=s3 _ _ epa
 refine ⟨_,rfl,_,rfl,fR.mpr ⟨r,pa,m,ts,P,rfl,W2.ow.same s3,by omega,epa,λb2 us2 G4 s4 w2 em2 =>?_⟩⟩
 obtain ⟨x1,y1,z1⟩:=(w1.same s4).at'
 obtain ⟨x2,y2,z2⟩:=w2.at'
 refine ⟨b1,b2,_,_,rfl,rfl,SqT.of y1,SqT.of y2,dD z1 z2 (w1.same s4).tup w2.tup (em1.trans em2.symm),_,rfl,aH ?_⟩
 have u4:=u2.same (s3.trans s4)
 clear x1 y1 z1 x2 y2 z2
 obtain ⟨W4,f1,f2⟩:=sgm u4
 refine ⟨_,rfl,fM.mpr ⟨r,m,ts,rfl,W4.ow,by omega,λb3 us3 G5 s5 w3 pm3 so3 =>?_⟩⟩
 have u5:=u4.same s5
 obtain ⟨W5,f1,f2⟩:=sgm u5
 obtain ⟨x3,y3,z3⟩:=w3.at'
 refine ⟨_,rfl,_,rfl,t0,rfl,⟨_,SqT.of f2⟩,iT (ts:=ts.map λu:Addr×List Int=>(u.1,V.int (u.2.getD 0 0),V.int (u.2.getD 1 0))) (λi ys H'=>ay G5 H'/\∃us:List (Addr×List Int),ys=us.map (λu =>.ref u.1)/\Tus H' us/\us.map (·.2)=((ts.map (·.2)).take i).map swp) (by decide) ⟨ay.refl _,[],rfl,λu hu=>(by cases hu),rfl⟩ (by rw[Ac];exact small (by omega)) (λi ys H' _ k=>rE (W5.same k.1).ow (k.1 _ _ f2)) ?_ ?_⟩
 ·rintro i v ys G6 hv hy ⟨s6,us,rfl,tu,eu⟩ R1 R0 r1 r0
  obtain ⟨u,hu,rfl⟩:=ng hv
  have mu:=AJ hu
  obtain ⟨x,y,e3,_⟩:=W.ow.rng u mu
  have h0:u.2.getD 0 0=x:=by rw[e3];rfl
  have h1:u.2.getD 1 0=y:=by rw[e3];rfl
  rw[h0,h1]
  refine aR ⟨_,rfl,_,rfl,(by show 2<=Ai;decide),λc hc=>r1 _ _ ⟨s6.trans (af hc _),us++[(c,[y,x])],by rw[Ap];rfl,Tus.iF (tu.same (af hc _)) (u:=(c,[y,x])) ae,?_⟩⟩
  rw[Ap,eu,Bc,AO,hu,Ap]
  show _++[[y,x]]=_++[swp u.2]
  rw[e3];rfl
 rintro ys G6 hy ⟨s6,us,rfl,tu,eu⟩ l6 hl6
 rw[Ac,AA (by rw[Ac];exact Ah _)] at eu
 have g6:=af hl6 (.lst (us.map λu =>.ref u.1))
 have el6:upd G6 l6 (.lst (us.map λu =>.ref u.1)) l6=some (.lst (us.map λu =>.ref u.1)):=ae
 have tu:=tu.same g6
 have u6:=u5.same (s6.trans g6)
 have s6:=s6.trans g6
 generalize upd G6 l6 (.lst (us.map λu =>.ref u.1))=G7 at g6 el6 tu u6 s6
 refine ⟨l6,us,rfl,.inl (SqL.of el6),λt ht=>⟨SqT.of (tu t ht),?_⟩,λl7 out hl7 pm so =>?_⟩
 ·have:t.2∈us.map (·.2):=BA ht
  rw[eu] at this
  obtain ⟨v,hv,ev⟩:=AG.mp this
  rw[<- ev];intro z;cases z
 refine ⟨l7,_,rfl,.inl ⟨SqL.of ae,λl8 hl8=>⟨(by show 2<=Ai;decide),λb4 hb4 =>?_⟩⟩⟩
 have g7:=af hl7 (.lst (out.map λt =>.ref t.1))
 have g8:=af hl8 (.tup (out.map λt =>.ref t.1))
 have g9:=af hb4 (.tup [.int (m:Int),.ref l8])
 have gg:=g7.trans (g8.trans g9)
 refine ⟨b3,b4,_,_,rfl,rfl,SqT.of ((s6.trans gg) _ _ y3),SqT.of ae,dD ((s6.trans gg) _ _ z3) (g9 _ _ ae) (λu hu=>(s6.trans gg) _ _ (w3.tup u hu)) (λu hu=>gg _ _ (tu u (pm.mem_iff.mp hu))) (ef (pm3.trans (by rw[<- eu];exact (pm.map (·.2)).symm)) so3 (gU so)),_,rfl,aH ?_⟩
 have u7:=u6.same gg
 clear x3 y3 z3 el6 hl7 hl8 hb4 g7 g8 g9
 generalize upd (upd (upd G7 l7 _) l8 _) b4 _=G8 at u7 gg
 clear gg
 obtain ⟨W8,f1,f2⟩:=sgm u7
 refine ⟨_,rfl,t0,rfl,⟨_,SqT.of f2⟩,bS (xs:=ts.map λu =>.ref u.1) (λi ys H'=>ay G8 H'/\∃us:List (Addr×List Int),ys=us.map (λu =>.ref u.1)/\Tus H' us/\us.map (·.2)=((ts.map (·.2)).take i).map (λt=>nrm (t.getD 0 0) (t.getD 1 0))) ⟨ay.refl _,[],rfl,λu hu=>(by cases hu),rfl⟩ (by rw[Ac];exact small (by omega)) (λi ys H' _ k=>SqT.of (k.1 _ _ f2)) ?_ ?_⟩
 ·rintro i x ys H1 hx hy ⟨s1,us,rfl,tu,eu⟩ R1 R0 r1 r0
  obtain ⟨u,hu,rfl⟩:=iE hx
  have mu:=AJ hu
  obtain ⟨x,y,e3,_⟩:=W.ow.rng u mu
  have hu1:=s1 _ _ (W8.ow.tup u mu)
  rw[e3] at hu1
  refine aR ⟨_,rfl,u.1,x,y,rfl,SqT.of hu1,_,rfl,u.1,x,y,rfl,SqT.of hu1,(by show 2<=Ai;decide),λa ha=>r1 _ _ ⟨s1.trans (af ha _),us++[(a,nrm x y)],by rw[Ap];rfl,Tus.iF (tu.same (af ha _)) (u:=(a,nrm x y)) ae,?_⟩⟩
  rw[Ap,eu,Bc,AO,hu,Ap]
  show _++[nrm x y]=_++[nrm (u.2.getD 0 0) (u.2.getD 1 0)]
  rw[e3];rfl
 rintro ys G9 hy ⟨s9,ns1,rfl,tu,eu⟩ la hla
 rw[Ac,AA (by rw[Ac];exact Ah _)] at eu
 have ln1:ns1.length=ts.length:=by have:=congrArg List.length eu;rwa [Ac,Ac,Ac] at this
 have rg1:Rg m ns1:=λu hu=>by
  have:u.2∈ns1.map (·.2):=BA hu
  rw[eu] at this
  obtain ⟨v,hv,ev⟩:=AG.mp this
  obtain ⟨w',hw,rfl⟩:=AG.mp hv
  obtain ⟨x,y,e,x0,x1,y0,y1⟩:=W.ow.rng w' hw
  refine ⟨mnI x y,mxI x y,by rw[<- ev,e];rfl,?_⟩
  unfold mnI mxI
  split <;> split <;> omega
 have ga:=af hla (.lst (ns1.map λu =>.ref u.1))
 have ela:upd G9 la (.lst (ns1.map λu =>.ref u.1)) la=some (.lst (ns1.map λu =>.ref u.1)):=ae
 have tu:=tu.same ga
 have ua:=u7.same (s9.trans ga)
 generalize upd G9 la (.lst (ns1.map λu =>.ref u.1))=Ga at ga ela tu ua
 clear s9 ga
 have lm1:(ns1.map λu=>V.ref u.1).length=ns1.length:=Ac _
 obtain ⟨vs,ev,sv,lv⟩:∃vs:List (Addr×List Int),pF (ns1.map λu=>V.ref u.1) none (some (if decide (((ns1.map λu=>V.ref u.1).length:Int)<200)=true then 1 else 0))=vs.map (λu=>V.ref u.1)/\(∀v∈vs,v∈ns1)/\ns1.length+vs.length<=200:=by
  by_cases c:ns1.length<200
  ·rw[decide_eq_true (show ((ns1.map λu=>V.ref u.1).length:Int)<200 by rw[lm1];omega),if_pos rfl]
   refine ⟨ns1.take 1,?_,λv hv=>Cq hv,by rw[Bg];omega⟩
   exact (xX _ 1).trans Ig.symm
  ·rw[decide_eq_false (show ¬ ((ns1.map λu=>V.ref u.1).length:Int)<200 by rw[lm1];omega),if_neg Ao]
   refine ⟨[],?_,(λv hv=>by cases hv),by rw[ln1];exact le⟩
   exact xX _ 0
 refine ⟨_,rfl,_,rfl,_,rfl,la,_,rfl,.inl (SqL.of ela),_,_,rfl,rfl,.inr ⟨_,rfl,_,rfl,la,_,rfl,SqL.of ela,λlb hlb =>?_⟩⟩
 rw[ev]
 have gb:=af hlb (.lst (vs.map λu=>V.ref u.1))
 have elb:upd Ga lb (.lst (vs.map λu=>V.ref u.1)) lb=some (.lst (vs.map λu=>V.ref u.1)):=ae
 have ela:=gb _ _ ela
 have tu:=tu.same gb
 have ub:=ua.same gb
 generalize upd Ga lb (.lst (vs.map λu=>V.ref u.1))=Gb at gb elb ela tu ub
 clear gb
 refine ⟨la,lb,_,_,rfl,rfl,SqL.of ela,SqL.of elb,by rw[Ac,Ac];exact small (by omega),λlc hlc =>?_⟩
 rw[show (ns1.map λu=>V.ref u.1)++(vs.map λu=>V.ref u.1)=(ns1++vs).map λu=>V.ref u.1 from Ap.symm]
 have gc:=af hlc (.lst ((ns1++vs).map λu=>V.ref u.1))
 have elc:upd Gb lc (.lst ((ns1++vs).map λu=>V.ref u.1)) lc=some (.lst ((ns1++vs).map λu=>V.ref u.1)):=ae
 have inA:∀u∈ns1++vs,u∈ns1:=λu hu=>(Ax.mp hu).elim id (sv u)
 have tu:=tu.same gc
 have uc:=ub.same gc
 generalize upd Gb lc (.lst ((ns1++vs).map λu=>V.ref u.1))=Gc at gc elc tu uc
 clear gc
 refine ⟨lc,ns1++vs,rfl,.inl (SqL.of elc),λu hu=>⟨SqT.of (tu u (inA u hu)),?_⟩,λld T hld pmT soT =>?_⟩
 ·obtain ⟨x,y,e,_⟩:=rg1 u (inA u hu)
  rw[e];intro z;cases z
 have lT:T.length<=200:=by rw[pmT.length_eq,Am];exact lv
 refine ⟨ld,_,rfl,.inl ⟨SqL.of ae,λtt htt =>?_⟩⟩
 have gd:=(af hld (.lst (T.map λt =>.ref t.1))).trans (af htt (.tup (T.map λt =>.ref t.1)))
 have ett:upd (upd Gc ld (.lst (T.map λt =>.ref t.1))) tt (.tup (T.map λt =>.ref t.1)) tt=some (.tup (T.map λt =>.ref t.1)):=ae
 have tT:Tus (upd (upd Gc ld (.lst (T.map λt =>.ref t.1))) tt (.tup (T.map λt =>.ref t.1))) T:=λu hu=>gd _ _ (tu u (inA u (pmT.mem_iff.mp hu)))
 have ud:=uc.same gd
 have rgT:Rg m T:=λu hu=>rg1 u (inA u (pmT.mem_iff.mp hu))
 generalize upd (upd Gc ld (.lst (T.map λt =>.ref t.1))) tt (.tup (T.map λt =>.ref t.1))=Gd at gd ett tT ud
 clear gd tu elc ela elb
 refine ⟨_,rfl,_,rfl,_,rfl,tt,rfl,⟨_,SqT.of ett⟩,iT (ts:=T.map λu:Addr×List Int=>(u.1,V.int (u.2.getD 0 0),V.int (u.2.getD 1 0))) (λi ys H'=>ay Gd H'/\∃us:List (Addr×List Int),ys=us.map (λu =>.ref u.1)/\Tus H' us/\us.map (·.2)=((T.map (·.2)).take i).map swp) (by decide) ⟨ay.refl _,[],rfl,λu hu=>(by cases hu),rfl⟩ (by rw[Ac];exact small (by omega)) (λi ys H' _ k=>vM (tT.same k.1) rgT (k.1 _ _ ett)) ?_ ?_⟩
 ·rintro i v ys G6 hv hy ⟨s6,us,rfl,tu,eu⟩ R1 R0 r1 r0
  obtain ⟨u,hu,rfl⟩:=ng hv
  have mu:=AJ hu
  obtain ⟨x,y,e3,_⟩:=rgT u mu
  have h0:u.2.getD 0 0=x:=by rw[e3];rfl
  have h1:u.2.getD 1 0=y:=by rw[e3];rfl
  rw[h0,h1]
  refine aR ⟨_,rfl,_,rfl,(by show 2<=Ai;decide),λc hc=>r1 _ _ ⟨s6.trans (af hc _),us++[(c,[y,x])],by rw[Ap];rfl,Tus.iF (tu.same (af hc _)) (u:=(c,[y,x])) ae,?_⟩⟩
  rw[Ap,eu,Bc,AO,hu,Ap]
  show _++[[y,x]]=_++[swp u.2]
  rw[e3];rfl
 rintro ys Ge hy ⟨se,us,rfl,tu,eu⟩ lf hlf
 rw[Ac,AA (by rw[Ac];exact Ah _)] at eu
 have lus:us.length=T.length:=by have:=congrArg List.length eu;rwa [Ac,Ac,Ac] at this
 refine ⟨lf,_,rfl,.inl ⟨SqL.of ae,λth hth =>?_⟩⟩
 have gf:=(af hlf (.lst (us.map λu =>.ref u.1))).trans (af hth (.tup (us.map λu =>.ref u.1)))
 have eth:upd (upd Ge lf (.lst (us.map λu =>.ref u.1))) th (.tup (us.map λu =>.ref u.1)) th=some (.tup (us.map λu =>.ref u.1)):=ae
 have tu:=tu.same gf
 have sf:=se.trans gf
 generalize upd (upd Ge lf (.lst (us.map λu =>.ref u.1))) th (.tup (us.map λu =>.ref u.1))=Gf at gf eth tu sf
 refine ⟨tt,th,_,_,rfl,rfl,sf _ _ ett,eth,by rw[Ac,Ac];exact small (by omega),λzz Gg sg ez =>?_⟩
 rw[show (T.map λu=>V.ref u.1)++(us.map λu=>V.ref u.1)=(T++us).map λu=>V.ref u.1 from Ap.symm] at ez
 have sfg:=sf.trans sg
 have tall:Tus Gg (T++us):=λu hu=>by
  rcases Ax.mp hu with z | z
  ·exact sfg _ _ (tT u z)
  ·exact sg _ _ (tu u z)
 have rall:Rg m (T++us):=λu hu=>by
  rcases Ax.mp hu with z | z
  ·exact rgT u z
  ·have:u.2∈us.map (·.2):=BA z
   rw[eu] at this
   obtain ⟨v,hv,ev⟩:=AG.mp this
   obtain ⟨w',hw,rfl⟩:=AG.mp hv
   obtain ⟨x,y,e,x0,x1,y0,y1⟩:=rgT w' hw
   exact ⟨y,x,by rw[<- ev,e];rfl,y0,y1,x0,x1⟩
 have lall:(T++us).length<=400:=by rw[Am];omega
 refine ⟨zz,T++us,rfl,.inr (SqT.of ez),λu hu=>SqT.of (tall u hu),by omega,λsa ds hsa sub nd cov lds =>?_⟩
 have g5:=af hsa (fE w sa (ds.map λt =>.ref t.1))
 have esa:upd Gg sa (fE w sa (ds.map λt =>.ref t.1)) sa=some (fE w sa (ds.map λt =>.ref t.1)):=ae
 have s5:=sfg.trans g5
 have tall:=tall.same g5
 generalize upd Gg sa (fE w sa (ds.map λt =>.ref t.1))=Gh at g5 esa s5 tall
 refine ⟨sa,ds,rfl,esa,λu hu=>⟨SqT.of (tall u (sub u hu)),?_⟩,by omega,λli out hli pm so =>?_⟩
 ·obtain ⟨x,y,e,_⟩:=rall u (sub u hu)
  rw[e];intro z;cases z
 have ndo:(out.map (·.2)).Nodup:=((pm.map (·.2)).nodup_iff).mpr nd
 have memo:∀x,x∈out.map (·.2)↔x∈T.map (·.2)\/x∈(T.map (·.2)).map swp:=λx=>by
  constructor
  ·intro hp
   obtain ⟨u,hu,rfl⟩:=AG.mp hp
   rcases Ax.mp (sub u (pm.mem_iff.mp hu)) with z | z
   ·exact .inl (BA z)
   ·right;rw[<- eu];exact BA z
  ·intro hp
   have:∃u∈T++us,u.2=x:=by
    rcases hp with z | z
    ·obtain ⟨u,hu,e⟩:=AG.mp z
     exact ⟨u,Cp _ hu,e⟩
    ·rw[<- eu] at z
     obtain ⟨u,hu,e⟩:=AG.mp z
     exact ⟨u,AY _ hu,e⟩
   obtain ⟨u,hu,rfl⟩:=this
   exact ((pm.map (·.2)).mem_iff).mpr (cov u hu)
 refine ⟨li,_,rfl,.inl ⟨SqL.of ae,λtj htj=>⟨(by show 2<=Ai;decide),λdA hdA =>?_⟩⟩⟩
 have gi:=af hli (.lst (out.map λt =>.ref t.1))
 have gj:=af htj (.tup (out.map λt =>.ref t.1))
 have gk:=af hdA (.tup [.int (m:Int),.ref tj])
 have gg:=gi.trans (gj.trans gk)
 have etj:upd (upd (upd Gh li (.lst (out.map λt =>.ref t.1))) tj (.tup (out.map λt =>.ref t.1))) dA (.tup [.int (m:Int),.ref tj]) tj=some (.tup (out.map λt =>.ref t.1)):=gk _ _ ae
 have edA:upd (upd (upd Gh li (.lst (out.map λt =>.ref t.1))) tj (.tup (out.map λt =>.ref t.1))) dA (.tup [.int (m:Int),.ref tj]) dA=some (.tup [.int (m:Int),.ref tj]):=ae
 have s6:=s5.trans gg
 have tout:Tus (upd (upd (upd Gh li (.lst (out.map λt =>.ref t.1))) tj (.tup (out.map λt =>.ref t.1))) dA (.tup [.int (m:Int),.ref tj])) out:=λu hu=>gg _ _ (tall u (sub u (pm.mem_iff.mp hu)))
 generalize upd (upd (upd Gh li (.lst (out.map λt =>.ref t.1))) tj (.tup (out.map λt =>.ref t.1))) dA (.tup [.int (m:Int),.ref tj])=Gk at gk etj edA s6 tout gg
 clear gi gj gk gg g5 esa tall sfg sf se gf
 refine ⟨_,rfl,_,rfl,(by show 2<=Ai;decide),λwv hwv =>?_⟩
 have gw:=af hwv (.tup [.int (m:Int),.ref tt])
 have ewv:upd Gk wv (.tup [.int (m:Int),.ref tt]) wv=some (.tup [.int (m:Int),.ref tt]):=ae
 have s7:=s6.trans gw
 have etj:=gw _ _ etj
 have edA:=gw _ _ edA
 have tout:=tout.same gw
 generalize upd Gk wv (.tup [.int (m:Int),.ref tt])=Gl at gw ewv s7 etj edA tout
 have kT:Knd K [c_BadWeb,c_TooMany,c_NoTie,c_NoRing,c_NotClear,c_NotThree,c_BadBoard,c_NoStep,c_NoText,c_NoRow,c_NoBack] c_WebError c_TooMany 1:=⟨by decide,(dQ Z.xi_TooMany).1,(λj hj=>by
   match j,hj with
   | 0,_=>exact (ak Z.kt (i:=3) (by decide:3<11)).1 0 (by show 0<11;decide)
   | 1,_=>exact (ak Z.kt (i:=3) (by decide:3<11)).1 3 (by show 3<11;decide)
   | 2,_=>exact (ak Z.kt (i:=3) (by decide:3<11)).1 4 (by show 4<11;decide)
   | 3,_=>exact (ak Z.kt (i:=3) (by decide:3<11)).1 5 (by show 5<11;decide)
   | 4,_=>exact (ak Z.kt (i:=3) (by decide:3<11)).1 6 (by show 6<11;decide)
   | 5,_=>exact (ak Z.kt (i:=3) (by decide:3<11)).1 7 (by show 7<11;decide)
   | 6,_=>exact (ak Z.kt (i:=3) (by decide:3<11)).1 8 (by show 8<11;decide)
   | 7,_=>exact (ak Z.kt (i:=3) (by decide:3<11)).1 1 (by show 1<11;decide)
   | 8,_=>exact (ak Z.kt (i:=3) (by decide:3<11)).1 2 (by show 2<11;decide)
   | 9,_=>exact (ak Z.kt (i:=3) (by decide:3<11)).1 9 (by show 9<11;decide)
   | 10,_=>exact (ak Z.kt (i:=3) (by decide:3<11)).1 10 (by show 10<11;decide)
   | n+11,h=>exact absurd h (by omega)),(ak Z.kt (i:=3) (by decide:3<11)).2.1,(ak Z.kt (i:=3) (by decide:3<11)).2.2⟩
 refine aT.mpr ⟨3,.ref wv,.int 0,.int 0,rfl,.inr (.inr (.inr ⟨rfl,dz.mpr ⟨wv,m,T,rfl,⟨⟨tt,ewv,s7 _ _ ett⟩,tT.same s7,rgT⟩,lT,λF nd' mem=>⟨λc HX sX=>⟨Z.xm_TooMany,λea hea =>?_⟩,λc zf usF HX sX wo pmF =>?_⟩⟩⟩))⟩
 ·have pmo:F.Perm (out.map (·.2)):=(Cd nd' ndo).mpr λx=>(mem x).trans (memo x).symm
  have lo:out.length=F.length:=by have:=pmo.length_eq;rw[Ac] at this;exact this.symm
  have gx:=af hea (aU ea (.ref c_TooMany) none)
  have eea:upd HX ea (aU ea (.ref c_TooMany) none) ea=some (aU ea (.ref c_TooMany) none):=ae
  have s8:=sX.trans gx
  have etj:=s8 _ _ etj
  have edA:=s8 _ _ edA
  have u8:=ud.same (s7.trans s8)
  generalize upd HX ea (aU ea (.ref c_TooMany) none)=HQ at gx eea s8 etj edA u8
  refine ⟨_,rfl,dA,_,1,_,rfl,rfl,SqT.of edA,rfl,tj,_,rfl,.inr (SqT.of etj),_,_,rfl,rfl,_,rfl,?_⟩
  rw[Ac,decide_eq_true (show ((out.length:Int)>200) by omega)]
  refine aR ⟨_,rfl,rfl,_,rfl,?_⟩
  rw[decide_eq_true rfl]
  refine aR ⟨_,rfl,(by show 2<=Ai;decide),λp9 hp9 =>?_⟩
  have g9:=af hp9 (.tup [.int 1,.non])
  refine bE.mpr ⟨ea,p9,c_TooMany,none,1,.non,rfl,g9 _ _ eea,ae,kT,by decide,λe=>absurd e (by decide),λHR sR=>⟨_,rfl,aH ⟨_,rfl,rfl,_,rfl,?_⟩⟩⟩
  rw[decide_eq_true rfl]
  refine aH ?_
  have UX:=u8.same (g9.trans sR)
  refine ⟨_,rfl,_,_,rfl,rfl,.inr ⟨_,rfl,_,_,rfl,rfl,.inr ⟨by split <;> decide,by split <;> decide⟩,?_⟩⟩
  obtain ⟨N',hN',N1',N2'⟩:∃N:Nat,3*(if decide ((m:Int)>0)=true then 1 else 0)=(N:Int)/\N<=3/\(0<N->0<m):=by
   by_cases c:(m:Int)>0
   ·exact ⟨3,by rw[decide_eq_true c,if_pos rfl];rfl,by decide,λ_=>by omega⟩
   ·exact ⟨0,by rw[decide_eq_false c,if_neg Ao];rfl,by decide,λh=>absurd h (by decide)⟩
  refine ⟨(N':Int),congrArg (λx=>[V.int x]) hN',by omega,by omega,?_⟩
  rw[Bb]
  refine cy (λi σ H'=>(∃c4 c5 c6 c7 c8 c9,σ=[some (.ref p),some (.ref r),some (.int (m:Int)),some (.ref t0),c4,c5,c6,c7,c8,c9])/\Bu 1 p H H') ⟨⟨_,_,_,_,_,_,rfl⟩,UX⟩ ?_ ?_
  ·rintro i σ K1 hi ⟨⟨c4,c5,c6,c7,c8,c9,rfl⟩,k1⟩
   have hm:=N2' (by omega)
   refine ⟨_,rfl,_,rfl,_,rfl,aB.mpr ⟨p,(m:Int),rfl,k1.pot,by omega,by omega,λa K2 a0 a1 k2 =>?_⟩⟩
   refine ⟨_,rfl,_,rfl,aB.mpr ⟨p,(m:Int),rfl,k2.pot,by omega,by omega,λb K3 b0 b1 k3 =>?_⟩⟩
   have k13:=k1.trans (k2.trans k3)
   refine ⟨(by show 2<=Ai;decide),λt ht =>?_⟩
   have g:=af ht (.tup [.int a,.int b])
   exact gr.mpr ⟨r,t,m,a,b,ts,rfl,((sgm k13).1).same g,ae,⟨a0,a1,b0,b1⟩,λK4 s4=>⟨_,rfl,aH ⟨⟨_,_,_,_,_,_,rfl⟩,k13.same (g.trans s4)⟩⟩⟩
  ·rintro σ K1 ⟨⟨c4,c5,c6,c7,c8,c9,rfl⟩,k1⟩
   exact q _ k1
 ·have pmo:F.Perm (out.map (·.2)):=(Cd nd' ndo).mpr λx=>(mem x).trans (memo x).symm
  have lo:out.length=F.length:=by have:=pmo.length_eq;rw[Ac] at this;exact this.symm
  have etj:=sX _ _ etj
  have edA:=sX _ _ edA
  have tout:=tout.same sX
  have UX:=ud.same (s7.trans sX)
  refine ⟨_,rfl,dA,_,1,_,rfl,rfl,SqT.of edA,rfl,tj,_,rfl,.inr (SqT.of etj),_,_,rfl,rfl,_,rfl,?_⟩
  rw[Ac,decide_eq_false (show ¬ ((out.length:Int)>200) by omega)]
  refine aH ⟨_,rfl,rfl,_,rfl,?_⟩
  rw[decide_eq_false (show ¬ (V.ref dA=V.non) by intro z;cases z)]
  refine aH ⟨_,rfl,rfl,_,rfl,?_⟩
  rw[decide_eq_false (show ¬ (V.ref dA=V.non) by intro z;cases z)]
  obtain ⟨tw,ew1,ew2⟩:=wo.ow.at'
  refine aR ⟨_,rfl,_,rfl,zf,dA,_,_,rfl,rfl,SqT.of ew1,SqT.of edA,dD ew2 etj wo.ow.tup tout (ef (pmF.trans pmo) wo.so (gU so)),_,rfl,aH ?_⟩
  clear ew1 ew2
  refine ⟨_,rfl,_,_,rfl,rfl,.inr ⟨_,rfl,_,_,rfl,rfl,.inr ⟨by split <;> decide,by split <;> decide⟩,?_⟩⟩
  obtain ⟨N',hN',N1',N2'⟩:∃N:Nat,3*(if decide ((m:Int)>0)=true then 1 else 0)=(N:Int)/\N<=3/\(0<N->0<m):=by
   by_cases c:(m:Int)>0
   ·exact ⟨3,by rw[decide_eq_true c,if_pos rfl];rfl,by decide,λ_=>by omega⟩
   ·exact ⟨0,by rw[decide_eq_false c,if_neg Ao];rfl,by decide,λh=>absurd h (by decide)⟩
  refine ⟨(N':Int),congrArg (λx=>[V.int x]) hN',by omega,by omega,?_⟩
  rw[Bb]
  refine cy (λi σ H'=>(∃c4 c5 c6 c7 c8 c9,σ=[some (.ref p),some (.ref r),some (.int (m:Int)),some (.ref t0),c4,c5,c6,c7,c8,c9])/\Bu 1 p H H') ⟨⟨_,_,_,_,_,_,rfl⟩,UX⟩ ?_ ?_
  ·rintro i σ K1 hi ⟨⟨c4,c5,c6,c7,c8,c9,rfl⟩,k1⟩
   have hm:=N2' (by omega)
   refine ⟨_,rfl,_,rfl,_,rfl,aB.mpr ⟨p,(m:Int),rfl,k1.pot,by omega,by omega,λa K2 a0 a1 k2 =>?_⟩⟩
   refine ⟨_,rfl,_,rfl,aB.mpr ⟨p,(m:Int),rfl,k2.pot,by omega,by omega,λb K3 b0 b1 k3 =>?_⟩⟩
   have k13:=k1.trans (k2.trans k3)
   refine ⟨(by show 2<=Ai;decide),λt ht =>?_⟩
   have g:=af ht (.tup [.int a,.int b])
   exact gr.mpr ⟨r,t,m,a,b,ts,rfl,((sgm k13).1).same g,ae,⟨a0,a1,b0,b1⟩,λK4 s4=>⟨_,rfl,aH ⟨⟨_,_,_,_,_,_,rfl⟩,k13.same (g.trans s4)⟩⟩⟩
  ·rintro σ K1 ⟨⟨c4,c5,c6,c7,c8,c9,rfl⟩,k1⟩
   exact q _ k1
end
end K55
set_option maxHeartbeats 4000000
namespace K55
open PySem L2
def o9 (K:Ab):Sp:=λvs H Q _=>∃(a:Addr) (ns:List Int),vs=[.ref a]/\SqL K H a (ns.map V.int)/\ns.length<=63/\∀H',Q (.bl true) H'
theorem l9 {K:Ab}{vs:List V}{H:Hp}{Q:VK}{E:XK}:o9 K vs H Q E↔∃(a:Addr) (ns:List Int),vs=[.ref a]/\SqL K H a (ns.map V.int)/\ns.length<=63/\∀H',Q (.bl true) H':=Cj
theorem Bad.cx {H H':Hp}{M T:V}(k:∀a u,(M = .ref a\/T = .ref a)->H a=some u->H' a=some u)(h:Bad H M T):Bad H' M T:=by
 cases h with
 | flt f w=>exact .flt (f.cx λa u e=>k a u (.inl e)) w
 | sq e=>exact .sq (e.imp (k _ _ (.inl rfl)) (k _ _ (.inl rfl)))
 | num h=>exact .num h
 | row h0 h1 f=>exact .row h0 h1 (f.cx λa u e=>k a u (.inr e))
theorem Bad.same {H H':Hp}{M T:V}(s:ay H H')(h:Bad H M T):Bad H' M T:=h.cx λa u _ e=>s a u e
def smp:V->Bool
 | .non=>true
 | .bl _=>true
 | .int _=>true
 | .str _=>true
 | .ref _=>true
 | _=>false
theorem It.smp {H:Hp}{m:Int}{x:V}(i:It H m x):smp x=true:=by
 obtain ⟨b,i⟩:=i
 cases i with
 | flat f=>cases f <;> rfl
 | len e n=>rfl
 | pr e hx hy hb=>rfl
theorem zh {A:A7}{s:Ag}{x:V}{u v:Ae}(h:smp x=true)(ru:RelV x u)(rv:RelV x v):DG A s u v true:=by
 cases x with
 | non=>cases (show u=BR from ru);cases (show v=BR from rv);exact DI _
 | bl b=>cases (show u=Value.bool b from ru);cases (show v=Value.bool b from rv);exact DI _
 | int i=>exact du (.inl ⟨i,rfl,rfl⟩) ru rv
 | str i=>exact du (.inr (.inl ⟨i,rfl,rfl⟩)) ru rv
 | ref a=>exact du (.inr (.inr ⟨a,rfl,rfl⟩)) ru rv
 | byt b=>cases h
 | flt b=>cases h
 | ty n=>cases h
theorem xF {X:Cx}{k:Nat}(hr:bU k X.A):OpR X (Bo .NotEq) (λx y H Q=>∃a b xs,x = .ref a/\y = .ref b/\SqL X.K H a xs/\SqL X.K H b xs/\(∀v∈xs,smp v=true)/\Q (.bl false) H):=by
 intro pins s σ H x y v u Q I rx ry h
 obtain ⟨a,b,xs,rfl,rfl,h1,h2,sm,q⟩:=h
 cases (show v=As a from rx)
 cases (show u=As b from ry)
 obtain ⟨us,r1,p1,_⟩:=I.list h1
 obtain ⟨vs,r2,p2,_⟩:=I.list h2
 have un:=hr.un
 have R:=GC (A:=X.A) (e:=λ_=>true) p1.isList p2.isList (by rw[Aj,Aj, <- r1.length, <- r2.length]) (by omega) (λj h1 h2=>by
  rw[Aj] at h1 h2
  have l1:=r1.length
  have e1:xs[j]? = some (xs[j]'(by omega)):=Aw (by omega)
  obtain ⟨u,g1,q1⟩:=r1.get e1
  obtain ⟨v,g2,q2⟩:=r2.get e1
  have f1:us.toArray[j]=u:=by simp[Al] at g1;obtain ⟨_,g⟩:=g1;simpa using g
  have f2:vs.toArray[j]=v:=by simp[Al] at g2;obtain ⟨_,g⟩:=g2;simpa using g
  rw[f1,f2]
  exact zh (sm _ (CJ _)) q1 q2)
 rw[all_true] at R
 exact R _ _ _ _ ⟨.bl false,H,I,rfl,q⟩
section
variable  {P:Au}{w:AX}{K:Ab}{mg:Str->Option Ae}{base:Heap}{f:Addr}{fd:Be}{c_WebError c_BadWeb c_NoStep c_NoText c_TooMany c_NoTie c_NoRing c_NotClear c_NotThree c_BadBoard c_NoRow c_NoBack:Addr}
theorem fu:aP ["script", "k", "pot", "small", "many", "base", "row", "handed", "kept", "found", "due"] ["script"] (aq tO):=⟨rfl,rfl,rfl,by decide +kernel,rfl,by decide +kernel,by decide +kernel⟩
theorem kr:(["pair"]:List Str).Nodup:=by decide +kernel
theorem Aa (F:Fun K "law" "law" tO f fd)(B:Blt mg)(Z:Exs K mg c_WebError c_BadWeb c_NoStep c_NoText c_TooMany c_NoTie c_NoRing c_NotClear c_NotThree c_BadBoard c_NoRow c_NoBack)(cLDeal:Cal P w K mg base 1 "_law_deal" ["script", "k"] (mZ K))(cLTake:Cal P w K mg base 1 "_law_take" ["pot", "many"] gQ)(cLWhole:Cal P w K mg base 1 "_law_whole" ["found"] (dB K))(cLPairs:Cal P w K mg base 2 "_law_pairs" ["pot", "many"] jA)(cLHeard:Cal P w K mg base 5 "_law_heard" ["way", "one", "other", "third"] (gq K c_BadWeb c_TooMany c_NoTie c_WebError))(cLDue:Cal P w K mg base 3 "_law_due" ["many", "row"] rG)(cLRefused:Cal P w K mg base 2 "_law_refused" ["found", "due"] (iZ K [c_BadWeb,c_TooMany,c_NoTie,c_NoRing,c_NotClear,c_NotThree,c_BadBoard,c_NoStep,c_NoText,c_NoRow,c_NoBack] c_WebError))(cLRight:Cal P w K mg base 7 "_law_right" ["pot", "web"] iG)(C:Cst mg):bC P w K mg base CX0 8 f fd ["script"] (o9 K):=by
 refine F.ok fu (λvs H Q E h =>?_) (λcdv A outer s H vs Q E hr h =>?_)
 ·obtain ⟨_,_,rfl,_⟩:=l9.mp h
  rfl
 obtain ⟨a,ns,rfl,hS,h63,q⟩:=l9.mp h
 refine ⟨_,(@ai _ _ _ _ _ (@fz _ _ _ _ _ _ _ _ CY rfl (bR rfl B.b_range (@aa _ _ _ _ _ (aj (kS rfl) rfl B.b_max qk (@aa _ _ _ _ _ ah (@aa _ _ _ _ _ (aj (kU rfl) rfl B.b_min ql (@aa _ _ _ _ _ (aj aO rfl B.b_len cc (@aa _ _ _ _ _ (pv 0) ag rfl)) (@aa _ _ _ _ _ ah ag rfl) rfl)) ag rfl) rfl)) ag rfl)) (aQ (i:=1) fu.nd rfl (Or.inl rfl))
   (@ai _ _ _ _ _ (@aX _ _ 2 _ _ _ _ fu.nd rfl (Or.inl rfl) (aG cLDeal hr (by decide) rfl (@aa _ _ _ _ _ (pv 0) (@aa _ _ _ _ _ (pv 1) ag rfl) rfl)) rfl (by first | exact .inl rfl | exact .inr rfl | assumption))
   (@ai _ _ _ _ _ (@aX _ _ 3 _ _ _ _ fu.nd rfl (Or.inl rfl) (aG cLTake hr (by decide) rfl (@aa _ _ _ _ _ (pv 2) (@aa _ _ _ _ _ ah ag rfl) rfl)) rfl (by first | exact .inl rfl | exact .inr rfl | assumption))
   (@ai _ _ _ _ _ (@aX _ _ 4 _ _ _ _ fu.nd rfl (Or.inl rfl) (@aJ _ _ _ _ _ _ _ aS (@aF _ _ _ _ _ (@aa _ _ _ _ _ (pv 3) (@aa _ _ _ _ _ (pv 3) (@aa _ _ _ _ _ (pv 3) (@aa _ _ _ _ _ ah (@aa _ _ _ _ _ ah (@aa _ _ _ _ _ ah (@aa _ _ _ _ _ (qD mj ah) (@aa _ _ _ _ _ hW (@aa _ _ _ _ _ cj (@aa _ _ _ _ _ gF (@aa _ _ _ _ _ (@dM _ _ _ _ (@aa _ _ _ _ _ ah ag rfl)) ag rfl) rfl) rfl) rfl) rfl) rfl) rfl) rfl) rfl) rfl) rfl)) (aG cLTake hr (by decide) rfl (@aa _ _ _ _ _ (pv 2) (@aa _ _ _ _ _ ah ag rfl) rfl)) (λ_ _=>rfl)) rfl (by first | exact .inl rfl | exact .inr rfl | assumption))
   (@ai _ _ _ _ _ (@aX _ _ 5 _ _ _ _ fu.nd rfl (Or.inl rfl) (pv 3) rfl (by first | exact .inl rfl | exact .inr rfl | assumption))
   (@ai _ _ _ _ _ (@bz _ _ _ _ _ _ _ _ (bJ (aG cLWhole hr (by decide) rfl (@aa _ _ _ _ _ (pv 4) ag rfl))) (@ao _ _ _ (@aX _ _ 5 _ _ _ _ fu.nd rfl (Or.inl rfl) (aj (kS rfl) rfl B.b_max qk (@aa _ _ _ _ _ ah (@aa _ _ _ _ _ (aj (kU rfl) rfl B.b_min ql (@aa _ _ _ _ _ (pv 4) (@aa _ _ _ _ _ ah ag rfl) rfl)) ag rfl) rfl)) rfl (by first | exact .inl rfl | exact .inr rfl | assumption))) aL)
   (@ai _ _ _ _ _ (@aX _ _ 6 _ _ _ _ fu.nd rfl (Or.inl rfl) (aG cLPairs hr (by decide) rfl (@aa _ _ _ _ _ (pv 2) (@aa _ _ _ _ _ (pv 5) ag rfl) rfl)) rfl (by first | exact .inl rfl | exact .inr rfl | assumption))
   (@ai _ _ _ _ _ (@aX _ _ 7 _ _ _ _ fu.nd rfl (Or.inl rfl) (@aJ _ _ _ _ _ _ _ aS (@aF _ _ _ _ _ (@aa _ _ _ _ _ (pv 6) (@aa _ _ _ _ _ (pv 6) (@aa _ _ _ _ _ (pv 6) (@aa _ _ _ _ _ (aD az rfl B.b_tuple aM (@aa _ _ _ _ _ (pv 6) ag rfl)) (@aa _ _ _ _ _ gF (@aa _ _ _ _ _ cj (@aa _ _ _ _ _ n8 (@aa _ _ _ _ _ ah ag rfl) rfl) rfl) rfl) rfl) rfl) rfl) rfl)) (aG cLTake hr (by decide) rfl (@aa _ _ _ _ _ (pv 2) (@aa _ _ _ _ _ ah ag rfl) rfl)) (λ_ _=>rfl)) rfl (by first | exact .inl rfl | exact .inr rfl | assumption))
   (@ai _ _ _ _ _ (@aX _ _ 8 _ _ _ _ fu.nd rfl (Or.inl rfl) (aD eN rfl B.b_list dG (@aa _ _ _ _ _ (pv 6) ag rfl)) rfl (by first | exact .inl rfl | exact .inr rfl | assumption))
   (@ai _ _ _ _ _ (@aX _ _ 9 _ _ _ _ fu.nd rfl (Or.inl rfl) (aG cLHeard hr (by decide) rfl (@aa _ _ _ _ _ ah (@aa _ _ _ _ _ (pv 4) (@aa _ _ _ _ _ (pv 7) (@aa _ _ _ _ _ ah ag rfl) rfl) rfl) rfl)) rfl (by first | exact .inl rfl | exact .inr rfl | assumption))
   (@ai _ _ _ _ _ (@aX _ _ 10 _ _ _ _ fu.nd rfl (Or.inl rfl) (aG cLDue hr (by decide) rfl (@aa _ _ _ _ _ (pv 4) (@aa _ _ _ _ _ (pv 7) ag rfl) rfl)) rfl (by first | exact .inl rfl | exact .inr rfl | assumption))
   (@ai _ _ _ _ _ (@bz _ _ _ _ _ _ _ _ (aE (xF hr) (pv 6) (pv 8) (aN _)) bA aL)
   (@ai _ _ _ _ _ (@bz _ _ _ _ _ _ _ _ (PW.pt (iJ (aE qJ (pv 10) cj (aN _)) (fV (bK (bJ (aG cLRefused hr (by decide) rfl (@aa _ _ _ _ _ (pv 9) (@aa _ _ _ _ _ (pv 10) ag rfl) rfl))))))) bA aL)
   (@ao _ _ _ (@bz _ _ _ _ _ _ _ _ (aE uf (pv 10) cj (aN _)) (@ai _ _ _ _ _ (@bz _ _ _ _ _ _ _ _ (PW.pt (dX (aE (iu hr) (pv 9) (@aF _ _ _ _ _ (@aa _ _ _ _ _ (pv 4) (@aa _ _ _ _ _ (aD az rfl B.b_tuple aM (@aa _ _ _ _ _ (aj bZ rfl B.b_sorted cu (@aa _ _ _ _ _ (bO ["pair"] [none] rfl (@qC _ _ _ _ (pv 6)) rfl (λ_ _ _ _ _=>(aQ (i:=0) kr rfl (Or.inl rfl))) (λ_ _ _ _ _=>dN) (λ_ _ _ _ _=>(aD (jj (K:=K)) rfl B.b_tuple aM (@aa _ _ _ _ _ (pv 0) ag rfl)))) ag rfl)) ag rfl)) ag rfl) rfl)) (aN _)) (di (bK (bJ (aj bV rfl B.b_isinstance av (@aa _ _ _ _ _ (@aJ _ _ _ _ _ _ _ aS (pv 9) ah (λ_ _=>rfl)) (@aa _ _ _ _ _ (bI (v :=.ty "tuple") rfl B.b_tuple aM rfl) ag rfl) rfl))))))) bA aL)
    (@ao _ _ _ (@bz _ _ _ _ _ _ _ _ (PW.pt (dX (bK (bJ (aj (nI rfl) rfl B.b_all vx (@aa _ _ _ _ _ (bO ["pair"] [none] rfl (@cU _ _ _ _ (@aJ _ _ _ _ _ _ _ aS (pv 9) ah (λ_ _=>rfl))) rfl (λ_ _ _ _ _=>(aQ (i:=0) kr rfl (Or.inl rfl))) (λ_ _ _ _ _=>dN) (λ_ _ _ _ _=>(aj (mP (K:=K)) rfl B.b_isinstance av (@aa _ _ _ _ _ (pv 0) (@aa _ _ _ _ _ (bI (v :=.ty "tuple") rfl B.b_tuple aM rfl) ag rfl) rfl)))) ag rfl)))) (di (bK (bJ (aG cLRight hr (by decide) rfl (@aa _ _ _ _ _ (pv 2) (@aa _ _ _ _ _ (pv 9) ag rfl) rfl))))))) bA aL))) aL)))))))))))))) (λ_=>rfl))
  (@ao _ _ _ (@aV _ _ _ _ hW))),?_⟩
 have lk:(ns.map V.int).length=ns.length:=Ac _
 have kB:Knd K [c_BadWeb,c_TooMany,c_NoTie,c_NoRing,c_NotClear,c_NotThree,c_BadBoard,c_NoStep,c_NoText,c_NoRow,c_NoBack] c_WebError c_BadWeb 0:=⟨by decide,(dQ Z.xi_BadWeb).1,(λj hj=>by
   match j,hj with
   | 0,_=>exact (ak Z.kt (i:=0) (by decide:0<11)).1 0 (by show 0<11;decide)
   | 1,_=>exact (ak Z.kt (i:=0) (by decide:0<11)).1 3 (by show 3<11;decide)
   | 2,_=>exact (ak Z.kt (i:=0) (by decide:0<11)).1 4 (by show 4<11;decide)
   | 3,_=>exact (ak Z.kt (i:=0) (by decide:0<11)).1 5 (by show 5<11;decide)
   | 4,_=>exact (ak Z.kt (i:=0) (by decide:0<11)).1 6 (by show 6<11;decide)
   | 5,_=>exact (ak Z.kt (i:=0) (by decide:0<11)).1 7 (by show 7<11;decide)
   | 6,_=>exact (ak Z.kt (i:=0) (by decide:0<11)).1 8 (by show 8<11;decide)
   | 7,_=>exact (ak Z.kt (i:=0) (by decide:0<11)).1 1 (by show 1<11;decide)
   | 8,_=>exact (ak Z.kt (i:=0) (by decide:0<11)).1 2 (by show 2<11;decide)
   | 9,_=>exact (ak Z.kt (i:=0) (by decide:0<11)).1 9 (by show 9<11;decide)
   | 10,_=>exact (ak Z.kt (i:=0) (by decide:0<11)).1 10 (by show 10<11;decide)
   | n+11,h=>exact absurd h (by omega)),(ak Z.kt (i:=0) (by decide:0<11)).2.1,(ak Z.kt (i:=0) (by decide:0<11)).2.2⟩
 have kT:Knd K [c_BadWeb,c_TooMany,c_NoTie,c_NoRing,c_NotClear,c_NotThree,c_BadBoard,c_NoStep,c_NoText,c_NoRow,c_NoBack] c_WebError c_TooMany 1:=⟨by decide,(dQ Z.xi_TooMany).1,(λj hj=>by
   match j,hj with
   | 0,_=>exact (ak Z.kt (i:=3) (by decide:3<11)).1 0 (by show 0<11;decide)
   | 1,_=>exact (ak Z.kt (i:=3) (by decide:3<11)).1 3 (by show 3<11;decide)
   | 2,_=>exact (ak Z.kt (i:=3) (by decide:3<11)).1 4 (by show 4<11;decide)
   | 3,_=>exact (ak Z.kt (i:=3) (by decide:3<11)).1 5 (by show 5<11;decide)
   | 4,_=>exact (ak Z.kt (i:=3) (by decide:3<11)).1 6 (by show 6<11;decide)
   | 5,_=>exact (ak Z.kt (i:=3) (by decide:3<11)).1 7 (by show 7<11;decide)
   | 6,_=>exact (ak Z.kt (i:=3) (by decide:3<11)).1 8 (by show 8<11;decide)
   | 7,_=>exact (ak Z.kt (i:=3) (by decide:3<11)).1 1 (by show 1<11;decide)
   | 8,_=>exact (ak Z.kt (i:=3) (by decide:3<11)).1 2 (by show 2<11;decide)
   | 9,_=>exact (ak Z.kt (i:=3) (by decide:3<11)).1 9 (by show 9<11;decide)
   | 10,_=>exact (ak Z.kt (i:=3) (by decide:3<11)).1 10 (by show 10<11;decide)
   | n+11,h=>exact absurd h (by omega)),(ak Z.kt (i:=3) (by decide:3<11)).2.1,(ak Z.kt (i:=3) (by decide:3<11)).2.2⟩
 refine ⟨_,rfl,a,_,rfl,.inl hS,_,_,rfl,_,_,rfl,?_⟩
 obtain ⟨N,hN,N1⟩:∃N:Nat,(if (if (8:Int)<((ns.map V.int).length:Int) then 8 else ((ns.map V.int).length:Int))>3 then (if (8:Int)<((ns.map V.int).length:Int) then 8 else ((ns.map V.int).length:Int)) else 3)=(N:Int)/\N<=8:=by
  refine ⟨(if (if (8:Int)<((ns.map V.int).length:Int) then 8 else ((ns.map V.int).length:Int))>3 then (if (8:Int)<((ns.map V.int).length:Int) then 8 else ((ns.map V.int).length:Int)) else 3).toNat,?_,?_⟩ <;> (split <;> split <;> omega)
 refine ⟨(N:Int),congrArg (λx=>[V.int x]) hN,by omega,by omega,?_⟩
 rw[Bb]
 refine cy (λi σ H'=>(∃c1 c2 c3 c4 c5 c6 c7 c8 c9 c10,σ=[some (.ref a),c1,c2,c3,c4,c5,c6,c7,c8,c9,c10])/\ay H H') ⟨⟨_,_,_,_,_,_,_,_,_,_,rfl⟩,ay.refl _⟩ ?_ (λσ H' _=>q _)
 rintro i σ H0 hi ⟨⟨c1,c2,c3,c4,c5,c6,c7,c8,c9,c10,rfl⟩,sH0⟩
 refine ⟨_,rfl,_,rfl,gP.mpr ⟨a,ns,_,rfl,sH0.seq hS,by omega,by omega,λnn p hp0 =>?_⟩⟩
 have pt:Pt 1 (upd H0 p (.lst [.int nn])) p:=⟨[nn],rfl,ae⟩
 have s0p:∀{G:Hp},Bu 1 p (upd H0 p (.lst [.int nn])) G->ay H G:=λu=>sH0.trans (Bu.fresh hp0 u)
 refine ⟨_,rfl,aB.mpr ⟨p,6,rfl,pt,by decide,by decide,λsm G1 sm0 sm1 u1 =>?_⟩⟩
 refine ⟨_,rfl,_,rfl,_,rfl,_,rfl,(by show 1<=Ai;decide),λl3 hl3 =>?_⟩
 have g2:=af hl3 (.lst [.int 3])
 have el3:upd G1 l3 (.lst [.int 3]) l3=some (.lst [.int 3]):=ae
 have u2:=u1.same g2
 have nl3:l3≠p:=u1.pot.ne hl3
 generalize upd G1 l3 (.lst [.int 3])=G2 at g2 el3 u2
 refine ⟨(by show 11<=Ai;decide),λt4 ht4 =>?_⟩
 have g3:=af ht4 (.tup [.int sm,.int sm,.int sm,.int 40,.int 40,.int 41,.int (-1),.bl true,.non,.str "3",.ref l3])
 have et4:upd G2 t4 (.tup [.int sm,.int sm,.int sm,.int 40,.int 40,.int 41,.int (-1),.bl true,.non,.str "3",.ref l3]) t4=some (.tup [.int sm,.int sm,.int sm,.int 40,.int 40,.int 41,.int (-1),.bl true,.non,.str "3",.ref l3]):=ae
 have u3:=u2.same g3
 have el3:=g3 _ _ el3
 generalize upd G2 t4 (.tup [.int sm,.int sm,.int sm,.int 40,.int 40,.int 41,.int (-1),.bl true,.non,.str "3",.ref l3])=G3 at g3 et4 u3 el3
 refine ⟨_,rfl,aB.mpr ⟨p,11,rfl,u3.pot,by decide,by decide,λe G4 e0 e1 u4 =>?_⟩⟩
 have et4:=u4.tup u3.pot et4
 have el3:=u4.st _ _ nl3 el3
 have uG:=u3.trans u4
 obtain ⟨j,rfl⟩:∃j:Nat,e=j:=⟨e.toNat,by omega⟩
 obtain ⟨M,eM,cM⟩:∃M:V,([.int sm,.int sm,.int sm,.int 40,.int 40,.int 41,.int (-1),.bl true,.non,.str "3",.ref l3]:List V)[j]? = some M/\((∃m':Int,M = .int m' /\ -1<=m'/\m'<=41)\/((∃t b1 b2,cw K G4 M t/\PySem.W.kitOne K t (.type "int")=some b1/\PySem.W.kitOne K t (.type "bool")=some b2/\(b1 && !b2)=false)/\(∀G' T,(∀z u,M = .ref z->G4 z=some u->G' z=some u)->Bad G' M T)/\∀z,M = .ref z->z≠p)):=by
  have fb:∀{M:V},Flt G4 M->wh M=false->(∀z,M ≠ .ref z)->(∃t b1 b2,cw K G4 M t/\PySem.W.kitOne K t (.type "int")=some b1/\PySem.W.kitOne K t (.type "bool")=some b2/\(b1 && !b2)=false)/\(∀G' T,(∀z u,M = .ref z->G4 z=some u->G' z=some u)->Bad G' M T)/\∀z,M = .ref z->z≠p:=λ{M} f w nr=>by
   obtain ⟨_,⟨t,b1,b2,ty,k1,k2,e⟩,_⟩:=gS (K:=K) f
   exact ⟨⟨t,b1,b2,ty,k1,k2,by rw[e,w]⟩,λG' T k =>.flt (f.cx k) w,λz e=>absurd e (nr z)⟩
  match j,e1 with
  | 0,_=>exact ⟨_,rfl,.inl ⟨_,rfl,by omega,by omega⟩⟩
  | 1,_=>exact ⟨_,rfl,.inl ⟨_,rfl,by omega,by omega⟩⟩
  | 2,_=>exact ⟨_,rfl,.inl ⟨_,rfl,by omega,by omega⟩⟩
  | 3,_=>exact ⟨_,rfl,.inl ⟨_,rfl,by omega,by omega⟩⟩
  | 4,_=>exact ⟨_,rfl,.inl ⟨_,rfl,by omega,by omega⟩⟩
  | 5,_=>exact ⟨_,rfl,.inl ⟨_,rfl,by omega,by omega⟩⟩
  | 6,_=>exact ⟨_,rfl,.inl ⟨_,rfl,by omega,by omega⟩⟩
  | 7,_=>exact ⟨_,rfl,.inr (fb (.bl _) rfl λz e=>by cases e)⟩
  | 8,_=>exact ⟨_,rfl,.inr (fb .non rfl λz e=>by cases e)⟩
  | 9,_=>exact ⟨_,rfl,.inr (fb (.str _) rfl λz e=>by cases e)⟩
  | 10,_ =>
   obtain ⟨_,⟨t,b1,b2,ty,k1,k2,eb⟩,_⟩:=fg (K:=K) (.inl el3)
   exact ⟨_,rfl,.inr ⟨⟨t,b1,b2,ty,k1,k2,eb⟩,λG' T k =>.sq (.inl (k _ _ rfl el3)),λz e=>by cases e;exact nl3⟩⟩
  | j+11,h=>exact absurd h (by omega)
 refine ⟨t4,_,j,_,rfl,rfl,SqT.of et4,bN eM,⟨_,rfl,_,rfl,?_⟩⟩
 rcases cM with ⟨M',rfl,mm0,mm1⟩ | ⟨⟨tM,b1,b2,tyM,kM1,kM2,eMb⟩,bdM,nzM⟩
 ·refine bq.mpr ⟨.int M',_,true,false,rfl,.int M',rfl,rfl,_,rfl,aR ?_⟩
  refine ⟨_,rfl,_,_,rfl,_,_,rfl,?_⟩
  obtain ⟨BB,hBB,bb0,bb1,bbe⟩:∃BB:Int,(if (if (40:Int)<M' then 40 else M')>0 then (if (40:Int)<M' then 40 else M') else 0)=BB/\0<=BB/\BB<=40/\(0<=M'->M'<=40->BB=M'):=by
   refine ⟨_,rfl,?_,?_,?_⟩ <;> (split <;> split <;> omega)
  rw[hBB]
  have s0p:∀{G:Hp},Bu 1 p G4 G->ay H G:=λu=>s0p (uG.trans u)
  have uG:=Bu.refl uG.pot
  refine ⟨_,rfl,_,rfl,dJ.mpr ⟨p,BB,rfl,uG.pot,bb0,bb1,λrr xs H4 u4 RQ xl =>?_⟩⟩
  have smx:∀v∈xs,smp v=true:=λv hv=>(RQ.it v hv).1.smp
  refine ⟨_,rfl,_,rfl,_,rfl,_,rfl,rr,_,rfl,.inl ⟨SqL.of RQ.at',λth hth =>?_⟩⟩
  have g5:=af hth (.tup xs)
  have eth:upd H4 th (.tup xs) th=some (.tup xs):=ae
  have R5:=RQ.same g5
  have u5:=u4.same g5
  generalize upd H4 th (.tup xs)=H5 at g5 eth R5 u5
  refine λdd hdd =>?_
  have g6:=af hdd (.dK [])
  have edd:upd H5 dd (.dK []) dd=some (.dK []):=ae
  have R6:=R5.same g6
  have u6:=u5.same g6
  have eth:=g6 _ _ eth
  generalize upd H5 dd (.dK [])=H6 at g6 edd R6 u6 eth
  refine ⟨(by show 8<=Ai;decide),λtp htp =>?_⟩
  have g7:=af htp (.tup [.ref rr,.ref rr,.ref rr,.ref th,.str "",.non,.ref dd,.int 7])
  have etp:upd H6 tp (.tup [.ref rr,.ref rr,.ref rr,.ref th,.str "",.non,.ref dd,.int 7]) tp=some (.tup [.ref rr,.ref rr,.ref rr,.ref th,.str "",.non,.ref dd,.int 7]):=ae
  have R7:=R6.same g7
  have u7:=u6.same g7
  have eth:=g7 _ _ eth
  have edd:=g7 _ _ edd
  generalize upd H6 tp (.tup [.ref rr,.ref rr,.ref rr,.ref th,.str "",.non,.ref dd,.int 7])=H7 at g7 etp R7 u7 eth edd
  refine ⟨_,rfl,aB.mpr ⟨p,8,rfl,u7.pot,by decide,by decide,λe H8 e0 e1 u8 =>?_⟩⟩
  have R8:=R7.bu u8 u7.pot
  have eth:=u8.tup u7.pot eth
  have etp:=u8.tup u7.pot etp
  have edd:=u8.st _ _ (λz=>by obtain ⟨w,_,q'⟩:=u7.pot;rw[z,q'] at edd;cases edd) edd
  have u08:=u7.trans u8
  obtain ⟨j,rfl⟩:∃j:Nat,e=j:=⟨e.toNat,by omega⟩
  obtain ⟨T,eT,cT⟩:∃T:V,([.ref rr,.ref rr,.ref rr,.ref th,.str "",.non,.ref dd,.int 7]:List V)[j]? = some T/\((∃ra,T = .ref ra/\(H8 ra=some (.lst xs)\/H8 ra=some (.tup xs)))\/Flt H8 T):=by
   match j,e1 with
   | 0,_=>exact ⟨_,rfl,.inl ⟨rr,rfl,.inl R8.at'⟩⟩
   | 1,_=>exact ⟨_,rfl,.inl ⟨rr,rfl,.inl R8.at'⟩⟩
   | 2,_=>exact ⟨_,rfl,.inl ⟨rr,rfl,.inl R8.at'⟩⟩
   | 3,_=>exact ⟨_,rfl,.inl ⟨th,rfl,.inr eth⟩⟩
   | 4,_=>exact ⟨_,rfl,.inr (.str _)⟩
   | 5,_=>exact ⟨_,rfl,.inr .non⟩
   | 6,_=>exact ⟨_,rfl,.inr (.dic edd)⟩
   | 7,_=>exact ⟨_,rfl,.inr (.int _)⟩
   | j+8,h=>exact absurd h (by omega)
  refine ⟨tp,_,j,_,rfl,rfl,SqT.of etp,bN eT,?_⟩
  refine ⟨_,rfl,rr,_,rfl,.inl (SqL.of R8.at'),λkp hkp =>?_⟩
  have g9:=af hkp (.lst xs)
  have ekp:upd H8 kp (.lst xs) kp=some (.lst xs):=ae
  have RG:=R8.same g9
  have u9:=u08.same g9
  have cT:(∃ra,T = .ref ra/\(upd H8 kp (.lst xs) ra=some (.lst xs)\/upd H8 kp (.lst xs) ra=some (.tup xs)))\/Flt (upd H8 kp (.lst xs)) T:=cT.imp (λ⟨ra,e,o⟩=>⟨ra,e,o.imp (g9 _ _) (g9 _ _)⟩) λf=>f.cx λa u _ e=>g9 a u e
  generalize upd H8 kp (.lst xs)=HG at g9 ekp RG u9 cT
  have s0G:ay H HG:=s0p u9
  have err:=RG.at'
  by_cases cm:0<=M'/\M'<=40
  rotate_left
  ·have bd:Bad HG (.int M') T :=.num (by omega)
   obtain ⟨M,hM⟩:∃M,M=V.int M':=⟨_,rfl⟩
   rw[<- hM] at bd
   clear cT
   subst hM
   refine ⟨_,rfl,_,rfl,aT.mpr ⟨0,.int M',T,.int 0,rfl,.inl ⟨rfl,bH.mpr ⟨.int M',T,rfl,.inl ⟨bd,λdx HX sX edx=>⟨Z.xm_BadWeb,λea hea =>?_⟩⟩⟩⟩⟩⟩
   have gx:=af hea (aU ea (.ref c_BadWeb) (some dx))
   have eea:upd HX ea (aU ea (.ref c_BadWeb) (some dx)) ea=some (aU ea (.ref c_BadWeb) (some dx)):=ae
   have sX:=sX.trans gx
   have edx:=gx _ _ edx
   generalize upd HX ea (aU ea (.ref c_BadWeb) (some dx))=HQ at gx eea sX edx
   refine ⟨_,rfl,_,rfl,cv.mpr ⟨.int M',T,rfl,.inl ⟨bd.same sX,λdt HD sD edt =>?_⟩⟩⟩
   have eea:=sD _ _ eea
   have s0X:=s0G.trans (sX.trans sD)
   have err:=sD _ _ (sX _ _ err)
   have ekp:=sD _ _ (sX _ _ ekp)
   refine ⟨_,rfl,_,rfl,rr,kp,xs,rfl,rfl,SqL.of err,SqL.of ekp,smx,_,rfl,aH ?_⟩
   refine ⟨_,rfl,rfl,_,rfl,?_⟩
   rw[decide_eq_false (show ¬ (V.ref dt=V.non) by intro z;cases z)]
   refine aR ⟨_,rfl,_,rfl,bE.mpr ⟨ea,dt,c_BadWeb,(some dx),0,_,rfl,eea,edt,kB,by decide,λ_=>⟨(dR Z.xn_BadWeb).1,(dR Z.xn_BadWeb).2.na,dx,_,rfl,sD _ _ edx,rfl⟩,λHF sF=>⟨_,rfl,aH ⟨_,rfl,rfl,_,rfl,?_⟩⟩⟩⟩
   rw[decide_eq_false (show ¬ (V.ref dt=V.non) by intro z;cases z)]
   exact aH ⟨⟨_,_,_,_,_,_,_,_,_,_,rfl⟩,s0X.trans sF⟩
  obtain ⟨m0,m1⟩:=cm
  have eBB:=bbe m0 m1
  subst eBB
  rcases cT with ⟨ra,rfl,era⟩ | fT
  rotate_left
  ·have bd:Bad HG (.int BB) T :=.row m0 m1 fT
   refine ⟨_,rfl,_,rfl,aT.mpr ⟨0,.int BB,T,.int 0,rfl,.inl ⟨rfl,bH.mpr ⟨.int BB,T,rfl,.inl ⟨bd,λdx HX sX edx=>⟨Z.xm_BadWeb,λea hea =>?_⟩⟩⟩⟩⟩⟩
   have gx:=af hea (aU ea (.ref c_BadWeb) (some dx))
   have eea:upd HX ea (aU ea (.ref c_BadWeb) (some dx)) ea=some (aU ea (.ref c_BadWeb) (some dx)):=ae
   have sX:=sX.trans gx
   have edx:=gx _ _ edx
   generalize upd HX ea (aU ea (.ref c_BadWeb) (some dx))=HQ at gx eea sX edx
   refine ⟨_,rfl,_,rfl,cv.mpr ⟨.int BB,T,rfl,.inl ⟨bd.same sX,λdt HD sD edt =>?_⟩⟩⟩
   have eea:=sD _ _ eea
   have s0X:=s0G.trans (sX.trans sD)
   have err:=sD _ _ (sX _ _ err)
   have ekp:=sD _ _ (sX _ _ ekp)
   refine ⟨_,rfl,_,rfl,rr,kp,xs,rfl,rfl,SqL.of err,SqL.of ekp,smx,_,rfl,aH ?_⟩
   refine ⟨_,rfl,rfl,_,rfl,?_⟩
   rw[decide_eq_false (show ¬ (V.ref dt=V.non) by intro z;cases z)]
   refine aR ⟨_,rfl,_,rfl,bE.mpr ⟨ea,dt,c_BadWeb,(some dx),0,_,rfl,eea,edt,kB,by decide,λ_=>⟨(dR Z.xn_BadWeb).1,(dR Z.xn_BadWeb).2.na,dx,_,rfl,sD _ _ edx,rfl⟩,λHF sF=>⟨_,rfl,aH ⟨_,rfl,rfl,_,rfl,?_⟩⟩⟩⟩
   rw[decide_eq_false (show ¬ (V.ref dt=V.non) by intro z;cases z)]
   exact aH ⟨⟨_,_,_,_,_,_,_,_,_,_,rfl⟩,s0X.trans sF⟩
  have U0:∃ps,U2 HG BB xs ps:=U2.ex λx hx=>(RG.it x hx).1
  obtain ⟨ps,U⟩:=U0
  by_cases ck:ps.length<xs.length
  ·refine ⟨_,rfl,_,rfl,aT.mpr ⟨0,.int BB,.ref ra,.int 0,rfl,.inl ⟨rfl,bH.mpr ⟨_,_,rfl,.inr ⟨BB,ra,xs,ps,rfl,m0,m1,rfl,era,by omega,U,λ_ dx HX sX edx=>⟨Z.xm_BadWeb,λea hea =>?_⟩,λc'=>absurd c' (by omega),λc'=>absurd c' (by omega)⟩⟩⟩⟩⟩
   have gx:=af hea (aU ea (.ref c_BadWeb) (some dx))
   have eea:upd HX ea (aU ea (.ref c_BadWeb) (some dx)) ea=some (aU ea (.ref c_BadWeb) (some dx)):=ae
   have sX:=sX.trans gx
   have edx:=gx _ _ edx
   generalize upd HX ea (aU ea (.ref c_BadWeb) (some dx))=HQ at gx eea sX edx
   refine ⟨_,rfl,_,rfl,cv.mpr ⟨_,_,rfl,.inr ⟨BB,ra,xs,ps,rfl,m0,m1,rfl,era.imp (sX _ _) (sX _ _),by omega,U.same sX,λ_ dt HD sD edt =>?_,λc'=>absurd c' (by omega),λc'=>absurd c' (by omega)⟩⟩⟩
   have eea:=sD _ _ eea
   have s0X:=s0G.trans (sX.trans sD)
   have err:=sD _ _ (sX _ _ err)
   have ekp:=sD _ _ (sX _ _ ekp)
   refine ⟨_,rfl,_,rfl,rr,kp,xs,rfl,rfl,SqL.of err,SqL.of ekp,smx,_,rfl,aH ?_⟩
   refine ⟨_,rfl,rfl,_,rfl,?_⟩
   rw[decide_eq_false (show ¬ (V.ref dt=V.non) by intro z;cases z)]
   refine aR ⟨_,rfl,_,rfl,bE.mpr ⟨ea,dt,c_BadWeb,(some dx),0,_,rfl,eea,edt,kB,by decide,λ_=>⟨(dR Z.xn_BadWeb).1,(dR Z.xn_BadWeb).2.na,dx,_,rfl,sD _ _ edx,rfl⟩,λHF sF=>⟨_,rfl,aH ⟨_,rfl,rfl,_,rfl,?_⟩⟩⟩⟩
   rw[decide_eq_false (show ¬ (V.ref dt=V.non) by intro z;cases z)]
   exact aH ⟨⟨_,_,_,_,_,_,_,_,_,_,rfl⟩,s0X.trans sF⟩
  have ek:ps.length=xs.length:=CC U.le (by omega)
  by_cases cl:200<xs.length
  ·refine ⟨_,rfl,_,rfl,aT.mpr ⟨0,.int BB,.ref ra,.int 0,rfl,.inl ⟨rfl,bH.mpr ⟨_,_,rfl,.inr ⟨BB,ra,xs,ps,rfl,m0,m1,rfl,era,by omega,U,λc'=>absurd c' ck,λ_ _ HX sX=>⟨Z.xm_TooMany,λea hea =>?_⟩,λ_ c'=>absurd c' (by omega)⟩⟩⟩⟩⟩
   have gx:=af hea (aU ea (.ref c_TooMany) none)
   have eea:upd HX ea (aU ea (.ref c_TooMany) none) ea=some (aU ea (.ref c_TooMany) none):=ae
   have sX:=sX.trans gx
   generalize upd HX ea (aU ea (.ref c_TooMany) none)=HQ at gx eea sX
   refine ⟨_,rfl,_,rfl,cv.mpr ⟨_,_,rfl,.inr ⟨BB,ra,xs,ps,rfl,m0,m1,rfl,era.imp (sX _ _) (sX _ _),by omega,U.same sX,λc'=>absurd c' ck,λ_ _ dt HD sD edt =>?_,λ_ c'=>absurd c' (by omega)⟩⟩⟩
   have eea:=sD _ _ eea
   have s0X:=s0G.trans (sX.trans sD)
   have err:=sD _ _ (sX _ _ err)
   have ekp:=sD _ _ (sX _ _ ekp)
   refine ⟨_,rfl,_,rfl,rr,kp,xs,rfl,rfl,SqL.of err,SqL.of ekp,smx,_,rfl,aH ?_⟩
   refine ⟨_,rfl,rfl,_,rfl,?_⟩
   rw[decide_eq_false (show ¬ (V.ref dt=V.non) by intro z;cases z)]
   refine aR ⟨_,rfl,_,rfl,bE.mpr ⟨ea,dt,c_TooMany,none,1,.non,rfl,eea,edt,kT,by decide,λe=>absurd e (by decide),λHF sF=>⟨_,rfl,aH ⟨_,rfl,rfl,_,rfl,?_⟩⟩⟩⟩
   rw[decide_eq_false (show ¬ (V.ref dt=V.non) by intro z;cases z)]
   exact aH ⟨⟨_,_,_,_,_,_,_,_,_,_,rfl⟩,s0X.trans sF⟩
  refine ⟨_,rfl,_,rfl,aT.mpr ⟨0,.int BB,.ref ra,.int 0,rfl,.inl ⟨rfl,bH.mpr ⟨_,_,rfl,.inr ⟨BB,ra,xs,ps,rfl,m0,m1,rfl,era,by omega,U,λc'=>absurd c' ck,λ_ c'=>absurd c' cl,λ_ _ bw ts HX sX wo pmW =>?_⟩⟩⟩⟩⟩
  refine ⟨_,rfl,_,rfl,cv.mpr ⟨_,_,rfl,.inr ⟨BB,ra,xs,ps,rfl,m0,m1,rfl,era.imp (sX _ _) (sX _ _),by omega,U.same sX,λc'=>absurd c' ck,λ_ c'=>absurd c' cl,λ_ _ HD sD =>?_⟩⟩⟩
  have wo:=wo.same sD
  have sG:=sX.trans sD
  have err:=sG _ _ err
  have ekp:=sG _ _ ekp
  have uD:=u9.same sG
  have U:=U.same sG
  refine ⟨_,rfl,_,rfl,rr,kp,xs,rfl,rfl,SqL.of err,SqL.of ekp,smx,_,rfl,aH ⟨_,rfl,rfl,_,rfl,?_⟩⟩
  rw[decide_eq_true rfl]
  refine aH ⟨_,rfl,rfl,_,rfl,?_⟩
  rw[decide_eq_true rfl]
  refine aR ⟨_,rfl,_,rfl,_,rfl,rr,rfl,⟨_,SqL.of err⟩,jJ (xs:=xs) (λi ys H'=>ay HD H'/\∃us:List (Addr×List Int),ys=us.map (λu =>.ref u.1)/\Tus H' us/\us.map (·.2)=ps.take i) ⟨ay.refl _,[],rfl,λu hu=>(by cases hu),rfl⟩ (small (by omega)) (λi ys H' _ z=>SqL.of (z.1 _ _ err)) ?_ ?_⟩
  ·rintro i x ys HE hx hy ⟨sE,us,rfl,tu,eu⟩ R1 R0 r1 r0
   have lx:i<xs.length:=(Al.mp hx).1
   have ep:ps[i]? = some (ps[i]'(by omega)):=Aw (by omega)
   obtain ⟨ax,y,z,rfl,ezp,ea,_⟩:=(U.yes i x _ hx ep).same sE
   have et:us.map (·.2)++[[y,z]]=ps.take (i+1):=by rw[eu,Bc,ep,ezp];rfl
   rcases ea with ea | ea
   ·refine aR ⟨_,rfl,ax,_,rfl,.inl ⟨SqL.of ea,λtn htn=>r1 _ _ ⟨sE.trans (af htn _),us++[(tn,[y,z])],by rw[Ap];rfl,Tus.iF (tu.same (af htn _)) (u:=(tn,[y,z])) ae,by rw[Ap];exact et⟩⟩⟩
   ·exact aR ⟨_,rfl,ax,_,rfl,.inr ⟨SqT.of ea,r1 _ _ ⟨sE,us++[(ax,[y,z])],by rw[Ap];rfl,Tus.iF tu (u:=(ax,[y,z])) ea,by rw[Ap];exact et⟩⟩⟩
  rintro ys HE hy ⟨sE,us,rfl,tu,eu⟩ l1 hl1
  rw[AA (by omega)] at eu
  have g1:=af hl1 (.lst (us.map λu =>.ref u.1))
  have el1:upd HE l1 (.lst (us.map λu =>.ref u.1)) l1=some (.lst (us.map λu =>.ref u.1)):=ae
  have tu:=tu.same g1
  have sE:=sE.trans g1
  generalize upd HE l1 (.lst (us.map λu =>.ref u.1))=HE1 at g1 el1 tu sE
  refine ⟨l1,us,rfl,.inl (SqL.of el1),λu hu=>⟨SqT.of (tu u hu),?_⟩,λl2 out hl2 pm so =>?_⟩
  ·have:u.2∈ps:=by rw[<- eu];exact BA hu
   obtain ⟨i,hi⟩:=A3.mp this
   have li:=(Al.mp hi).1
   obtain ⟨_,y,z,_,e,_⟩:=U.yes i _ _ (Aw (by omega)) hi
   rw[e];intro z;cases z
  refine ⟨l2,_,rfl,.inl ⟨SqL.of ae,λl3 hl3=>⟨(by show 2<=Ai;decide),λwz hwz =>?_⟩⟩⟩
  have h1:=af hl2 (.lst (out.map λt =>.ref t.1))
  have h2:=af hl3 (.tup (out.map λt =>.ref t.1))
  have h3:=af hwz (.tup [.int BB,.ref l3])
  have hh:=h1.trans (h2.trans h3)
  obtain ⟨tw,ew1,ew2⟩:=wo.ow.at'
  have sF:=sE.trans hh
  refine ⟨bw,wz,_,_,rfl,rfl,SqT.of (sF _ _ ew1),SqT.of ae,dD (sF _ _ ew2) (h3 _ _ ae) (λu hu=>sF _ _ (wo.ow.tup u hu)) (λu hu=>hh _ _ (tu u (pm.mem_iff.mp hu))) (ef (pmW.trans (by rw[<- eu];exact (pm.map (·.2)).symm)) wo.so (gU so)),_,rfl,aH ?_⟩
  refine ⟨_,rfl,bw,_,1,_,rfl,rfl,SqT.of (sF _ _ ew1),rfl,_, "tuple",_,true,rfl,.tup (sF _ _ ew2),rfl,_,rfl,aH ?_⟩
  have WF:=wo.same sF
  have uF:=uD.same sF
  have ew1:=sF _ _ ew1
  have ew2:=sF _ _ ew2
  clear h1 h2 h3
  generalize upd (upd (upd HE1 l2 _) l3 _) wz _=HF at hh sF WF uF ew1 ew2
  refine ⟨_,rfl,bw,_,1,_,rfl,rfl,SqT.of ew1,rfl,tw,rfl,⟨_,SqT.of ew2⟩,bS (xs:=ts.map λu =>.ref u.1) (λi ys H'=>H'=HF/\ys=(DZ i true).map V.bl) ⟨rfl,rfl⟩ (by rw[Ac];have:=wo.le;exact small (by omega)) (λi ys H' _ k=>by rw[k.1];exact SqT.of ew2) ?_ ?_⟩
  ·rintro i x ys HK hx hy ⟨eK,rfl⟩ R1 R0 r1 r0
   obtain ⟨u,hu,rfl⟩:=iE hx
   rw[eK]
   refine aR ⟨_,rfl,_, "tuple",_,true,rfl,.tup (WF.ow.tup u (AJ hu)),rfl,r1 _ _ ⟨rfl,?_⟩⟩
   rw[List.replicate_succ',Ap];rfl
  rintro ys HK hy ⟨eK,rfl⟩ l5 hl5
  rw[eK] at hl5 ⊢
  refine ⟨l5,DZ _ true,rfl,SqL.of ae,?_⟩
  have g6:=af hl5 (.lst ((DZ (ts.map λu=>V.ref u.1).length true).map V.bl))
  rw[show (DZ (ts.map λu=>V.ref u.1).length true).all id=true by simp]
  obtain ⟨mn,rfl⟩:∃mn:Nat,BB=mn:=⟨BB.toNat,by omega⟩
  refine ⟨_,rfl,aH ⟨_,rfl,_,rfl,fj.mpr ⟨p,bw,mn,ts,rfl,(uF.same g6).pot,WF.same g6,by omega,λHZ uZ=>⟨_,rfl,aH ⟨⟨_,_,_,_,_,_,_,_,_,_,rfl⟩,s0p ((uF.same g6).trans uZ)⟩⟩⟩⟩⟩
 ·refine bq.mpr ⟨M,tM,b1,b2,rfl,tyM,kM1,kM2,_,rfl,?_⟩
  rw[eMb]
  refine aH ?_
  have bb0:0<=sm:=sm0
  have bb1:sm<=40:=by omega
  have s0p:∀{G:Hp},Bu 1 p G4 G->ay H G:=λu=>s0p (uG.trans u)
  have uG:=Bu.refl uG.pot
  refine ⟨_,rfl,_,rfl,dJ.mpr ⟨p,sm,rfl,uG.pot,bb0,bb1,λrr xs H4 u4 RQ xl =>?_⟩⟩
  have smx:∀v∈xs,smp v=true:=λv hv=>(RQ.it v hv).1.smp
  refine ⟨_,rfl,_,rfl,_,rfl,_,rfl,rr,_,rfl,.inl ⟨SqL.of RQ.at',λth hth =>?_⟩⟩
  have g5:=af hth (.tup xs)
  have eth:upd H4 th (.tup xs) th=some (.tup xs):=ae
  have R5:=RQ.same g5
  have u5:=u4.same g5
  generalize upd H4 th (.tup xs)=H5 at g5 eth R5 u5
  refine λdd hdd =>?_
  have g6:=af hdd (.dK [])
  have edd:upd H5 dd (.dK []) dd=some (.dK []):=ae
  have R6:=R5.same g6
  have u6:=u5.same g6
  have eth:=g6 _ _ eth
  generalize upd H5 dd (.dK [])=H6 at g6 edd R6 u6 eth
  refine ⟨(by show 8<=Ai;decide),λtp htp =>?_⟩
  have g7:=af htp (.tup [.ref rr,.ref rr,.ref rr,.ref th,.str "",.non,.ref dd,.int 7])
  have etp:upd H6 tp (.tup [.ref rr,.ref rr,.ref rr,.ref th,.str "",.non,.ref dd,.int 7]) tp=some (.tup [.ref rr,.ref rr,.ref rr,.ref th,.str "",.non,.ref dd,.int 7]):=ae
  have R7:=R6.same g7
  have u7:=u6.same g7
  have eth:=g7 _ _ eth
  have edd:=g7 _ _ edd
  generalize upd H6 tp (.tup [.ref rr,.ref rr,.ref rr,.ref th,.str "",.non,.ref dd,.int 7])=H7 at g7 etp R7 u7 eth edd
  refine ⟨_,rfl,aB.mpr ⟨p,8,rfl,u7.pot,by decide,by decide,λe H8 e0 e1 u8 =>?_⟩⟩
  have R8:=R7.bu u8 u7.pot
  have eth:=u8.tup u7.pot eth
  have etp:=u8.tup u7.pot etp
  have edd:=u8.st _ _ (λz=>by obtain ⟨w,_,q'⟩:=u7.pot;rw[z,q'] at edd;cases edd) edd
  have u08:=u7.trans u8
  obtain ⟨j,rfl⟩:∃j:Nat,e=j:=⟨e.toNat,by omega⟩
  obtain ⟨T,eT,cT⟩:∃T:V,([.ref rr,.ref rr,.ref rr,.ref th,.str "",.non,.ref dd,.int 7]:List V)[j]? = some T/\((∃ra,T = .ref ra/\(H8 ra=some (.lst xs)\/H8 ra=some (.tup xs)))\/Flt H8 T):=by
   match j,e1 with
   | 0,_=>exact ⟨_,rfl,.inl ⟨rr,rfl,.inl R8.at'⟩⟩
   | 1,_=>exact ⟨_,rfl,.inl ⟨rr,rfl,.inl R8.at'⟩⟩
   | 2,_=>exact ⟨_,rfl,.inl ⟨rr,rfl,.inl R8.at'⟩⟩
   | 3,_=>exact ⟨_,rfl,.inl ⟨th,rfl,.inr eth⟩⟩
   | 4,_=>exact ⟨_,rfl,.inr (.str _)⟩
   | 5,_=>exact ⟨_,rfl,.inr .non⟩
   | 6,_=>exact ⟨_,rfl,.inr (.dic edd)⟩
   | 7,_=>exact ⟨_,rfl,.inr (.int _)⟩
   | j+8,h=>exact absurd h (by omega)
  refine ⟨tp,_,j,_,rfl,rfl,SqT.of etp,bN eT,?_⟩
  refine ⟨_,rfl,rr,_,rfl,.inl (SqL.of R8.at'),λkp hkp =>?_⟩
  have g9:=af hkp (.lst xs)
  have ekp:upd H8 kp (.lst xs) kp=some (.lst xs):=ae
  have RG:=R8.same g9
  have u9:=u08.same g9
  have cT:(∃ra,T = .ref ra/\(upd H8 kp (.lst xs) ra=some (.lst xs)\/upd H8 kp (.lst xs) ra=some (.tup xs)))\/Flt (upd H8 kp (.lst xs)) T:=cT.imp (λ⟨ra,e,o⟩=>⟨ra,e,o.imp (g9 _ _) (g9 _ _)⟩) λf=>f.cx λa u _ e=>g9 a u e
  generalize upd H8 kp (.lst xs)=HG at g9 ekp RG u9 cT
  have s0G:ay H HG:=s0p u9
  have err:=RG.at'
  have bd:Bad HG M T:=bdM HG T λz u e1 e2=>u9.st _ _ (nzM z e1) e2
  refine ⟨_,rfl,_,rfl,aT.mpr ⟨0,M,T,.int 0,rfl,.inl ⟨rfl,bH.mpr ⟨M,T,rfl,.inl ⟨bd,λdx HX sX edx=>⟨Z.xm_BadWeb,λea hea =>?_⟩⟩⟩⟩⟩⟩
  have gx:=af hea (aU ea (.ref c_BadWeb) (some dx))
  have eea:upd HX ea (aU ea (.ref c_BadWeb) (some dx)) ea=some (aU ea (.ref c_BadWeb) (some dx)):=ae
  have sX:=sX.trans gx
  have edx:=gx _ _ edx
  generalize upd HX ea (aU ea (.ref c_BadWeb) (some dx))=HQ at gx eea sX edx
  refine ⟨_,rfl,_,rfl,cv.mpr ⟨M,T,rfl,.inl ⟨bd.same sX,λdt HD sD edt =>?_⟩⟩⟩
  have eea:=sD _ _ eea
  have s0X:=s0G.trans (sX.trans sD)
  have err:=sD _ _ (sX _ _ err)
  have ekp:=sD _ _ (sX _ _ ekp)
  refine ⟨_,rfl,_,rfl,rr,kp,xs,rfl,rfl,SqL.of err,SqL.of ekp,smx,_,rfl,aH ?_⟩
  refine ⟨_,rfl,rfl,_,rfl,?_⟩
  rw[decide_eq_false (show ¬ (V.ref dt=V.non) by intro z;cases z)]
  refine aR ⟨_,rfl,_,rfl,bE.mpr ⟨ea,dt,c_BadWeb,(some dx),0,_,rfl,eea,edt,kB,by decide,λ_=>⟨(dR Z.xn_BadWeb).1,(dR Z.xn_BadWeb).2.na,dx,_,rfl,sD _ _ edx,rfl⟩,λHF sF=>⟨_,rfl,aH ⟨_,rfl,rfl,_,rfl,?_⟩⟩⟩⟩
  rw[decide_eq_false (show ¬ (V.ref dt=V.non) by intro z;cases z)]
  exact aH ⟨⟨_,_,_,_,_,_,_,_,_,_,rfl⟩,s0X.trans sF⟩
end
end K55
set_option maxHeartbeats 800000
namespace K55
open PySem L2
theorem all_mk {l:PySem.W.OpenLaw}{w:AX}{K:Ab}{h:Heap}{mg:Str->Option Ae}{fa:Addr}(X:K.In h)(G:h.Ns AR mg)(hfa:mg "law" = some (.ref fa))
  (h1:cb K "is_whole" j6) (h2:cb K "is_place" j7) (h3:cb K "is_pair" mU) (h4:cb K "checked_oneway" dw) (h5:cb K "made_oneway" dF) (h6:cb K "arrows_out" gK) (h7:cb K "arrows_in" iU) (h8:cb K "cut_oneway" gL) (h9:cb K "put_arrow" iV) (h10:cb K "less_arrow" gM) (h11:cb K "turned_arrows" dS) (h12:cb K "both_ways" iW) (h13:cb K "_law_deal" j8) (h14:cb K "_law_take" qi) (h15:cb K "_law_whole" mV) (h16:cb K "_law_some_places" fc) (h17:cb K "_law_less" qj) (h18:cb K "_law_alone" mW) (h19:cb K "_law_pairs" iA) (h20:cb K "_law_is_pair" j9) (h21:cb K "_law_due" vw) (h22:cb K "_law_heard" mX) (h23:cb K "_law_refused" iX) (h24:cb K "_law_arrow_right" fe) (h25:cb K "_law_right" mY) (h26:cb K "law" tO)
  (y_all:A4 K AR "all" = some none) (y_bool:A4 K AR "bool" = some none) (y_enumerate:A4 K AR "enumerate" = some none) (y_int:A4 K AR "int" = some none) (y_isinstance:A4 K AR "isinstance" = some none) (y_len:A4 K AR "len" = some none) (y_list:A4 K AR "list" = some none) (y_max:A4 K AR "max" = some none) (y_min:A4 K AR "min" = some none) (y_range:A4 K AR "range" = some none) (y_set:A4 K AR "set" = some none) (y_sorted:A4 K AR "sorted" = some none) (y_tuple:A4 K AR "tuple" = some none) (y_ValueError:A4 K AR "ValueError" = some none)
  {t_MOST_PLACES:Nat} (q_MOST_PLACES:A4 K AR "MOST_PLACES" = some (some (.int 40 t_MOST_PLACES)))
  {t_MOST_TIES:Nat} (q_MOST_TIES:A4 K AR "MOST_TIES" = some (some (.int 200 t_MOST_TIES)))
  {c_WebError:Addr} (e_WebError:A4 K AR "WebError" = some (some (.ref c_WebError)))
  {c_BadWeb:Addr} (e_BadWeb:A4 K AR "BadWeb" = some (some (.ref c_BadWeb)))
  {c_NoStep:Addr} (e_NoStep:A4 K AR "NoStep" = some (some (.ref c_NoStep)))
  {c_NoText:Addr} (e_NoText:A4 K AR "NoText" = some (some (.ref c_NoText)))
  {c_TooMany:Addr} (e_TooMany:A4 K AR "TooMany" = some (some (.ref c_TooMany)))
  {c_NoTie:Addr} (e_NoTie:A4 K AR "NoTie" = some (some (.ref c_NoTie)))
  {c_NoRing:Addr} (e_NoRing:A4 K AR "NoRing" = some (some (.ref c_NoRing)))
  {c_NotClear:Addr} (e_NotClear:A4 K AR "NotClear" = some (some (.ref c_NotClear)))
  {c_NotThree:Addr} (e_NotThree:A4 K AR "NotThree" = some (some (.ref c_NotThree)))
  {c_BadBoard:Addr} (e_BadBoard:A4 K AR "BadBoard" = some (some (.ref c_BadBoard)))
  {c_NoRow:Addr} (e_NoRow:A4 K AR "NoRow" = some (some (.ref c_NoRow)))
  {c_NoBack:Addr} (e_NoBack:A4 K AR "NoBack" = some (some (.ref c_NoBack)))
  (xi_BadWeb:L2.ot K c_BadWeb=true)
  (xi_TooMany:L2.ot K c_TooMany=true)
  (xi_NoTie:L2.ot K c_NoTie=true)
  (xn_BadWeb:L2.xk K c_BadWeb "at" = true)
  (xe_TooMany:PySem.W.excIn K c_TooMany L2.fG "ValueError.__new__" = true)
  (xe_NoTie:PySem.W.excIn K c_NoTie L2.fG "ValueError.__new__" = true)
  (kt:vC K [c_BadWeb,c_NoStep,c_NoText,c_TooMany,c_NoTie,c_NoRing,c_NotClear,c_NotThree,c_BadBoard,c_NoRow,c_NoBack] c_WebError=true)
  (xm_BadWeb:PySem.W.exmOne K (.ref c_BadWeb) (.ref c_WebError)=some true)
  (xm_TooMany:PySem.W.exmOne K (.ref c_TooMany) (.ref c_WebError)=some true)
  (xm_NoTie:PySem.W.exmOne K (.ref c_NoTie) (.ref c_WebError)=some true)
  (w_ga:PySem.W.specialIn K (.ref c_WebError) "__getattribute__" = some (some (.builtin "type.__getattribute__")))
  (w_rd:PySem.W.readsIn K c_WebError (.type "type")=true)
  (w_fd:PySem.W.findCls K (.ref c_WebError) (.type "type") "__init__" = some (.val (.builtin "ValueError.__init__")))
  (hi_BadWeb:L2.tL K c_BadWeb "__init__" "BadWeb.__init__" gO)
  : ∃fd:Be,(∀(s:Ag) (v:Ae),BindsTo s fd ⟨[v],[]⟩ [("script",v)])/\∀base:Heap,K.In base->base.Ns AR mg->bC l.prog w K mg base CX0 8 fa fd ["script"] (o9 K):=by
 obtain ⟨fl,od,an,sl,oc,kV,dc,pm,cd,ct,al,ll,cl,kl⟩:=h26
 have e:=hfa.symm.trans (Br X G al)
 cases e
 have F26:=my ll cl kl
 have z_all:=Bi X G y_all
 have z_bool:=Bi X G y_bool
 have z_enumerate:=Bi X G y_enumerate
 have z_int:=Bi X G y_int
 have z_isinstance:=Bi X G y_isinstance
 have z_len:=Bi X G y_len
 have z_list:=Bi X G y_list
 have z_max:=Bi X G y_max
 have z_min:=Bi X G y_min
 have z_range:=Bi X G y_range
 have z_set:=Bi X G y_set
 have z_sorted:=Bi X G y_sorted
 have z_tuple:=Bi X G y_tuple
 have z_ValueError:=Bi X G y_ValueError
 have w_MOST_PLACES:=Br X G q_MOST_PLACES
 have w_MOST_TIES:=Br X G q_MOST_TIES
 refine ⟨PySem.W.fnOf "law" "law" (cg tO) (bG tO) (aq tO) .none kV dc pm an cd ct,λs v =>.of_eq rfl,λbase kb nb =>?_⟩
 have B:Blt mg:=⟨z_all,z_bool,z_enumerate,z_int,z_isinstance,z_len,z_list,z_max,z_min,z_range,z_set,z_sorted,z_tuple,z_ValueError⟩
 have C:Cst mg:=⟨⟨_,w_MOST_PLACES⟩,⟨_,w_MOST_TIES⟩⟩
 have x_WebError:=Br X G e_WebError
 have x_BadWeb:=Br X G e_BadWeb
 have x_NoStep:=Br X G e_NoStep
 have x_NoText:=Br X G e_NoText
 have x_TooMany:=Br X G e_TooMany
 have x_NoTie:=Br X G e_NoTie
 have x_NoRing:=Br X G e_NoRing
 have x_NotClear:=Br X G e_NotClear
 have x_NotThree:=Br X G e_NotThree
 have x_BadBoard:=Br X G e_BadBoard
 have x_NoRow:=Br X G e_NoRow
 have x_NoBack:=Br X G e_NoBack
 have Z:Exs K mg c_WebError c_BadWeb c_NoStep c_NoText c_TooMany c_NoTie c_NoRing c_NotClear c_NotThree c_BadBoard c_NoRow c_NoBack:=⟨x_WebError,x_BadWeb,x_NoStep,x_NoText,x_TooMany,x_NoTie,x_NoRing,x_NotClear,x_NotThree,x_BadBoard,x_NoRow,x_NoBack,xi_BadWeb,xi_TooMany,xi_NoTie,xn_BadWeb,xe_TooMany,xe_NoTie,kt,xm_BadWeb,xm_TooMany,xm_NoTie,w_ga,w_rd,w_fd⟩
 have cLDeal:=h13.cal l.prog w base X G (λF=>xt F B C) λ_ _ _ _ _ _ us hl=>match us,hl with | [_,_],_=>rfl
 have cLTake:=h14.cal l.prog w base X G (λF=>xu F B C) λ_ _ _ _ _ _ us hl=>match us,hl with | [_,_],_=>rfl
 have cLWhole:=h15.cal l.prog w base X G (λF=>vF F B C) λ_ _ _ _ _ _ us hl=>match us,hl with | [_],_=>rfl
 have cLPairs:=h19.cal l.prog w base X G (λF=>vJ F B cLTake C) λ_ _ _ _ _ _ us hl=>match us,hl with | [_,_],_=>rfl
 have xChk:=h4.ou l.prog w base X G (λF=>jm F B Z C) λ_ _ _ _ _ _ us hl=>match us,hl with | [_,_],_=>rfl
 have cIsWhole:=h1.cal l.prog w base X G (λF=>tQ F B C) λ_ _ _ _ _ _ us hl=>match us,hl with | [_],_=>rfl
 have cIsPlace:=h2.cal l.prog w base X G (λF=>tU F B cIsWhole C) λ_ _ _ _ _ _ us hl=>match us,hl with | [_,_],_=>rfl
 have cIsPair:=h3.cal l.prog w base X G (λF=>vB F B cIsPlace C) λ_ _ _ _ _ _ us hl=>match us,hl with | [_,_],_=>rfl
 have iBadWeb:=hi_BadWeb.ini (L2.dR xn_BadWeb).1 (L2.dQ xi_BadWeb).2.1 l.prog w base (λF=>oF F Z) λ_ _ _ _ _ _ us hl=>match us,hl with | [_,_],_=>rfl
 have xMade:=h5.ou l.prog w base X G (λF=>m6 F B Z iBadWeb xChk cIsWhole cIsPair C) λ_ _ _ _ _ _ us hl=>match us,hl with | [_,_],_=>rfl
 have xPut:=h9.ou l.prog w base X G (λF=>qr F B Z xChk C) λ_ _ _ _ _ _ us hl=>match us,hl with | [_,_,_],_=>rfl
 have xLess:=h10.ou l.prog w base X G (λF=>oQ F B Z C) λ_ _ _ _ _ _ us hl=>match us,hl with | [_,_,_],_=>rfl
 have xBoth:=h12.ou l.prog w base X G (λF=>qu F B Z xChk C) λ_ _ _ _ _ _ us hl=>match us,hl with | [_],_=>rfl
 have cLHeard:=h22.cal l.prog w base X G (λF=>vK F B Z xMade xPut xLess xBoth C) λ_ _ _ _ _ _ us hl=>match us,hl with | [_,_,_,_],_=>rfl
 have cLIsPair:=h20.cal l.prog w base X G (λF=>tW F B cLWhole C) λ_ _ _ _ _ _ us hl=>match us,hl with | [_,_],_=>rfl
 have cLDue:=h21.cal l.prog w base X G (λF=>zd F B cLWhole cLIsPair C) λ_ _ _ _ _ _ us hl=>match us,hl with | [_,_],_=>rfl
 have cLAlone:=h18.cal l.prog w base X G (λF=>vG F B Z C) λ_ _ _ _ _ _ us hl=>match us,hl with | [_,_],_=>rfl
 have cLRefused:=h23.cal l.prog w base X G (λF=>qA F B Z cLAlone cLWhole C) λ_ _ _ _ _ _ us hl=>match us,hl with | [_,_],_=>rfl
 have cLSomePlaces:=h16.cal l.prog w base X G (λF=>kI F B cLTake C) λ_ _ _ _ _ _ us hl=>match us,hl with | [_,_],_=>rfl
 have cCutOneway:=h8.cal l.prog w base X G (λF=>oN F B C) λ_ _ _ _ _ _ us hl=>match us,hl with | [_,_],_=>rfl
 have cLLess:=h17.cal l.prog w base X G (λF=>xB F B C) λ_ _ _ _ _ _ us hl=>match us,hl with | [_,_],_=>rfl
 have cTurnedArrows:=h11.cal l.prog w base X G (λF=>ki F B C) λ_ _ _ _ _ _ us hl=>match us,hl with | [_],_=>rfl
 have cArrowsOut:=h6.cal l.prog w base X G (λF=>oJ F B C) λ_ _ _ _ _ _ us hl=>match us,hl with | [_,_],_=>rfl
 have cArrowsIn:=h7.cal l.prog w base X G (λF=>qo F B C) λ_ _ _ _ _ _ us hl=>match us,hl with | [_,_],_=>rfl
 have cLArrowRight:=h24.cal l.prog w base X G (λF=>kJ F B Z cLHeard cLRefused C) λ_ _ _ _ _ _ us hl=>match us,hl with | [_,_],_=>rfl
 have cLRight:=h25.cal l.prog w base X G (λF=>vN F B Z cLSomePlaces cLHeard cLTake cCutOneway cLLess cTurnedArrows cArrowsOut cArrowsIn cLArrowRight cLRefused C) λ_ _ _ _ _ _ us hl=>match us,hl with | [_,_],_=>rfl
 exact Aa F26 B Z cLDeal cLTake cLWhole cLPairs cLHeard cLDue cLRefused cLRight C
theorem walk {l:PySem.W.OpenLaw}{q:Au}{loose:List Str}{XP:(Str->Option Ae)->Heap->Prop}{YP:AX->Heap->Prop}{d:DefRec}{K:Params->Ab}(hn:l.most=some 63)(hdf:d.params.defaults=[])
  (hY:∀(w:AX) (h:Heap),YP w h->(K w.params).In h)
  (F:∀(w:AX) (mg:Str->Option Ae) (fa:Addr) (h:Heap),(K w.params).In h->h.Ns AR mg->mg d.name=some (.ref fa) →
   ∃fd:Be,(∀(s:Ag) (u:Ae),BindsTo s fd ⟨[u],[]⟩ [("script",u)])/\∀base:Heap,(K w.params).In base->base.Ns AR mg->bC l.prog w (K w.params) mg base CX0 8 fa fd ["script"] (o9 (K w.params))) :
  PySem.W.WalkO q loose XP YP l.row.toRowW d [] (λf vs=>PySem.call f vs) :=
 L2.v8 (n:=63) (k:=8) (x := "script") (CX:=λ_=>CX0) (sp:=λw=>o9 (K w.params)) hn (by decide) hdf ⟨rfl,by decide,by decide⟩ hY F (λ_ _ a ns hl _ hS=>⟨a,ns,rfl,hS,hl,λ_=>rfl⟩) λ_ _ _ _ _ z=>z
end K55
def PySem.W.Fast.tw7436596720002903103:Nat:=0
def PySem.W.Fast.tw10254333636686909700:Nat:=0
def PySem.W.Fast.tw616343561549558099:Nat:=0
def PySem.W.Fast.tw5958009495831092659:Nat:=0
def PySem.W.Fast.tw15323897545088525835:Nat:=0
def PySem.W.Fast.tw2585565780945468075:Nat:=0
def PySem.W.Fast.tw6143903525919659668:Nat:=0
def PySem.W.Fast.tw9000823262279655180:Nat:=0
def PySem.W.Fast.tw10886757509856800047:Nat:=0
def PySem.W.Fast.tw18363639822775026819:Nat:=0
def PySem.W.Fast.tw10773528630921848612:Nat:=0
def PySem.W.Fast.tw11703470771564760885:Nat:=0
def PySem.W.Fast.tw18230115331573216066:Nat:=0
def PySem.W.Fast.tw16369865090652528564:Nat:=0
def PySem.W.Fast.tw14272585225477991449:Nat:=0
def PySem.W.Fast.tw7783318523149969205:Nat:=0
def PySem.W.Fast.tw3442385778383310243:Nat:=0
def PySem.W.Fast.tw11044697056988075703:Nat:=0
def PySem.W.Fast.tw16106468070921353461:Nat:=0
def PySem.W.Fast.tw12953017554271409924:Nat:=0
def PySem.W.Fast.tw8631521955036817473:Nat:=0
def PySem.W.Fast.tw10431210997262662508:Nat:=0
def PySem.W.Fast.tw12394067793403806564:Nat:=0
def PySem.W.Fast.tw12463689974095826275:Nat:=0
def PySem.W.Fast.tw2400801039873984628:Nat:=0
def PySem.W.Fast.tw11258762974675742592:Nat:=0
def PySem.W.Fast.tw6977263679711948917:Nat:=0
def PySem.W.Fast.tw7232856222603590579:Nat:=0
def PySem.W.Fast.tw10576998780738873142:Nat:=0
def PySem.W.Fast.tw4490160278147783584:Nat:=0
def PySem.W.Fast.tw121747197168187650:Nat:=0
def PySem.W.Fast.tw14674659339470497965:Nat:=0
def PySem.W.Fast.tw17530128755733898956:Nat:=0
def PySem.W.Fast.tw3761318203738934305:Nat:=0
def PySem.W.Fast.tw1949797561386564375:Nat:=0
def PySem.W.Fast.tw3304067116603694850:Nat:=0
def PySem.W.Fast.tw662940537953666509:Nat:=0
def PySem.W.Fast.tw1060348511855052041:Nat:=0
def PySem.W.Fast.tw12807000077801752773:Nat:=0
def PySem.W.Fast.tw17716437154245232311:Nat:=0
def PySem.W.Fast.tw16938698084401209548:Nat:=0
def PySem.W.Fast.tw1296242299698758832:Nat:=0
def PySem.W.Fast.tw2439712012531817310:Nat:=0
def PySem.W.Fast.tw673096218746081424:Nat:=0
def PySem.W.Fast.tw14199260542972632059:Nat:=0
def PySem.W.Fast.tw1337882611574780881:Nat:=0
def PySem.W.Fast.tw11751960970354590563:Nat:=0
def PySem.W.Fast.tw14863362193724244265:Nat:=0
def PySem.W.Fast.tw1075268459731774492:Nat:=0
def PySem.W.Fast.tw15221405445212979406:Nat:=0
def PySem.W.Fast.tw10804724944603669609:Nat:=0
def PySem.W.Fast.tw6541305733614767553:Nat:=0
def PySem.W.Fast.tw14810752253405790728:Nat:=0
def PySem.W.Fast.tw6367453437413019481:Nat:=0
def PySem.W.Fast.tw1826488845447124164:Nat:=0
def PySem.W.Fast.tw14783977915482380707:Nat:=0
def PySem.W.Fast.tw1485912398012807190:Nat:=0
def PySem.W.Fast.tw5151474326323554801:Nat:=0
def PySem.W.Fast.tw9976255661458558343:Nat:=0
def PySem.W.Fast.tw12327472249513954907:Nat:=0
def PySem.W.Fast.tw5713157214103926213:Nat:=0
def PySem.W.Fast.tw5666051578590040011:Nat:=0
def PySem.W.Fast.tw7026618425188232586:Nat:=0
def PySem.W.Fast.tw5157285062758167679:Nat:=0
def PySem.W.Fast.tw11900287238787639773:Nat:=0
def PySem.W.Fast.tw16093593906062814912:Nat:=0
def PySem.W.Fast.tw12994766117084580345:Nat:=0
def PySem.W.Fast.tw5030288801356020751:Nat:=0
def PySem.W.Fast.tw1315266238498229001:Nat:=0
def PySem.W.Fast.tw2188220185786785768:Nat:=0
def PySem.W.Fast.tw13166970967408583541:Nat:=0
def PySem.W.Fast.tw5480279855058729351:Nat:=0
def PySem.W.Fast.tw14261664841903133558:Nat:=0
def PySem.W.Fast.tw3576820952989575014:Nat:=0
def PySem.W.Fast.tw17586128322401595635:Nat:=0
def PySem.W.Fast.tw13142871348260536944:Nat:=0
def PySem.W.Fast.tw18030627443411574623:Nat:=0
def PySem.W.Fast.tw5859454120817635043:Nat:=0
def PySem.W.Fast.tw15814988003234676570:Nat:=0
def PySem.W.Fast.tw353470911826821101:Nat:=0
def PySem.W.Fast.tw5913186170294314933:Nat:=0
def PySem.W.Fast.tw12119309377104860053:Nat:=0
def PySem.W.Fast.tw13232449606428906605:Nat:=0
def PySem.W.Fast.tw4411774436448078949:Nat:=0
def PySem.W.Fast.tw14652620625805587120:Nat:=0
def PySem.W.Fast.tw2199763499748122443:Nat:=0
def PySem.W.Fast.tw4497252642460690109:Nat:=0
def PySem.W.Fast.tw14012061814169946654:Nat:=0
def PySem.W.Fast.tw15665554999181166407:Nat:=0
def PySem.W.Fast.tw7353491937899751889:Nat:=0
def PySem.W.Fast.tw1406905533189376814:Nat:=0
def PySem.W.Fast.tw13780685065884567563:Nat:=0
def PySem.W.Fast.tw6105359923794536090:Nat:=0
def PySem.W.Fast.tw6827789155153718074:Nat:=0
def PySem.W.Fast.tw4898699831872728307:Nat:=0
def PySem.W.Fast.tw5586711904880553961:Nat:=0
def PySem.W.Fast.tw9905993191406507709:Nat:=0
def PySem.W.Fast.tw17796380034041547517:Nat:=0
def PySem.W.Fast.tw9952120933194513798:Nat:=0
def PySem.W.Fast.tw6068183482650653556:Nat:=0
def PySem.W.Fast.tw13886992204288864612:Nat:=0
def PySem.W.Fast.tw3948197095868497663:Nat:=0
def PySem.W.Fast.tw14260574176879617559:Nat:=0
def PySem.W.Fast.tw10693382808835436819:Nat:=0
def PySem.W.Fast.tw14695886590748701181:Nat:=0
def PySem.W.Fast.tw6486654085660844178:Nat:=0
def PySem.W.Fast.tw10600635451045065805:Nat:=0
def PySem.W.Fast.tw5572837965003119309:Nat:=0
def PySem.W.Fast.tw18308234836498782459:Nat:=0
def PySem.W.Fast.tw13637833647595003911:Nat:=0
def PySem.W.Fast.tw12801755379563919964:Nat:=0
def PySem.W.Fast.tw7540250186938967896:Nat:=0
def PySem.W.Fast.tw16858777483799361871:Nat:=0
def PySem.W.Fast.tw5232893388741756198:Nat:=0
def PySem.W.Fast.tw18314833977637459814:Nat:=0
def PySem.W.Fast.tw8570230401892530933:Nat:=0
def PySem.W.Fast.tw11257690598277424495:Nat:=0
def PySem.W.Fast.tw12353901692317463676:Nat:=0
def PySem.W.Fast.tw534001450233863019:Nat:=0
def PySem.W.Fast.tw3211312030632834940:Nat:=0
def PySem.W.Fast.tw1942330622723732435:Nat:=0
def PySem.W.Fast.tw14231508005670015764:Nat:=0
def PySem.W.Fast.tw903518058423671397:Nat:=0
def PySem.W.Fast.tw17722301075607139799:Nat:=0
def PySem.W.Fast.tw15168821915994461837:Nat:=0
def PySem.W.Fast.tw6313835190423530472:Nat:=0
def PySem.W.Fast.tw13583182003142082569:Nat:=0
def PySem.W.Fast.tw18303553997265774945:Nat:=0
def PySem.W.Fast.tw16280582971702573550:Nat:=0
def PySem.W.Fast.tw12158264801276974252:Nat:=0
def PySem.W.Fast.tw14633457207282456644:Nat:=0
def PySem.W.Fast.tw15947024644295226857:Nat:=0
def PySem.W.Fast.tw8640421390233682297:Nat:=0
def PySem.W.Fast.tw15736169961616684238:Nat:=0
def PySem.W.Fast.tw14216598741189309661:Nat:=0
def PySem.W.Fast.tw3919682364259195228:Nat:=0
def PySem.W.Fast.tw6246316652455490025:Nat:=0
def PySem.W.Fast.tw10562653020718811250:Nat:=0
def PySem.W.Fast.tw13827797611904256431:Nat:=0
def PySem.W.Fast.tw6209705984381810092:Nat:=0
def PySem.W.Fast.tw10314389316378410750:Nat:=0
def PySem.W.Fast.tw13499530368925570698:Nat:=0
def PySem.W.Fast.tw15973306068905819011:Nat:=0
def PySem.W.Fast.tw6806558584869031322:Nat:=0
def PySem.W.Fast.tw4309035969024209218:Nat:=0
def PySem.W.Fast.tw16084097314662459687:Nat:=0
def PySem.W.Fast.tw1809242647063628472:Nat:=0
def PySem.W.Fast.tw11806125634481196458:Nat:=0
def PySem.W.Fast.tw15021355915912624567:Nat:=0
def PySem.W.Fast.tw10545529330754168943:Nat:=0
def PySem.W.Fast.tw14116597548687878205:Nat:=0
def PySem.W.Fast.tw3918138485602192770:Nat:=0
def PySem.W.Fast.tw6082508182238455829:Nat:=0
def PySem.W.Fast.tw9251085255665348099:Nat:=0
def PySem.W.Fast.tw12200718948090726736:Nat:=0
def PySem.W.Fast.tw13153901418905054426:Nat:=0
def PySem.W.Fast.tw8341329852593678871:Nat:=0
def PySem.W.Fast.tw13355817784997923392:Nat:=0
def PySem.W.Fast.tw5566502429062975792:Nat:=0
def PySem.W.Fast.tw479867211600685975:Nat:=0
def PySem.W.Fast.tw8488210934241401640:Nat:=0
def PySem.W.Fast.tw16990905986428435749:Nat:=0
def PySem.W.Fast.tw2193516072027970580:Nat:=0
def PySem.W.Fast.tw6365522820548264919:Nat:=0
def PySem.W.Fast.tw6301170776878357159:Nat:=0
def PySem.W.Fast.tw9011797223111977548:Nat:=0
def PySem.W.Fast.tw7528730188736247090:Nat:=0
def PySem.W.Fast.tw13965704026801573534:Nat:=0
def PySem.W.Fast.tw17613884789863490113:Nat:=0
def PySem.W.Fast.tw7505746314272280681:Nat:=0
def PySem.W.Fast.tw16027580199796443861:Nat:=0
def PySem.W.Fast.tw2839165323150916516:Nat:=0
def PySem.W.Fast.tw13389139874385654653:Nat:=0
def PySem.W.Fast.tw15083550865113288224:Nat:=0
def PySem.W.Fast.tw18265285856153132942:Nat:=0
def PySem.W.Fast.tw13732819102355649379:Nat:=0
def PySem.W.Fast.tw7375681766895981091:Nat:=0
def PySem.W.Fast.tw14168312180000453572:Nat:=0
def PySem.W.Fast.tw10982973754943090013:Nat:=0
def PySem.W.Fast.tw16600848652349309832:Nat:=0
def PySem.W.Fast.tw2342063154148102717:Nat:=0
def PySem.W.Fast.tw7328499716900326055:Nat:=0
def PySem.W.Fast.tw4715032146998494879:Nat:=0
def PySem.W.Fast.tw10841364967309790665:Nat:=0
def PySem.W.Fast.tw1903887865816587294:Nat:=0
def PySem.W.Fast.tw11933410088496457898:Nat:=0
def PySem.W.Fast.tw10039581163419613805:Nat:=0
def PySem.W.Fast.tw18237911216908717205:Nat:=0
def PySem.W.Fast.tw6483697307429977044:Nat:=0
def PySem.W.Fast.tw5804757028664765406:Nat:=0
open PySem PySem.W PyProof.Rows
set_option maxRecDepth 100000 in
set_option maxHeartbeats 0 in
theorem PySem.Challenge.cw_ringfell_k55_oneway_webs_made_holds : PySem.Challenge.rw_ringfell_k55_oneway_webs_made.Holds := by
 w_on;o_law;k_head;(case hw=>w_witness2)
 k_fill
 refine K55.walk (l:=PySem.Challenge.rw_ringfell_k55_oneway_webs_made) rfl rfl (λw h Y=>PySem.W.kIn_of Y) ?F
 case F =>
  intro w mg fa h KX G hmg
  refine' K55.all_mk KX G hmg ?_ ?_ ?_ ?_ ?_ ?_ ?_ ?_ ?_ ?_ ?_ ?_ ?_ ?_ ?_ ?_ ?_ ?_ ?_ ?_ ?_ ?_ ?_ ?_ ?_ ?_ ?_ ?_ ?_ ?_ ?_ ?_ ?_ ?_ ?_ ?_ ?_ ?_ ?_ ?_ ?_ ?_ ?_ ?_ ?_ ?_ ?_ ?_ ?_ ?_ ?_ ?_ ?_ ?_ ?_ ?_ ?_ ?_ ?_ ?_ ?_ ?_ ?_ ?_ ?_ ?_ ?_ ?_
  any_goals k_is
  any_goals (refine' L2.cb.mk ?a ?l ?c ?k;(case a=>k_is);(case l=>k_is);(case c=>k_is);(case k=>k_is))
  any_goals (with_reducible refine' L2.tL.mk ?i ?n ?l ?c ?k;(case i=>k_is);(case n=>k_is);(case l=>k_is);(case c=>k_is);(case k=>k_is))
  all_goals kernel_rfl
