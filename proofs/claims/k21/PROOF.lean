import PyProof.Rows.All
import Wide.All
import OpenK.AllK
import Wide.FinOn
import Lean
import PyProof.EqAt
import PyProof.EqKinds
import PyProof.TupleCall
import KE.KRevIter
import PyProof.MinMaxWalk
import KE.KNestM
import KE.KSortKey
import PySem.Challenge.RW_ringfell_k21_whole_ways_walked
open PySem renaming wpAny_bind → Bd,Value → Bh,Shared → Bi,wpAny_pure → Bk,Program → BD,sizeLine → BJ,wpAny → BL,model → B1,Around → B9,wpAny_newObj_type → Ca,World → Cb,starEach → Ce,mainGlobals → Cg,wpAny_call_entry → Co,FuncData → Cr,wpAny_callSpecial?_slot → Ct,wpAny_holding → CG,codeAny_builtin → CJ,bootBuiltins → CM,compareOp → CV,wpAny_field → C3,wpAny_ite_split → C4,wpAny_truthy_bool → C7,wpAny_mono → Dg,wpAny_attempt → DC,richCompare_meets_room → DE,wpAny_of_eq → DH,plainId_quiet → DL,builtinLookup_eq_fast → DQ,wpAny_Call_Name_kw → DS,rawInt → DX,wpAny_rule → D0,mem_of_lookup → D2,wpAny_typeOf → Ec,isSubtype_type → Ee,wpAny_passesOwn → Eu,wpAny_pyIter_tuple → ET,wpAny_specialOf → E3,typeLookup_type → E4,wpAny_updateSeq → E5,backTo → Fd,wpAny_isInstance → Fl,codeAny_mono → Fu,wpAny_newList → FD,wpAny_pyIter_list → FL,wpAny_pyIter_slot → FN,wpAny_seqItems → FO,wpAny_setField → FP,wpAny_runValue → FQ,noFill_tuple_add → F6,wpAny_execs_nil → Gq,wpAny_letOwnedTupleGo_enum → Gx,concat_meets → GB,tupleKind_room_in1 → GF,wpAny_tryCatch → GQ,codeAny → GR,wpAny_sequenceKey → G1,wpAny_standAt → He,sizeLine_eq → Hf,seq_tuple_add → Hg,wpAny_letGo → Hh,wpAny_eqBool_int → Hk,wpAny_Call_method_late → Hu,wpAny_isTrue_Compare1 → HD,callType_new → HE,codeAny_of_tree → HF,weight_type_call_type → HG,intKind_is → HI,wpAny_newFunctionEnv → HN,codeAny_call_builtin → HP,codeAny_extend_loopS → HQ,isSubtype_stop → HV,seqIndex_of → Ie,evalPart_none → IE,wpAny_eqBool_tuple → IG,signature?_of → IH,wpAny_load → IS,wpAny_call → IT,call_meets → IU,init_tuple_lookup → IW,seqIndex_neg → Ja,holding → JB,wpAny_Name → JP
open PySem.W renaming Frag → Be,mg_none_of → CD,nsIn → C5,kat_nil → EY,kat_cons → F0,kat_yes → Gj,kat_no → GL,kat_kind → Hi,cellsFrom_some → Hl,codeHd_of_K → Ia,callWith_K → Ii,mg_of → Iy,kat_one → Jx,kat_lt → JI
open PySem.Heap renaming get?_push_of_some → Bf,get?_push_size → Bp,lt_size → Bq,get?_update_other → Cm,get?_update_self → CB,get?_update_ne → DF,size_push → EK,size_update → Ji
open List renaming length_map → Bg,length_append → Bj,size_toArray → Bm,mem_cons_self → Br,length_cons → Bs,getElem?_eq_some_iff → Bt,mem_map → Bw,mem_singleton → Bz,getElem?_eq_getElem → BA,map_append → BB,mem_append → BC,map_cons → BF,mem_cons_of_mem → BG,mem_append_right → BO,map_map → BP,getElem?_map → BQ,mem_cons → BR,length_singleton → BV,mem_filter → BX,append_assoc → BZ,pairwise_map → B0,mem_of_getElem? → B4,take_of_length_le → B5,getD_eq_getElem?_getD → B8,range → Cc,append_nil → Cf,getElem?_toArray → Ck,length_nil → Cq,mem_range → Cu,mem_iff_getElem? → Cv,count_cons → Cy,length_take → CA,drop_sublist → CI,take_sublist → CQ,take_add_one → CT,pairwise_append → CU,length_reverse → CZ,mem_of_mem_take → Dc,filter_append → Dd,extract_eq_take_drop → Dh,reverse_append → Dk,filter_eq_self → Dl,mergeSort_perm → Dm,reverse_cons → Dn,take_append_drop → Dq,count_append → Dr,zip_cons_cons → Du,pairwise_singleton → Dv,getElem?_take → Dy,filter_cons_of_neg → DA,filter_cons_of_pos → DB,getElem?_append_right → DD,length_range → DG,getElem?_append_left → DJ,nodup_cons → DM,length_filter_le → DP,pairwise_cons → DR,length_drop → DT,reverse_reverse → DV,pairwise_mergeSort → DY,all_eq_true → D5,getElem?_eq_none → Eb,take_zero → Ed,replicate → Ef,mem_append_left → Eg,mem_of_mem_drop → Eh,flatMap_cons → Er,filter_map → Es,filterMap_cons → Ey,getElem?_cons_succ → EB,mem_map_of_mem → EE,map_congr_left → EF,lookup_cons → EH,getElem_mem → EI,getElem?_set_self → EL,mem_filterMap → EO,getElem?_drop → ER,perm_append_comm → EX,find?_cons → EZ,any_cons → E6,perm_ext_iff_of_nodup → Fb,pairwise_iff_getElem → Ff,cons_append → Fh,map_reverse → Fj,nil_append → Fy,ext_getElem? → FK,drop_append_of_le_length → FW,take_append_of_le_length → FX,not_mem_nil → F1,any_eq_true → F2,mem_toArray → F3,singleton_perm_singleton → F4,count_eq_zero_of_not_mem → F5,getElem?_set_ne → F9,of_mem_zip → Gg,length_take_le → Gn,flatMap_append → Gp,getElem?_zip_eq_some → GG,getElem?_eq_none_iff → GI,drop_left → GJ,count_nil → GO,flatten_cons → GW,find?_range_eq_none → GX,map_take → G7,sum_cons → Hd,filter_cons → Hj,drop_eq_nil_of_le → Hn,pairwise_lt_range → Ho,set_set → Hv,length_zip → Hz,getElem?_reverse → HA,cons_lt_cons_iff → HB,filterMap_append → HC,drop_zero → HR,nodup_nil → HS,perm_cons → HU,map_eq_nil_iff → HY,getElem_of_mem → HZ,length_pos_iff → Ib,take_succ_cons → Ic,zip_nil_right → Ij,map_inj_right → Iu,count_reverse → Iz,count_pos_iff → IA,map_replicate → IC,zip_nil_left → IJ,map_nil → IX,perm_middle → Jg,nodup_range → Jj,ext_getElem → Jl,take_length → Jn,mem_flatMap → Jo,length_set → Jp,foldl_cons → Js,map_const' → Jy,drop_drop → JH,all_cons → JQ,map_drop → JT,any_map → JV
open Array renaming length_toList → Bl,getElem?_toList → Bv,toList_append → B6,mem_toList_iff → Ci,getElem?_eq_getElem → Cw,getElem?_eq_some_iff → C9,getElem?_eq_none → De,size_map → Di,getD_eq_getD_getElem? → Dz,toList_extract → DU,toList_reverse → Ei,toList_push → En,size_push → Eo,size_append → Ep,getElem?_append_right → E1,toList_inj → FY,toList_map → FZ,toList_setIfInBounds → Gv,perm_iff_toList_perm → Gw,size_setIfInBounds → GV,getElem?_replicate → GY
open Nat renaming le_refl → Bn,lt_of_lt_of_le → BE,ne_of_lt → BI,le_trans → BS,zero_le → BU,lt_of_le_of_lt → Cn,lt_succ_of_lt → CH,lt_irrefl → CN,add_sub_cancel_left → Dw,le_sub_one_of_lt → DW,lt_succ_self → D6,mod_lt → D7,zero_add → Ea,le_add_right → EJ,eq_zero_of_not_pos → EN,ne_of_gt → EU,lt_of_succ_lt → E7,le_of_lt_succ → E8,lt_of_not_le → Fi,add_le_add_left → Fm,le_of_lt → Fo,succ_pos → Fq,le_succ → FH,le_succ_of_le → FJ,sub_one_lt_of_lt → Gb,le_antisymm → Hw,le_of_sub_eq_zero → Hx,add_zero → Hy,not_lt → HH,lt_of_le_of_ne → Iq,sub_pos_of_lt → IM,le_of_succ_le → IP,min_self → IY,le_of_not_lt → Jf,succ_le_succ → Jh,mul_mod → Ju,add_mod → Jv,add_assoc → JR
open Bool renaming false_ne_true → Bo,and_eq_true → Cj,false_eq_true → CK,eq_iff_iff → CO,eq_false_iff → DZ,or_eq_true → Ek,not_eq_true' → Et,not_true → G6,false_or → Iw,false_and → JC,and_false → JJ
open PyProof.Rows renaming wpS_bind → Bx,Keyed → BH,wpS_pure → BK,arrOf → BM,pendingOf → B2,slot_tuple_getitem → B3,SortSt → B7,wpS_forRange → CL,IntsAre → C8,callWith_type1 → Dt,wpS_mono → DK,wpS_modify → D1,listUpdate_at → E9,get?_update_seq → FC,wpS_get → F7,reverseSlice'_eq → F8,KeyOrd → Gd,wpS_lift → Gf,args_tuple_getitem → GC,listItems_at → GD,slicePart_none → GP,subscriptTail_builtinR → Ht,getElem?_mirror_all → Ig,seqEpoch_at → Ih,tupleItemsOf_ → ID,size_push' → IV,plain_sorted → Jb,entry_sorted → Jc,kind_sorted → Jz,oneLt_int → JA
open PySem.Value renaming ref → BN,int → Ds,none → DI,type → Ew,isInt_shape → II
open Option.some renaming inj → BW
open PyProof.Rows.KeyOrd renaming kle_trans → Cd,kle_of_klt → CS,kle_refl → Dx,kle_antisymm → HX
open PySem.F renaming plainAttrs_list → Cp,slot_dict_keyiterator_next → CP,slot_list_append → CW,type_list_append → CY,called_set → C0,plain_min_loop → Df,slot_tuple_iterator_next → D4,args_tuple_add_2 → Ej,entry_tuple_add → Ez,plain_list_iadd → ED,slot_list_count → EG,slot_tuple_add → EM,slot_enumerate_iter → EV,slot_enumerate_next → EW,args_object_init_2 → Fc,args_dict_keyiterator_next_1 → Fg,entry_dict_keyiterator_next → Fn,slot_tuple_count → Ft,type_list_count → FA,entry_min_loop → FG,slot_dict_get → FU,args_list_ne_2 → FV,args_tuple_iterator_next_1 → Ge,entry_list_ne → Gh,entry_tuple_iterator_next → Gi,entry_proto_collect → Gk,plain_proto_collect → Gm,slot_list_ne → GH,plain_extend_loop → GN,typeCall_tuple_1 → GZ,type_tuple_count → G0,args_enumerate_iter_1 → G5,entry_list_iadd → G9,newCall_tuple_1 → Ha,entry_tuple_new → Hb,args_dict_get_3 → Hc,entry_enumerate_iter → Hm,typeCall_set_1 → Hq,entry_dict_get → Hr,slot_dict_iter → Hs,called_tuple → HL,mro_reversed → HM,entry_type_call → IQ,entry_set_init → Jk,plain_set_new → Jw
open PySem.Obj renaming mapSeq → Cs,data_mapFields → D9,isFreed_of_fields → FR,cls_mapFields → IL
open PySem.Builtin.List renaming listExtendWith → Cz,listLengthHint → Gr,listSameRef → G3
open List.cons renaming inj → CC,injEq → E2
open PySem.Around renaming under_plainId → CF,frames_deeper → HJ,under_plain → Ir
open Ne renaming symm → C6
open PySem.PassesOwn renaming never → Dj
open List.Perm renaming append_left → Dp,append_right → D3,refl → Fe
open Iff renaming rfl → DN
open PySem.SeqAt.EqAt renaming int_int → D8,same → Fx,int_str → Gy,str_int → Gz,str_str → Im,of_refs → Ip
open Option renaming map_some → Em,isSome_iff_exists → Fp,map_eq_some_iff → FF,getD_none → Jd
open PySem.SeqAt renaming EqAt → Ex,list_ne_lengthsAt → G4,notIn_tupleAt → HW,notIn_listAt → Io,in_tupleAt → Je,in_listAt → Jq,list_neAt → Jr
open PySem.Heap.SameBut renaming update → EA
open PyProof.Rows.F renaming plain_set_update_loop → EC,entry_set_update_loop → G8
open Int renaming emod_lt_of_pos → ES,emod_nonneg → Fz,toNat_natCast → FI,fdiv_eq_ediv_of_nonneg → Gu
open List.Pairwise renaming imp_of_mem → Fs,filter → JW,imp → Ka
open PySem.Paired renaming length → Fv,snoc → JZ
open PySem.Calls renaming spliced_cons → Fw,callWith_builtin → FE,evalArgs_plain → Ga,Name_function_global → Gs,call_function_entry → GK,spliced_nil → GS
open PySem.W.Looks renaming of_pure → FT
open PySem.Code renaming quiet_builtin → GA
open PySem.AutoSeq1 renaming sub_tuple_tuple → GU
open PySem.W.KatTups renaming cons → HK
open Prod renaming ext → Ik,ext_iff → IZ
open PySem.Heap.IsSliceOf renaming new → Il
open PySem.SeqAt.RcAt renaming tuples → IK
open PySem.Heap.ExtBut renaming push → Jm
open StateT renaming run_pure → Jt
open PySem.EqMixed renaming eq_bool_str → JD,eq_str_bool → JE,ne_bool_str → JF,ne_str_bool → JG,eq_int_str → JK,eq_str_int → JL,ne_int_str → JM,ne_str_int → JN
open PySem.Walks renaming list → JO,tuple → JY
open PySem.Moved renaming eq_with → JU,trans → JX
open PySem.ItemsOf renaming nil → J0
set_option Elab.async false
set_option linter.all false
set_option maxRecDepth 100000
namespace L2
open PySem PySem.Spec PyProof.Rows
abbrev Key:=Sum Int Str
def lL:Key->Bh->Bool
 | .inl k,v=>Value.isInt k v
 | .inr x,v=>Value.isStrOf x v
def keyH (w:Cb):Key->Int
 | .inl k=>hashInt k
 | .inr x=>hashStr w x
theorem bu:∀{k:Key} {v:Bh},lL k v=true->(∃i t,k=Sum.inl i/\v=Ds i t)\/(∃x t,k=Sum.inr x/\v=Value.str x t)
 | .inl i,v,h=>by
  obtain ⟨t,e⟩:=II (k:=i) (v:=v) h
  exact .inl ⟨i,t,rfl,e⟩
 | .inr x,v,h=>by
  obtain ⟨t,e⟩:=Value.isStrOf_shape (x:=x) (v:=v) h
  exact .inr ⟨x,t,rfl,e⟩
theorem t6 (i:Int)(t:Tok):lL (.inl i) (.int i t)=true:=by simp[lL,Value.isInt]
theorem t7 (x:Str)(t:Tok):lL (.inr x) (.str x t)=true:=by simp[lL,Value.isStrOf]
theorem zd (a b:Int):decide ((Sum.inl a:Key)=Sum.inl b)=(a == b):=by
 by_cases e:a=b
 ·subst e;simp
 ·have h:¬ (Sum.inl a:Key)=Sum.inl b:=λq=>e (Sum.inl.inj q)
  rw[decide_eq_false h]
  exact (beq_eq_false_iff_ne.mpr e).symm
theorem ze (a b:Str):decide ((Sum.inr a:Key)=Sum.inr b)=decide (a=b):=by
 by_cases e:a=b
 ·subst e;simp
 ·have h:¬ (Sum.inr a:Key)=Sum.inr b:=λq=>e (Sum.inr.inj q)
  rw[decide_eq_false h,decide_eq_false e]
theorem zf (a:Int)(b:Str):decide ((Sum.inl a:Key)=Sum.inr b)=false:=decide_eq_false (λq=>nomatch q)
theorem zg (a:Str)(b:Int):decide ((Sum.inr a:Key)=Sum.inl b)=false:=decide_eq_false (λq=>nomatch q)
def bD (prog:BD)(w:Cb):PySem.KeyKind prog w Key where
 is:=lL
 hash:=keyH w
 inj:=λv a b ha hb=>by
  rcases bu ha with ⟨i,t,rfl,rfl⟩ | ⟨x,t,rfl,rfl⟩
  ·rcases bu hb with ⟨j,u,rfl,e⟩ | ⟨y,u,rfl,e⟩
   ·injection e with e1 _;rw[e1]
   ·exact nomatch e
  ·rcases bu hb with ⟨j,u,rfl,e⟩ | ⟨y,u,rfl,e⟩
   ·exact nomatch e
   ·injection e with e1 _;rw[e1]
 byValue:=λk v h=>by
  rcases bu h with ⟨i,t,rfl,rfl⟩ | ⟨x,t,rfl,rfl⟩ <;> rfl
 pyHash:=λhv h=>by
  rcases bu hv with ⟨i,t,rfl,rfl⟩ | ⟨x,t,rfl,rfl⟩
  ·exact wpAny_pyHash_int h
  ·exact wpAny_pyHash_str h
 eqBool:=λhu hv h=>by
  rcases bu hu with ⟨i,t,rfl,rfl⟩ | ⟨x,t,rfl,rfl⟩
  ·rcases bu hv with ⟨j,u,rfl,rfl⟩ | ⟨y,u,rfl,rfl⟩
   ·rw[zd] at h;exact Hk h
   ·rw[zf] at h;exact Gy i t y u _ _ _ _ h
  ·rcases bu hv with ⟨j,u,rfl,rfl⟩ | ⟨y,u,rfl,rfl⟩
   ·rw[zg] at h;exact Gz x t j u _ _ _ _ h
   ·rw[ze] at h;exact wpAny_eqBool_str h
 «strs» := λk x t v h=>by
  rcases bu h with ⟨i,u,rfl,e⟩ | ⟨y,u,rfl,e⟩
  ·exact nomatch e
  ·injection e with e1 _
   subst e1
   cases v <;> rfl
theorem ou (prog:BD)(w:Cb)(i:Int)(t:Tok):(bD prog w).is (.inl i) (.int i t)=true:=t6 i t
theorem ow (prog:BD)(w:Cb)(x:Str)(t:Tok):(bD prog w).is (.inr x) (.str x t)=true:=t7 x t
open PySem PySem.Spec PyProof.Rows
inductive V where
 | non | bl (b:Bool) | int (i:Int) | str (x:Str) | byt (b:Array UInt8) | flt (b:UInt64) | ref (a:Addr) | ty (n:String)
 deriving DecidableEq
def RelV:V->Bh->Prop
 | .non,u=>u=DI
 | .bl b,u=>u=Value.bool b
 | .int i,u=>∃t,u=Ds i t
 | .str x,u=>∃t,u=Value.str x t
 | .byt b,u=>∃t,u=Value.bytes b t
 | .flt b,u=>∃t,u=Value.float b t
 | .ref a,u=>u=BN a
 | .ty n,u=>u=Ew n
abbrev Vals:List V->List Bh->Prop:=Paired RelV
theorem Vals.length {xs:List V}{us:List Bh}(r:Vals xs us):xs.length=us.length:=Fv r
theorem Vals.get:∀{xs:List V} {us:List Bh} {i:Nat} {x:V},Vals xs us->xs[i]? = some x->∃u,us[i]? = some u/\RelV x u
 | _,_,_,_,.nil,e=>by simp at e
 | _,_,0,_,.cons r _,e=>by simp at e;subst e;exact ⟨_,rfl,r⟩
 | _,_,i+1,x,.cons _ t,e=>by
  obtain ⟨u,h1,h2⟩:=Vals.get (i:=i) (x:=x) t (by simpa using e)
  exact ⟨u,by simpa using h1,h2⟩
theorem Vals.set {x:V}{u:Bh}(r:RelV x u):∀{xs:List V} {us:List Bh} (i:Nat),Vals xs us->Vals (xs.set i x) (us.set i u)
 | _,_,_,.nil =>.nil
 | _,_,0,.cons _ t =>.cons r t
 | _,_,i+1,.cons q t =>.cons q (Vals.set r i t)
theorem Vals.append:∀{xs ys:List V} {us ws:List Bh},Vals xs us->Vals ys ws->Vals (xs++ys) (us++ws)
 | _,_,_,_,.nil,s=>s
 | _,_,_,_,.cons r t,s =>.cons r (Vals.append t s)
theorem Vals.take:∀{xs:List V} {us:List Bh} (n:Nat),Vals xs us->Vals (xs.take n) (us.take n)
 | _,_,0,_ =>.nil
 | _,_,_+1,.nil =>.nil
 | _,_,n+1,.cons r t =>.cons r (Vals.take n t)
theorem Vals.drop:∀{xs:List V} {us:List Bh} (n:Nat),Vals xs us->Vals (xs.drop n) (us.drop n)
 | _,_,0,r=>r
 | _,_,_+1,.nil =>.nil
 | _,_,n+1,.cons _ t=>Vals.drop n t
def jq:Option V->Option Bh->Prop
 | some v,some u=>RelV v u
 | none,none=>True
 | _,_=>False
def KV {κ:Type}:List (κ×V)->List (κ×Bh)->Prop:=Paired λ(p:κ×V) (q:κ×Bh)=>p.1=q.1/\RelV p.2 q.2
def kV:Key->V
 | .inl i =>.int i
 | .inr x =>.str x
inductive HO where
  | lst (xs:List V)
  | tup (xs:List V)
  | dK (kvs:List (Key×V)) | dT (kvs:List (List Key×V))
  | set (S:Int->Bool) (n:Nat)
  | ins (C dx:Addr) (fs:List (Str×V))
  | own (x:Addr)
  | xd (fs:List (Str×V))
  | met (f x:Addr)
  | rng (lo hi:Int)
  | frz (o:Obj) (u:HO)
  | tbl (ps:Array Bh)
  | ext (φ:Heap->Prop)
abbrev Hp:=Addr->Option HO
def upd (H:Hp)(a:Addr)(o:HO):Hp:=λb=>if b=a then some o else H b
theorem af {H:Hp}{a:Addr}{o:HO}:upd H a o a=some o:=by unfold upd;rw[if_pos rfl]
theorem ao {H:Hp}{a b:Addr}{o:HO}(h:b≠a):upd H a o b=H b:=by unfold upd;rw[if_neg h]
theorem jK {H:Hp}{a b:Addr}{o u:HO}(h:H a=some o)(h':H b=some u)(d:o≠u):a≠b:=by
 intro e;subst e;rw[h] at h';exact d (BW h')
theorem aA {H:Hp}{a b:Addr}{o:HO}(h:H a=some o)(h':H b=none):a≠b:=by
 intro e;subst e;rw[h] at h';cases h'
def cN (h:Heap)(a:Addr)(items:Array Bh):Prop:=∃o,h.get? a=some o/\(o.cls = .type "tuple" /\ o.dict=none)/\∃n,o.data = .seq items n
theorem cN.tup {h:Heap}{a:Addr}{items:Array Bh}(x:cN h a items):IsTup h a items:=let ⟨o,e,c,n,d⟩:=x;⟨o,e,c.1,n,d⟩
theorem cN.new (h:Heap)(items:Array Bh):cN (h.push { cls :=.type "tuple",data :=.seq items }) h.objs.size items:=⟨_,Bp _ rfl,⟨rfl,rfl⟩,_,rfl⟩
def qAt (ps:Array Bh)(pos:Pos)(q:Str):Prop:=∃(i:Nat) (t:Tok),ps[3*i]? = some (DX pos.line)/\ps[3*i+1]? = some (DX pos.col)/\ps[3*i+2]? = some (.str q t)
def cAt (ps:Array Bh)(pos:Pos)(c:Addr):Prop:=∃i:Nat,ps[3*i]? = some (DX pos.line)/\ps[3*i+1]? = some (DX pos.col)/\ps[3*i+2]? = some (.ref c)
section
variable  (P:BD)(w:Cb)
def ba (H:Hp)(h:Heap)(a:Addr):HO->Prop
 | .lst xs=>xs.length<=BJ/\∃(its:List Bh) (n:Nat),Vals xs its/\h.get? a=some { cls :=.type "list",data :=.seq its.toArray n }
 | .tup xs=>xs.length<=BJ/\∃its:List Bh,Vals xs its/\cN h a its.toArray
 | .dK kvs=>kvs.length<=BJ/\(a == sysModules)=false/\∃vs,KV kvs vs/\h.DictOf (bD P w) a vs
 | .dT kvs=>kvs.length<=BJ/\(a == sysModules)=false/\∃xs:List (List Key×Addr×Bh),
   Paired (λ(p:List Key×V) (q:List Key×Addr×Bh)=>p.1=q.1/\H q.2.1=some (.tup (p.1.map kV))/\RelV p.2 q.2.2) kvs xs ∧
   ∃o es ep,h.get? a=some o/\o.ExactDict/\o.data = .dict es ep/\es.toList=xs.map (entryOfKey (tupleKind (bD P w)))/\(xs.map (·.1)).Nodup
 | .set S n=>h.SetOf (intKind P w) a S n
 | .ins C dx fs=>H dx=some (.own a)/\fs.length<=1000/\dx≠a/\h.get? a=some (PySem.W.instObj C dx) ∧
   ∃mA,h.Ns1 dx mA/\(∀f,jq (fs.lookup f) (mA f))/\PySem.Within mA (fs.map (·.1))
 | .own _=>∃o,h.get? a=some o
 | .xd fs=>∃mA,h.Ns1 a mA/\∀f,jq (fs.lookup f) (mA f)
 | .rng lo hi=>∃t u v,h.get? a=some { cls :=.type "range",data :=.fields #[.int lo t,.int hi u,.int 1 v] }
 | .frz o u=>h.get? a=some o/\ba H h a u
 | .tbl ps=>∃rows:Array Bh,h.get? a=some { cls :=.none,data :=.fields rows }/\TriplesOk rows.toList/\(∀pos v,codeAmong pos rows.toList=some v->∃c q,v = .ref c/\H c=some (.own a)/\h.CodeRec (.ref c) q/\qAt ps pos q)/\∀pos c,cAt ps pos c->codeAmong pos rows.toList=some (.ref c)
 | .met f x=>h.get? a=some (PySem.W.methodObj (.ref f) (.ref x))
 | .ext φ=>φ h/\(∃o,h.get? a=some o)/\∀h1 h2:Heap, φ h1->(∀o,h1.get? a=some o->h2.get? a=some o) -> φ h2
def HOk (H:Hp)(h:Heap):Prop:=∀a o,H a=some o->ba P w H h a o
end
section
variable  {P:BD}{w:Cb}{H H':Hp}{h h':Heap}{a:Addr}{o:HO}
theorem ba.lt (x:ba P w H h a o):a<h.objs.size:=by
 cases o with
 | lst xs=>obtain ⟨_,_,_,_,e⟩:=x;exact Bq e
 | tup xs=>obtain ⟨_,_,_,p⟩:=x;exact (cN.tup p).lt
 | dK kvs=>obtain ⟨_,_,_,_,o,_,_,e,_⟩:=x;exact Bq e
 | dT kvs=>obtain ⟨_,_,_,_,o,_,_,e,_⟩:=x;exact Bq e
 | set S n=>obtain ⟨o,_,_,_,e,_⟩:=x;exact Bq e
 | ins C dx fs=>obtain ⟨_,_,_,e,_⟩:=x;exact Bq e
 | own y=>obtain ⟨_,e⟩:=x;exact Bq e
 | xd fs=>obtain ⟨_,⟨_,_,_,e,_⟩,_⟩:=x;exact Bq e
 | rng lo hi=>obtain ⟨_,_,_,e⟩:=x;exact Bq e
 | frz ob u=>obtain ⟨e,_⟩:=x;exact Bq e
 | tbl ps=>obtain ⟨_,e,_⟩:=x;exact Bq e
 | met f y=>exact Bq (show h.get? a=some _ from x)
 | ext φ=>obtain ⟨_,⟨_,e⟩,_⟩:=x;exact Bq e
theorem Paired.zh {α β:Type}{F G:α -> β -> Prop}:∀{l₁:List α} {l₂:List β},Paired F l₁ l₂->(∀a b,F a b->G a b)->Paired G l₁ l₂
 | _,_,.nil,_ =>.nil
 | _,_,.cons r t,f =>.cons (f _ _ r) (Paired.zh t f)
theorem ba.jL (x:ba P w H h a o)(k:∀b u,(b=a\/H b=some (.own a))->h.get? b=some u->h'.get? b=some u)
  (ho:∀b,H b=some (.own a)->H' b=some (.own a)) (ht:∀b xs,H b=some (.tup xs)->H' b=some (.tup xs)):ba P w H' h' a o:=by
 induction o with
 | lst xs=>obtain ⟨z,its,n,r,e⟩:=x;exact ⟨z,its,n,r,k _ _ (.inl rfl) e⟩
 | tup xs=>obtain ⟨z,its,r,ob,e,c⟩:=x;exact ⟨z,its,r,ob,k _ _ (.inl rfl) e,c⟩
 | dK kvs=>obtain ⟨z,y,vs,r,ob,es,ep,e,c⟩:=x;exact ⟨z,y,vs,r,ob,es,ep,k _ _ (.inl rfl) e,c⟩
 | dT kvs =>
  obtain ⟨z,y,xs,r,ob,es,ep,e,c⟩:=x
  exact ⟨z,y,xs,Paired.zh r λp q z=>⟨z.1,ht _ _ z.2.1,z.2.2⟩,ob,es,ep,k _ _ (.inl rfl) e,c⟩
 | set S n=>obtain ⟨ob,es,ep,t,e,c⟩:=x;exact ⟨ob,es,ep,t,k _ _ (.inl rfl) e,c⟩
 | ins C dx fs =>
  obtain ⟨d,z,ne,e,mA,⟨od,es,ep,e2,c⟩,r⟩:=x
  exact ⟨ho _ d,z,ne,k _ _ (.inl rfl) e,mA,⟨od,es,ep,k _ _ (.inr d) e2,c⟩,r⟩
 | own y=>obtain ⟨ob,e⟩:=x;exact ⟨ob,k _ _ (.inl rfl) e⟩
 | xd fs=>obtain ⟨mA,⟨od,es,ep,e,c⟩,r⟩:=x;exact ⟨mA,⟨od,es,ep,k _ _ (.inl rfl) e,c⟩,r⟩
 | rng lo hi=>obtain ⟨t,u,v,e⟩:=x;exact ⟨t,u,v,k _ _ (.inl rfl) e⟩
 | frz ob u ih=>obtain ⟨e,q⟩:=x;exact ⟨k _ _ (.inl rfl) e,ih q⟩
 | tbl ps =>
  obtain ⟨rows,e,t,rr,rc⟩:=x
  refine ⟨rows,k a _ (.inl rfl) e,t,λpos v hv =>?_,rc⟩
  obtain ⟨c,q,ev,hc,⟨c2,oc,vs,tq,e1,e2,e3⟩,z⟩:=rr pos v hv
  cases e1
  exact ⟨c,q,ev,ho c hc,⟨c,oc,vs,tq,rfl,k c _ (.inr hc) e2,e3⟩,z⟩
 | met f y =>
  have e:h.get? a=some (PySem.W.methodObj (.ref f) (.ref y)):=x
  show h'.get? a=some (PySem.W.methodObj (.ref f) (.ref y))
  exact k a _ (.inl rfl) e
 | ext φ=>obtain ⟨p,⟨o,e⟩,st⟩:=x;exact ⟨st _ _ p λo q=>k _ _ (.inl rfl) q,⟨o,k _ _ (.inl rfl) e⟩,st⟩
theorem HOk.lt (x:HOk P w H h)(e:H a=some o):a<h.objs.size:=(x a o e).lt
theorem HOk.fresh (x:HOk P w H h)(e:h.objs.size<=a):H a=none:=by
 cases q:H a with
 | none=>rfl
 | some u=>exact absurd (BE (x.lt q) e) (CN _)
theorem HOk.kept (x:HOk P w H h)(k:∀b u,h.get? b=some u->h'.get? b=some u):HOk P w H h':=λa o e =>
 (x a o e).jL (λb u _ q=>k b u q) (λ_ q=>q) λ_ _ q=>q
theorem HOk.laid (x:HOk P w H h)(k:∀b u,h.get? b=some u->h'.get? b=some u)(hp:h.objs.size<=a)(new:ba P w (upd H a o) h' a o):HOk P w (upd H a o) h':=λb u e=>by
 have hn:=x.fresh hp
 by_cases hb:b=a
 ·subst hb;rw[af] at e;cases e;exact new
 ·rw[ao hb] at e
  exact (x b u e).jL (λc v _ q=>k c v q) (λc q=>by rw[ao (aA q hn)];exact q) λc xs q=>by rw[ao (aA q hn)];exact q
end
def Rd (H:Hp)(a:Addr)(u:HO):Prop:=H a=some u\/∃o,H a=some (.frz o u)
theorem Rd.ok {P:BD}{w:Cb}{H:Hp}{h:Heap}{a:Addr}{u:HO}(r:Rd H a u)(x:HOk P w H h):ba P w H h a u:=by
 rcases r with r | ⟨o,r⟩
 ·exact x a u r
 ·obtain ⟨_,q⟩:=x a _ r
  exact q
def Mut:Option HO->Prop
 | some (.lst _)=>True
 | some (.dK _)=>True
 | some (.dT _)=>True
 | some (.set _ _)=>True
 | some (.ins _ _ _)=>True
 | some (.ext _)=>True
 | _=>False
section
variable  {P:BD}{w:Cb}{H:Hp}{h h':Heap}{x e:Addr}{o':HO}
theorem HOk.write (ok:HOk P w H h)(mu:Mut (H x))(he:e=x\/H e=some (.own x))(k:∀b u,b≠e->h.get? b=some u->h'.get? b=some u)(heo:∃u,h'.get? e=some u)
  (new:ba P w (upd H x o') h' x o'):HOk P w (upd H x o') h':=λb u q=>by
 have nown:∀c y,H c=some (.own y)->c≠x:=λc y r z=>by subst z;rw[r] at mu;exact mu
 have ntup:∀c xs,H c=some (.tup xs)->c≠x:=λc xs r z=>by subst z;rw[r] at mu;exact mu
 by_cases hb:b=x
 ·subst hb;rw[af] at q;cases q;exact new
 ·rw[ao hb] at q
  by_cases hbe:b=e
  ·have q':H b=some (.own x):=by
    rcases he with z | z
    ·exact absurd (hbe.trans z) hb
    ·rw[hbe];exact z
   rw[q] at q';cases q'
   obtain ⟨v,hv⟩:=heo
   exact ⟨v,by rw[hbe];exact hv⟩
  ·refine (ok b u q).jL (λc v hc r=>k c v ?_ r) (λc r=>by rw[ao (nown c b r)];exact r) λc xs r=>by rw[ao (ntup c xs r)];exact r
   rcases hc with rfl | hc
   ·exact hbe
   ·rintro rfl
    rcases he with z | z
    ·exact nown c b hc z
    ·rw[hc] at z;cases z;exact hb rfl
end
structure Un (fs ex:List Addr)(H H':Hp)(h h':Heap):Prop where
 keep:∀b o,h.get? b=some o->H b=none->b∉fs->b∉ex->h'.get? b=some o
 slot:∀b o,h.get? b=some o->H b=none->b∈fs->b∉ex->∃sl,h'.get? b=some { o with slots:=sl }
 free:∀b o,h.get? b=some o->H b=none->b∉ex->H' b=none
 there:∀b o,h.get? b=some o->b∉ex->∃o',h'.get? b=some o'
 tups:∀b xs,H b=some (.tup xs)->H' b=some (.tup xs)
 frzs:∀b o u,H b=some (.frz o u)->H' b=some (.frz o u)
 tbls:∀b ps,H b=some (.tbl ps)->∃more,H' b=some (.tbl (ps++more))
section
variable  {fs fs' ex ex':List Addr}{H H1 H2:Hp}{h h1 h2 h':Heap}{a x e:Addr}{o:HO}
theorem Un.any (u:Un fs ex H H1 h h1){b:Addr}{ob:Obj}(q:h.get? b=some ob)(n:H b=none)(hx:b∉ex):∃sl,h1.get? b=some { ob with slots:=sl }:=by
 by_cases hb:b∈fs
 ·exact u.slot b ob q n hb hx
 ·exact ⟨ob.slots,u.keep b ob q n hb hx⟩
theorem Un.kept (k:∀b u,h.get? b=some u->h'.get? b=some u):Un fs ex H H h h' :=
 ⟨λb ob q _ _ _=>k b ob q,λb ob q _ _ _=>⟨ob.slots,k b ob q⟩,λ_ _ _ n _=>n,λb ob q _=>⟨ob,k b ob q⟩,λ_ _ q=>q,λ_ _ _ q=>q,λ_ ps q=>⟨#[],by rw[q];simp⟩⟩
theorem Un.refl:Un fs ex H H h h:=Un.kept λ_ _ q=>q
theorem Un.laid (k:∀b u,h.get? b=some u->h'.get? b=some u)(hp:h.objs.size<=a)(hn:H a=none):Un fs ex H (upd H a o) h h' where
 keep:=λb u q _ _ _=>k b u q
 slot:=λb u q _ _ _=>⟨u.slots,k b u q⟩
 free:=λb u q n _=>by rw[ao (BI (BE (Bq q) hp))];exact n
 there:=λb u q _=>⟨u,k b u q⟩
 tups:=λb xs q=>by rw[ao (aA q hn)];exact q
 frzs:=λb u xs q=>by rw[ao (aA q hn)];exact q
 tbls:=λb ps q=>⟨#[],by rw[ao (aA q hn),q];simp⟩
theorem Un.write (mu:Mut (H x))(he:e=x\/H e=some (.own x))(k:∀b u,b≠e->h.get? b=some u->h'.get? b=some u)(heo:∃u,h'.get? e=some u):Un fs ex H (upd H x o) h h':=by
 have hx:∀b,H b=none->b≠x:=λb n z=>by subst z;rw[n] at mu;exact mu
 have hb:∀b,H b=none->b≠e:=λb n z=>by
  subst z
  rcases he with r | r
  ·exact hx b n r
  ·rw[n] at r;cases r
 have hm:∀b u,H b=some u->¬ Mut (some u)->b≠x:=λb u q nm z=>by subst z;rw[q] at mu;exact nm mu
 refine ⟨λb u q n _ _=>k b u (hb b n) q,λb u q n _ _=>⟨u.slots,k b u (hb b n) q⟩,λb u q n _=>by rw[ao (hx b n)];exact n,λb u q _ =>?_,
  λb xs q=>by rw[ao (hm b _ q λz=>z)];exact q,λb u xs q=>by rw[ao (hm b _ q λz=>z)];exact q,λb ps q=>⟨#[],by rw[ao (hm b _ q λz=>z),q];simp⟩⟩
 by_cases hbe:b=e
 ·subst hbe;exact heo
 ·exact ⟨u,k b u hbe q⟩
end
def trk (h:Heap)(H:Hp):List Addr:=(Cc h.objs.size).filter λa=>(H a).isSome
def mW (h:Heap)(H:Hp):Heap:=PySem.W.hideAll h (trk h H)
theorem t8 (h:Heap)(H:Hp):(mW h H).objs.size=h.objs.size:=PySem.W.hideAll_size _ _
theorem vn {h:Heap}{H:Hp}{b:Addr}{o:Obj}(e:h.get? b=some o)(n:H b=none):(mW h H).get? b=some o :=
 PySem.W.hideAll_get _ e λhm=>by
  have q:(H b).isSome=true:=(BX.mp hm).2
  rw[n] at q;simp at q
theorem xx {h:Heap}{H:Hp}{b:Addr}{o:Obj}(e:(mW h H).get? b=some o):h.get? b=some o/\H b=none:=by
 have e':h.get? b=some o:=PySem.W.of_hideAll (trk h H) e
 refine ⟨e',?_⟩
 cases q:H b with
 | none=>rfl
 | some x =>
  have hm:b∈trk h H:=BX.mpr ⟨Cu.mpr (Bq e'),by simp[q]⟩
  have z:(mW h H).get? b=none:=PySem.W.hideAll_none (trk h H) hm
  rw[z] at e;cases e
def xy (g h:Heap)(L:Addr):List (Addr×Obj):=(Cc h.objs.size).filterMap λa=>if a=L\/(g.get? a).isSome=true then none else (h.get? a).map λo=>(a,o)
def rest (g h:Heap)(L d:Addr):List (Addr×Obj):=(xy g h L).filter λp=>decide (p.1≠d)
open PySem PySem.Spec PyProof.Rows
structure Mod (K:Be)(mg:Str->Option Bh)(base:Heap):Prop where
 kin:K.In base
 glob:base.Ns Cg mg
 blt:∃mb,base.Ns builtinsNs mb/\∀x:Str,x ≠ "__name__" -> mb x=CM x
 nolimit:base.NoLimit
 bmod:∃bm ob,mg "__builtins__" = some (.ref bm)/\bm≠builtinsNs/\base.get? bm=some ob/\ob.cls = .type "module" /\ ob.dict=some builtinsNs/\ob.data = .plain
structure Cx where
 prog:BD
 w:Cb
 K:Be
 mg:Str->Option Bh
 base:Heap
 A:B9
 N:List Str
 s₀:Bi
 H₀:Hp
 env:Env
 outer:List Env
 stack:List Env
 ex:List Addr
 fn:Str->Bool
 calm:Bool
 pn:List (Addr×Obj)
 xe:Bh->Bi->Prop
def frs (l:List Env):List Addr:=l.filterMap (·.frame)
abbrev Cx.fs (X:Cx):List Addr:=frs X.outer
def Vis (sc:Scope)(x:Str):Prop:=sc.names.lookup x=some .local\/sc.names.lookup x=some .cell\/sc.names.lookup x=some .free
def Loc (sc:Scope)(x:Str):Prop:=sc.names.lookup x=some .local\/sc.names.lookup x=some .cell
def Look (env:Env)(h:Heap)(m:Str->Option Bh)(x:Str)(u:Bh):Prop :=
 (env.kindOf x=some .local/\m x=some u)\/((env.kindOf x=some .cell\/env.kindOf x=some .free)/\∃c,env.cells.lookup x=some c/\h.IsCell c (some u))
structure Cx.Ok (X:Cx):Prop where
 mod:Mod X.K X.mg X.base
 kind:X.env.scope.kind = .function
 glob:X.env.globals=Cg
 blt:X.env.builtins=builtinsNs
 above:X.s₀.heap.objs.size<=X.env.locals
 inj:∀x y c,X.env.cells.lookup x=some c->X.env.cells.lookup y=some c->x=y
 has:∀x,(X.env.kindOf x=some .cell\/X.env.kindOf x=some .free)->∃c,X.env.cells.lookup x=some c
 cab:∀x c,X.fn x=true->X.env.cells.lookup x=some c->X.s₀.heap.objs.size<=c
 hd:X.calm=true->X.A.handled=none
 frames:X.A.frames=some X.stack
 stk:X.stack=X.outer\/(X.stack=X.env :: X.outer/\X.env.frame=some X.env.locals)
 exf:∀b∈X.ex,b≠X.env.locals/\∀x c,X.env.cells.lookup x=some c->c≠b
 bs:∀b o,X.base.get? b=some o->X.s₀.heap.get? b=some o/\X.H₀ b=none
 bsz:X.base.objs.size<=X.s₀.heap.objs.size
 noex:∀b o,X.base.get? b=some o->b∉X.ex
 exfs:∀b∈X.ex,b∉X.fs
 funs:X.s₀.heap.FunFrames X.base X.outer
 frf:∀b∈X.fs,X.H₀ b=none
structure Inv (X:Cx)(pins:List (Addr×Obj))(σ:List (Option V))(H:Hp)(s:Bi):Prop where
 ok:X.Ok
 os:s.os=X.s₀.os
 bare:AllBare s.gens
 base:Un X.fs X.ex X.H₀ H X.s₀.heap s.heap
 loc:∃m,s.heap.Ns X.env.locals m/\∀(i:Nat) (x:Str) (v:V),X.N[i]? = some x->σ[i]? = some (some v)->Vis X.env.scope x->∃u,RelV v u/\Look X.env s.heap m x u
 cell:∀x c,X.env.cells.lookup x=some c->∃v,s.heap.IsCell c v
 free:H X.env.locals=none
 freeC:∀x c,X.env.cells.lookup x=some c->H c=none
 pin:∀p∈X.pn++pins,s.heap.get? p.1=some p.2/\H p.1=none/\p.1≠X.env.locals/\p.1∉X.fs/\∀v,p.2.data ≠ .cell v
 hok:HOk X.prog X.w H s.heap
 len:σ.length=X.N.length
section
variable  {X:Cx}{pins:List (Addr×Obj)}{σ:List (Option V)}{H H':Hp}{s:Bi}{h':Heap}
theorem Cx.Ok.nofr (ok:X.Ok){b:Addr}{o:Obj}(e:X.base.get? b=some o):b∉X.fs:=λhb=>by
 have:=(ok.funs.mem hb).1
 rw[e] at this;cases this
theorem Inv.bs (I:Inv X pins σ H s):∀b o,X.base.get? b=some o->s.heap.get? b=some o/\H b=none:=λb o e =>
 ⟨I.base.keep b o (I.ok.bs b o e).1 (I.ok.bs b o e).2 (I.ok.nofr e) (I.ok.noex b o e),I.base.free b o (I.ok.bs b o e).1 (I.ok.bs b o e).2 (I.ok.noex b o e)⟩
theorem Inv.bk (I:Inv X pins σ H s):∀b o,X.base.get? b=some o->s.heap.get? b=some o:=λb o e=>(I.bs b o e).1
theorem Inv.mod (I:Inv X pins σ H s):Mod X.K X.mg X.base:=I.ok.mod
theorem Inv.kIn (I:Inv X pins σ H s):X.K.In s.heap:=I.ok.mod.kin.keeps I.bk
theorem Inv.nolimit (I:Inv X pins σ H s):s.heap.NoLimit:=I.ok.mod.nolimit.keeps I.bk
theorem Inv.lt (I:Inv X pins σ H s):X.env.locals<s.heap.objs.size:=let ⟨_,hn,_⟩:=I.loc;hn.lt
theorem Inv.sz (I:Inv X pins σ H s):X.s₀.heap.objs.size<=s.heap.objs.size:=BS I.ok.above (Fo I.lt)
theorem Inv.xA (I:Inv X pins σ H s){a:Addr}(h:s.heap.objs.size<=a):a∉X.fs:=λhb=>by
 obtain ⟨_,o,ho,_⟩:=I.ok.funs.mem hb
 exact absurd (BE (Bq ho) (BS I.sz h)) (CN _)
theorem Inv.cne (I:Inv X pins σ H s):∀x c,X.env.cells.lookup x=some c->c≠X.env.locals:=λx c e z=>by
 obtain ⟨v,o,ho,hd⟩:=I.cell x c e
 obtain ⟨m,⟨o',es,ep,ho',hd',_⟩,_⟩:=I.loc
 rw[z,ho'] at ho;cases ho;rw[hd'] at hd;cases hd
theorem Inv.funs (I:Inv X pins σ H s):s.heap.FunFrames X.base X.outer:=by
 have all:∀(l:List Env),(∀b∈frs l,b∈X.fs)->X.s₀.heap.FunFrames X.base l->s.heap.FunFrames X.base l:=by
  intro l
  induction l with
  | nil=>intro _ _;trivial
  | cons env r ih =>
   intro hs hl
   obtain ⟨hk,⟨L,o,hf,hn,ho,hd⟩,hr⟩:=hl
   have hL:L∈X.fs:=hs L (by unfold frs;rw[Ey,hf];exact Br)
   obtain ⟨sl,e⟩:=I.base.slot L o ho (I.ok.frf L hL) hL λz=>I.ok.exfs L z hL
   exact ⟨hk,⟨L,_,hf,hn,e,hd⟩,ih (λb hb=>hs b (by unfold frs;rw[Ey,hf];exact BG _ hb)) hr⟩
 exact all X.outer (λ_ hb=>hb) I.ok.funs
theorem Inv.stack (I:Inv X pins σ H s):s.heap.FunFrames X.base X.stack:=by
 rcases I.ok.stk with e | ⟨e,hf⟩
 ·rw[e];exact I.funs
 ·rw[e]
  obtain ⟨m,hn,_⟩:=I.loc
  refine .cons (by rw[I.ok.kind];decide) hf hn ?_ I.funs
  exact Heap.get?_none_of_le (BS I.ok.bsz I.ok.above)
theorem Inv.mX (I:Inv X pins σ H s):∀b∈frs X.stack,b∈X.env.locals :: X.fs:=λb hb=>by
 rcases I.ok.stk with e | ⟨e,hf⟩
 ·rw[e] at hb;exact BG _ hb
 ·rw[e] at hb
  unfold frs at hb
  rw[Ey,hf] at hb
  exact hb
theorem Inv.mY (I:Inv X pins σ H s):∀b∈frs X.stack,H b=none:=λb hb=>by
 rcases BR.mp (I.mX b hb) with e | hb
 ·rw[e];exact I.free
 ·obtain ⟨_,o,ho,_⟩:=I.ok.funs.mem hb
  exact I.base.free b o ho (I.ok.frf b hb) λz=>I.ok.exfs b z hb
theorem Inv.step {g':Array GenState}{t':Nat}{d':Drawn}{ch:List Addr}(I:Inv X pins σ H s)
  (hch:∀b∈ch,(b∈X.ex\/X.s₀.heap.objs.size<=b)/\b≠X.env.locals/\(∀x c,X.env.cells.lookup x=some c->c≠b)/\∀p∈X.pn++pins,p.1≠b)
  (keep:∀b o,b≠X.env.locals->b∉X.fs->b∉ch->s.heap.get? b=some o->H b=none->h'.get? b=some o)
  (slot:∀b o,b≠X.env.locals->b∈X.fs->b∉ch->s.heap.get? b=some o->H b=none->∃sl,h'.get? b=some { o with slots:=sl }) (free:∀b o,b∉ch->s.heap.get? b=some o->H b=none->H' b=none)
  (there:∀b o,b∉ch->s.heap.get? b=some o->∃o',h'.get? b=some o')
  (tups:∀b xs,H b=some (.tup xs)->H' b=some (.tup xs)) (frzs:∀b o u,H b=some (.frz o u)->H' b=some (.frz o u)) (tbls:∀b ps,H b=some (.tbl ps)->∃more,H' b=some (.tbl (ps++more)))
  (ns:∀m,s.heap.Ns X.env.locals m->h'.Ns X.env.locals m) (hok:HOk X.prog X.w H' h') (hg:AllBare g') :
  Inv X pins σ H' { s with heap:=h',gens:=g',drawn:=d',toks:=t' }:=by
 have neL:∀b o,X.s₀.heap.get? b=some o->b≠X.env.locals:=λb o e=>BI (BE (Bq e) I.ok.above)
 have neC:∀b o,X.s₀.heap.get? b=some o->b∉X.ex->b∉ch:=λb o e hx hb=>by
  rcases (hch b hb).1 with z | z
  ·exact hx z
  ·exact absurd (BE (Bq e) z) (CN _)
 have cellK:∀x c,X.env.cells.lookup x=some c->∀v,s.heap.IsCell c v->h'.IsCell c v:=λx c e v ⟨o,ho,hd⟩=>by
  have nch:c∉ch:=λz=>(hch c z).2.2.1 x c e rfl
  by_cases hc:c∈X.fs
  ·obtain ⟨sl,q⟩:=slot c o (I.cne x c e) hc nch ho (I.freeC x c e)
   exact ⟨_,q,hd⟩
  ·exact ⟨o,keep c o (I.cne x c e) hc nch ho (I.freeC x c e),hd⟩
 refine ⟨I.ok,I.os,hg,⟨λb o e n hb hx =>?_,λb o e n hb hx =>?_,λb o e n hx =>?_,λb o e hx =>?_,λb xs e=>tups b xs (I.base.tups b xs e),λb o xs e=>frzs b o xs (I.base.frzs b o xs e),λb ps e =>?_⟩,?_,λx c e =>?_,?_,λx c e =>?_,λp hp =>?_,hok,I.len⟩
 ·exact keep b o (neL b o e) hb (neC b o e hx) (I.base.keep b o e n hb hx) (I.base.free b o e n hx)
 ·obtain ⟨sl,e1⟩:=I.base.slot b o e n hb hx
  obtain ⟨sl',e2⟩:=slot b _ (neL b o e) hb (neC b o e hx) e1 (I.base.free b o e n hx)
  exact ⟨sl',e2⟩
 ·obtain ⟨o',e1⟩:=I.base.there b o e hx
  exact free b o' (neC b o e hx) e1 (I.base.free b o e n hx)
 ·obtain ⟨o',e1⟩:=I.base.there b o e hx
  exact there b o' (neC b o e hx) e1
 ·obtain ⟨m1,e1⟩:=I.base.tbls b ps e
  obtain ⟨m2,e2⟩:=tbls b _ e1
  exact ⟨m1++m2,by rw[e2,Array.append_assoc]⟩
 ·obtain ⟨m,hn,hl⟩:=I.loc
  refine ⟨m,ns m hn,λi x v e1 e2 e3 =>?_⟩
  obtain ⟨u,r,l⟩:=hl i x v e1 e2 e3
  refine ⟨u,r,?_⟩
  rcases l with l | ⟨k,c,e,z⟩
  ·exact .inl l
  ·exact .inr ⟨k,c,e,cellK x c e _ z⟩
 ·obtain ⟨v,z⟩:=I.cell x c e
  exact ⟨v,cellK x c e v z⟩
 ·obtain ⟨m,⟨o,_,_,ho,_⟩,_⟩:=I.loc
  exact free _ o (λz=>(hch _ z).2.1 rfl) ho I.free
 ·obtain ⟨v,o,ho,hd⟩:=I.cell x c e
  exact free c o (λz=>(hch c z).2.2.1 x c e rfl) ho (I.freeC x c e)
 ·obtain ⟨e,n,ne,nf,d⟩:=I.pin p hp
  have nch:p.1∉ch:=λz=>(hch p.1 z).2.2.2 p hp rfl
  exact ⟨keep p.1 p.2 ne nf nch e n,free p.1 p.2 nch e n,ne,nf,d⟩
theorem Inv.un {t':Nat}(I:Inv X pins σ H s)(u:Un X.fs [] H H' s.heap h')(hok:HOk X.prog X.w H' h'):Inv X pins σ H' { s with heap:=h',toks:=t' }:=by
 obtain ⟨m,⟨o,es,ep,ho,r⟩,_⟩:=id I.loc
 obtain ⟨sl,hL⟩:=u.any ho I.free (by simp)
 exact I.step (g':=s.gens) (d':=s.drawn) (ch:=[]) (λ_ z=>nomatch z) (λb o _ hb _ e n=>u.keep b o e n hb (by simp)) (λb o _ hb _ e n=>u.slot b o e n hb (by simp)) (λb o _ e n=>u.free b o e n (by simp)) (λb o _ e=>u.there b o e (by simp)) u.tups u.frzs u.tbls (λm' hm=>by
  obtain ⟨o',es',ep',ho',r'⟩:=hm
  rw[ho] at ho';cases ho'
  exact ⟨_,es',ep',hL,r'⟩) hok I.bare
theorem Inv.call {g':Array GenState}{t':Nat}{d':Drawn}{ch:List Addr}(I:Inv X pins σ H s)(u:Un (frs X.stack) ch H H' s.heap h')(hok:HOk X.prog X.w H' h')(hg:AllBare g')
  (hch:∀b∈ch,(b∈X.ex\/X.s₀.heap.objs.size<=b)/\b≠X.env.locals/\(∀x c,X.env.cells.lookup x=some c->c≠b)/\∀p∈X.pn++pins,p.1≠b) :
  Inv X pins σ H' { s with heap:=h',gens:=g',drawn:=d',toks:=t' }:=by
 obtain ⟨m,⟨o,es,ep,ho,r⟩,_⟩:=id I.loc
 obtain ⟨sl,hL⟩:=u.any ho I.free λz=>(hch _ z).2.1 rfl
 exact I.step (ch:=ch) hch (λb o hL hb hc e n=>u.keep b o e n (λz=>(BR.mp (I.mX b z)).elim hL hb) hc) (λb o _ _ hc e n=>u.any e n hc) (λb o hc e n=>u.free b o e n hc) (λb o hc e=>u.there b o e hc) u.tups u.frzs u.tbls (λm' hm=>by
  obtain ⟨o',es',ep',ho',r'⟩:=hm
  rw[ho] at ho';cases ho'
  exact ⟨_,es',ep',hL,r'⟩) hok hg
theorem Inv.turned {t':Nat}{it:Addr}(I:Inv X pins σ H s)(k:∀b o,b≠it->s.heap.get? b=some o->h'.get? b=some o)(hn:H it=none)(hL:it≠X.env.locals)
  (h1:it∈X.ex\/X.s₀.heap.objs.size<=it) (h2:∀x c,X.env.cells.lookup x=some c->c≠it) (h3:∀p∈X.pn++pins,p.1≠it):Inv X pins σ H { s with heap:=h',toks:=t' }:=by
 have nit:∀b u,H b=some u->b≠it:=λb u e z=>by rw[z,hn] at e;cases e
 refine I.step (g':=s.gens) (d':=s.drawn) (ch:=[it]) (λb hb =>?_) (λb o _ _ hc e _=>k b o (λz=>hc (by simp[z])) e) (λb o _ _ hc e _=>⟨o.slots,k b o (λz=>hc (by simp[z])) e⟩) (λ_ _ _ _ n=>n)
  (λb o hc e=>⟨o,k b o (λz=>hc (by simp[z])) e⟩) (λ_ _ e=>e) (λ_ _ _ e=>e) (λb ps e=>⟨#[],by rw[e];simp⟩) (λm hm =>?_) (λb u e =>?_) I.bare
 ·have e:b=it:=by simpa using hb
  subst e
  exact ⟨h1,hL,h2,h3⟩
 ·obtain ⟨o,es,ep,ho,r⟩:=hm
  exact ⟨o,es,ep,k _ o (C6 hL) ho,r⟩
 ·refine (I.hok b u e).jL (λc v hc q=>k c v ?_ q) (λ_ q=>q) λ_ _ q=>q
  rcases hc with z | z
  ·rw[z];exact nit b u e
  ·exact nit c _ z
theorem Inv.tok (I:Inv X pins σ H s)(t:Nat):Inv X pins σ H { s with toks:=t }:=I.un (h':=s.heap) (t':=t) Un.refl I.hok
theorem Inv.kept {t':Nat}(I:Inv X pins σ H s)(k:∀b u,s.heap.get? b=some u->h'.get? b=some u):Inv X pins σ H { s with heap:=h',toks:=t' }:=I.un (Un.kept k) (I.hok.kept k)
theorem Inv.laid {a:Addr}{o:HO}{t':Nat}(I:Inv X pins σ H s)(k:∀b u,s.heap.get? b=some u->h'.get? b=some u)(hp:s.heap.objs.size<=a)(new:ba X.prog X.w (upd H a o) h' a o) :
  Inv X pins σ (upd H a o) { s with heap:=h',toks:=t' }:=I.un (Un.laid k hp (I.hok.fresh hp)) (I.hok.laid k hp new)
theorem Inv.write {x e:Addr}{o:HO}{t':Nat}(I:Inv X pins σ H s)(mu:Mut (H x))(he:e=x\/H e=some (.own x))(k:∀b u,b≠e->s.heap.get? b=some u->h'.get? b=some u)(heo:∃u,h'.get? e=some u)
  (new:ba X.prog X.w (upd H x o) h' x o):Inv X pins σ (upd H x o) { s with heap:=h',toks:=t' }:=I.un (Un.write mu he k heo) (I.hok.write mu he k heo new)
theorem Inv.dW {pins':List (Addr×Obj)}(I:Inv X pins σ H s)(h:∀p∈pins',s.heap.get? p.1=some p.2/\H p.1=none/\p.1≠X.env.locals/\p.1∉X.fs/\∀v,p.2.data ≠ .cell v):Inv X pins' σ H s :=
 ⟨I.ok,I.os,I.bare,I.base,I.loc,I.cell,I.free,I.freeC,λp hp=>(BC.mp hp).elim (λz=>I.pin p (Eg _ z)) (h p),I.hok,I.len⟩
theorem ox {N:List Str}(hN:N.Nodup){i j:Nat}{x:Str}(a:N[i]? = some x)(b:N[j]? = some x):i=j:=by
 obtain ⟨h1,e1⟩:=Bt.mp a
 obtain ⟨h2,e2⟩:=Bt.mp b
 exact (List.getElem_inj hN).mp (e1.trans e2.symm)
theorem uc {M:Model}{A:B9}{E:Bh->Bi->Prop}{i:Nat}{x:Str}{v:V}{u:Bh}{Q:Unit->Bi->Prop}(I:Inv X pins σ H s)(hN:X.N.Nodup)(hi:X.N[i]? = some x)(hx:Loc X.env.scope x)(r:RelV v u)
  (h:∀s',Inv X pins (σ.set i (some v)) H s'->(∃a,Heap.SameBut a s.heap s'.heap/\(a=X.env.locals\/X.env.cells.lookup x=some a))->Q () s') (hf:X.fn x=true\/X.env.scope.names.lookup x=some .local:=by first | exact .inl rfl | exact .inr rfl | assumption):BL M A (storeName X.env x u) Q E s:=by
 obtain ⟨m,hn,hl⟩:=id I.loc
 have hcls:(X.env.scope.kind == .class || (X.env.scope.kind == .module && X.env.locals != X.env.globals))=false:=by rw[I.ok.kind];rfl
 have hiσ:i<σ.length:=by rw[I.len];exact (Bt.mp hi).1
 have cne:=I.cne
 have tracked:∀{a:Addr} {h':Heap},(∃o,s.heap.get? a=some o/\H a=none)->Heap.SameBut a s.heap h'->HOk X.prog X.w H h':=λ{a h'} ha hs b ob e=>by
  obtain ⟨_,_,hfree⟩:=ha
  refine (I.hok b ob e).jL (λc w' hc q=>(hs.2 c ?_).trans q) (λ_ q=>q) λ_ _ q=>q
  rintro rfl
  rcases hc with rfl | hc
  ·rw[hfree] at e;cases e
  ·rw[hfree] at hc;cases hc
 rcases hx with hk | hk
 ·refine wpAny_storeName_local hk hn (λh' hn' hs =>?_) hcls
  obtain ⟨oL,_,_,hoL,_⟩:=id hn
  refine h _ ⟨I.ok,I.os,I.bare,⟨λb o e n hb hx =>?_,λb o e n hb hx =>?_,I.base.free,λb o e hx =>?_,I.base.tups,I.base.frzs,I.base.tbls⟩,⟨_,hn',λj y v' e1 e2 e3 =>?_⟩,λy c e =>?_,I.free,I.freeC,λp hp =>?_,tracked ⟨oL,hoL,I.free⟩ hs,by simpa using I.len⟩ ⟨_,hs,.inl rfl⟩
  ·exact (hs.2 b (BI (BE (Bq e) I.ok.above))).trans (I.base.keep b o e n hb hx)
  ·obtain ⟨sl,e1⟩:=I.base.slot b o e n hb hx
   exact ⟨sl,(hs.2 b (BI (BE (Bq e) I.ok.above))).trans e1⟩
  ·obtain ⟨o',e1⟩:=I.base.there b o e hx
   exact ⟨o',(hs.2 b (BI (BE (Bq e) I.ok.above))).trans e1⟩
  ·by_cases hj:j=i
   ·subst hj
    rw[hi] at e1;cases e1
    rw[EL hiσ] at e2
    cases e2
    exact ⟨u,r,.inl ⟨hk,by simp⟩⟩
   ·rw[F9 (C6 hj)] at e2
    obtain ⟨u',r',q⟩:=hl j y v' e1 e2 e3
    refine ⟨u',r',?_⟩
    rcases q with ⟨k,e⟩ | ⟨k,c,e,z⟩
    ·refine .inl ⟨k,?_⟩
     have:y≠x:=λe=>hj (ox hN e1 (e ▸ hi))
     simp[this,e]
    ·exact .inr ⟨k,c,e,z.sameBut hs (cne y c e)⟩
  ·obtain ⟨w',z⟩:=I.cell y c e
   exact ⟨w',z.sameBut hs (cne y c e)⟩
  ·obtain ⟨e,n,ne,nf,d⟩:=I.pin p hp
   exact ⟨(hs.2 p.1 ne).trans e,n,ne,nf,d⟩
 ·have hfn:X.fn x=true:=by
   rcases hf with z | z
   ·exact z
   ·rw[z] at hk;cases hk
  obtain ⟨c,hc⟩:=I.ok.has x (.inl hk)
  obtain ⟨w',z⟩:=I.cell x c hc
  refine wpAny_storeName_cell I.ok.kind hk hc z (λh' hc' hs =>?_)
  obtain ⟨oc,hoc,hocd⟩:=id z
  refine h { s with heap:=h' } ⟨I.ok,I.os,I.bare,⟨λb o e n hb hx =>?_,λb o e n hb hx =>?_,I.base.free,λb o e hx =>?_,I.base.tups,I.base.frzs,I.base.tbls⟩,⟨m,hn.sameBut hs (C6 (cne x c hc)),λj y v' e1 e2 e3 =>?_⟩,λy c' e =>?_,I.free,I.freeC,λp hp =>?_,tracked ⟨oc,hoc,I.freeC x c hc⟩ hs,by simpa using I.len⟩ ⟨c,hs,.inr hc⟩
  ·exact (hs.2 b (BI (BE (Bq e) (I.ok.cab x c hfn hc)))).trans (I.base.keep b o e n hb hx)
  ·obtain ⟨sl,e1⟩:=I.base.slot b o e n hb hx
   exact ⟨sl,(hs.2 b (BI (BE (Bq e) (I.ok.cab x c hfn hc)))).trans e1⟩
  ·obtain ⟨o',e1⟩:=I.base.there b o e hx
   exact ⟨o',(hs.2 b (BI (BE (Bq e) (I.ok.cab x c hfn hc)))).trans e1⟩
  ·by_cases hj:j=i
   ·subst hj
    rw[hi] at e1;cases e1
    rw[EL hiσ] at e2
    cases e2
    exact ⟨u,r,.inr ⟨.inl hk,c,hc,hc'⟩⟩
   ·rw[F9 (C6 hj)] at e2
    obtain ⟨u',r',q⟩:=hl j y v' e1 e2 e3
    refine ⟨u',r',?_⟩
    rcases q with q | ⟨k,c',e,z'⟩
    ·exact .inl q
    ·refine .inr ⟨k,c',e,z'.sameBut hs ?_⟩
     rintro rfl
     exact hj (ox hN e1 (I.ok.inj _ _ _ e hc ▸ hi))
  ·by_cases hcc:c'=c
   ·subst hcc;exact ⟨_,hc'⟩
   ·obtain ⟨w2,z2⟩:=I.cell y c' e
    exact ⟨w2,z2.sameBut hs hcc⟩
  ·obtain ⟨e,n,ne,nf,d⟩:=I.pin p hp
   refine ⟨(hs.2 p.1 ?_).trans e,n,ne,nf,d⟩
   intro q
   rw[q,hoc] at e
   have q':oc=p.2:=BW e
   exact d w' (by rw[<- q'];exact hocd)
theorem oy {M:Model}{A:B9}{E:Bh->Bi->Prop}{i:Nat}{x:Str}{v:V}{u:Bh}{Q:Unit->Bi->Prop}(I:Inv X pins σ H s)(hN:X.N.Nodup)(hi:X.N[i]? = some x)(hx:Loc X.env.scope x)(r:RelV v u)
  (h:∀s',Inv X pins (σ.set i (some v)) H s'->Q () s') (hf:X.fn x=true\/X.env.scope.names.lookup x=some .local:=by first | exact .inl rfl | exact .inr rfl | assumption):BL M A (storeName X.env x u) Q E s :=
 uc I hN hi hx r (λs' I' _=>h s' I') hf
theorem Inv.yS {s':Bi}{ch:List Addr}(I:Inv X pins σ H s)(ho:s'.os=s.os)(u:Un (frs X.stack) ch H H' s.heap s'.heap)(hok:HOk X.prog X.w H' s'.heap)(hg:AllBare s'.gens)
  (hch:∀b∈ch,(b∈X.ex\/X.s₀.heap.objs.size<=b)/\b≠X.env.locals/\(∀x c,X.env.cells.lookup x=some c->c≠b)/\∀p∈X.pn++pins,p.1≠b):Inv X pins σ H' s':=by
 obtain ⟨h',g',d',t',o'⟩:=s'
 have e:o'=s.os:=ho
 subst e
 exact I.call (g':=g') (t':=t') (d':=d') u hok hg hch
end
abbrev XK:=Bh->Option Addr->Hp->Prop
abbrev St:=List (Option V)
abbrev VK:=V->Hp->Prop
abbrev TE:=St->Hp->VK->Prop
abbrev TT:=St->Hp->(Bool->Hp->Prop)->Prop
abbrev TA:=St->Hp->(List V->Hp->Prop)->Prop
structure Ends where
 nx:St->Hp->Prop
 rt:VK
 bk:St->Hp->Prop:=λ_ _=>False
 ct:St->Hp->Prop:=λ_ _=>False
abbrev TS:=Ends->St->Hp->Prop
def EP (X:Cx)(pins:List (Addr×Obj))(σ:St)(Q:VK)(u:Bh)(s':Bi):Prop:=∃v H',Inv X pins σ H' s'/\RelV v u/\Q v H'
def TP (X:Cx)(pins:List (Addr×Obj))(σ:St)(Q:Bool->Hp->Prop)(b:Bool)(s':Bi):Prop:=∃H',Inv X pins σ H' s'/\Q b H'
def AP (X:Cx)(pins:List (Addr×Obj))(σ:St)(Q:List V->Hp->Prop)(us:List Bh)(s':Bi):Prop:=∃vs H',Inv X pins σ H' s'/\Vals vs us/\Q vs H'
def SP (X:Cx)(pins:List (Addr×Obj))(D:Ends)(f:Flow)(s':Bi):Prop :=
 match f with
 | .next=>∃σ' H',Inv X pins σ' H' s'/\D.nx σ' H'
 | .brk=>∃σ' H',Inv X pins σ' H' s'/\D.bk σ' H'
 | .cont=>∃σ' H',Inv X pins σ' H' s'/\D.ct σ' H'
 | .ret u=>∃v σ' H',Inv X pins σ' H' s'/\RelV v u/\D.rt v H'
def PE (X:Cx)(e:Expr)(t:TE):Prop :=
 ∀(pins:List (Addr×Obj)) (s:Bi) (σ:St) (H:Hp) (Q:VK),Inv X pins σ H s->t σ H Q->BL (B1 X.prog X.w) X.A (eval e X.env) (EP X pins σ Q) X.xe s
def PT (X:Cx)(e:Expr)(t:TT):Prop :=
 ∀(pins:List (Addr×Obj)) (s:Bi) (σ:St) (H:Hp) (Q:Bool->Hp->Prop),Inv X pins σ H s->t σ H Q->BL (B1 X.prog X.w) X.A (isTrue e X.env (eval e X.env)) (TP X pins σ Q) X.xe s
def PW (X:Cx)(e:Expr)(t:TT):Prop :=
 ∀(whole:Sem Bh) (pins:List (Addr×Obj)) (s:Bi) (σ:St) (H:Hp) (Q:Bool->Hp->Prop),Inv X pins σ H s->t σ H Q->BL (B1 X.prog X.w) X.A (isTrue e X.env whole) (TP X pins σ Q) X.xe s
theorem PW.pt {X:Cx}{e:Expr}{t:TT}(h:PW X e t):PT X e t:=h _
def PA (X:Cx)(es:List Expr)(t:TA):Prop :=
 ∀(pos:Pos) (pins:List (Addr×Obj)) (s:Bi) (σ:St) (H:Hp) (Q:List V->Hp->Prop),Inv X pins σ H s->t σ H Q->BL (B1 X.prog X.w) X.A (spliced (Fd pos (Ce es X.env))) (AP X pins σ Q) X.xe s
def PS (X:Cx)(st:Stmt)(t:TS):Prop :=
 ∀(pins:List (Addr×Obj)) (s:Bi) (σ:St) (H:Hp) (D:Ends),Inv X pins σ H s->t D σ H->BL (B1 X.prog X.w) X.A (exec st X.env) (SP X pins D) X.xe s
def PSs (X:Cx)(st:List Stmt)(t:TS):Prop :=
 ∀(pins:List (Addr×Obj)) (s:Bi) (σ:St) (H:Hp) (D:Ends),Inv X pins σ H s->t D σ H->BL (B1 X.prog X.w) X.A (execs st X.env) (SP X pins D) X.xe s
theorem thn {α:Type}{t:Sem α}{Q Q':α -> Bi->Prop}{M:Model}{A:B9}{E:Bh->Bi->Prop}{s:Bi}(h:BL M A t Q E s)(hQ:∀a s,Q a s->Q' a s):BL M A t Q' E s:=Dg h hQ λ_ _ x=>x
open PySem PySem.Spec PyProof.Rows
section
variable  {X:Cx}
theorem bin {a b:Expr}{ta tb:TE}(ha:PE X a ta)(hb:PE X b tb){pins:List (Addr×Obj)}{s:Bi}{σ:St}{H:Hp}{R:V->V->Hp->Prop}(I:Inv X pins σ H s)(h:ta σ H λx H1=>tb σ H1 λy H2=>R x y H2)
  {α:Type} {Q:α -> Bi->Prop} {f:Bh->Bh->Sem α}
  (hf:∀v u s2 x y H2,Inv X pins σ H2 s2->RelV x v->RelV y u->R x y H2->BL (B1 X.prog X.w) X.A (f v u) Q X.xe s2) :
  BL (B1 X.prog X.w) X.A (eval a X.env) (λv s₁=>BL (B1 X.prog X.w) X.A (eval b X.env) (λu s₂=>BL (B1 X.prog X.w) X.A (f v u) Q X.xe s₂) X.xe s₁) X.xe s:=by
 refine thn (ha pins s σ H _ I h) λv s1 ⟨x,H1,I1,r1,q1⟩ =>?_
 refine thn (hb pins s1 σ H1 _ I1 q1) λu s2 ⟨y,H2,I2,r2,q2⟩ =>?_
 exact hf v u s2 x y H2 I2 r1 r2 q2
def Ay (i:Nat):TE:=λσ H Q=>∃v,σ[i]? = some (some v)/\Q v H
def tC (v:V):TE:=λ_ H Q=>Q v H
theorem zi {i:Nat}{x:Str}{pos:Pos}(hN:X.N[i]? = some x)(hv:Vis X.env.scope x)(hd:(x == ("__debug__" : Str))=false:=by decide)(hcd:(x == ("__classdict__" : Str))=false:=by decide):PE X (.Name x pos) (Ay i):=by
 intro pins s σ H Q I h
 obtain ⟨v,e,h⟩:=h
 obtain ⟨m,hn,hl⟩:=I.loc
 obtain ⟨u,r,l⟩:=hl i x v hN e hv
 have fin:EP X pins σ Q u s:=⟨v,H,I,r,h⟩
 rcases l with ⟨hk,hm⟩ | ⟨hk,c,hc,hcell⟩
 ·exact JP (wpAny_loadName_local I.ok.kind hk hn hm fin) hd
 ·rcases hk with hk | hk
  ·exact JP (wpAny_loadName_cell I.ok.kind hk hc hcell fin) hd
  ·exact JP (wpAny_loadName_free I.ok.kind hk hc hcell fin hcd) hd
theorem ai {i j pos}:PE X (.Constant (.int i) j pos) (tC (.int i)):=λ_ _ _ H _ I h=>wpAny_Constant_int ⟨.int i,H,I.tok _,⟨_,rfl⟩,h⟩
theorem hZ {b j pos}:PE X (.Constant (.bool b) j pos) (tC (.bl b)):=λ_ _ _ H _ I h=>Constant_bool ⟨.bl b,H,I,rfl,h⟩
theorem vo {j pos}:PE X (.Constant .none j pos) (tC .non):=λ_ _ _ H _ I h=>Constant_none ⟨.non,H,I,rfl,h⟩
theorem dX {x j pos}:PE X (.Constant (.str x) j pos) (tC (.str x)):=λ_ _ _ H _ I h=>Calls.Constant_str ⟨.str x,H,I.tok _,⟨_,rfl⟩,h⟩
def Gl (X:Cx)(x:Str):Prop:=X.env.kindOf x=some .globalImplicit
theorem rY {E:Bh->Bi->Prop}{pins:List (Addr×Obj)}{s:Bi}{σ:St}{H:Hp}{x:Str}{u:Bh}{pos:Pos}{Q:Bh->Bi->Prop}(I:Inv X pins σ H s)(hg:Gl X x)(hm:X.mg x=some u)(h:Q u s)
  (hd:(x == ("__debug__" : Str))=false:=by decide):BL (B1 X.prog X.w) X.A (eval (.Name x pos) X.env) Q E s :=
 Gs I.ok.kind hg (Calls.loadGlobal_global (by rw[I.ok.glob];exact I.mod.glob.keeps I.bk) hm h) hd
theorem gH {E:Bh->Bi->Prop}{pins:List (Addr×Obj)}{s:Bi}{σ:St}{H:Hp}{x:Str}{u:Bh}{pos:Pos}{Q:Bh->Bi->Prop}(I:Inv X pins σ H s)(hg:Gl X x)(hm:X.mg x=none)(hv:CM x=some u)(h:Q u s)
  (hn:x ≠ "__name__" := by decide) (hd:(x == ("__debug__" : Str))=false:=by decide):BL (B1 X.prog X.w) X.A (eval (.Name x pos) X.env) Q E s:=by
 obtain ⟨mb,h1,h2⟩:=I.mod.blt
 exact Gs I.ok.kind hg (Calls.loadGlobal_builtin (by rw[I.ok.glob];exact I.mod.glob.keeps I.bk) hm (by rw[I.ok.blt];exact h1.keeps I.bk) ((h2 x hn).trans hv) h) hd
theorem rZ {x:Str}{v:V}{u:Bh}{pos:Pos}(hg:Gl X x)(hm:X.mg x=some u)(r:RelV v u)(hd:(x == ("__debug__" : Str))=false:=by decide):PE X (.Name x pos) (tC v) :=
 λ_ _ _ H _ I h=>rY I hg hm ⟨v,H,I,r,h⟩ hd
variable  {a b:Expr}{ta tb:TE}{pos:Pos}
def PC (X:Cx)(op:CmpOp)(a b:Expr)(t:TE):Prop :=
 ∀(pins:List (Addr×Obj)) (s:Bi) (σ:St) (H:Hp) (Q:VK),Inv X pins σ H s->t σ H Q →
  BL (B1 X.prog X.w) X.A (eval a X.env) (λv s₁=>BL (B1 X.prog X.w) X.A (eval b X.env) (λu s₂=>BL (B1 X.prog X.w) X.A (CV op v u) (EP X pins σ Q) X.xe s₂) X.xe s₁) X.xe s
theorem vp (b:Expr){op:CmpOp}(h:op ≠ .In)(h2:op ≠ .NotIn):behindInMarks op b=false:=by
 have e1:(op == CmpOp.In)=false:=by cases op <;> first | rfl | exact absurd rfl h
 have e2:(op == CmpOp.NotIn)=false:=by cases op <;> first | rfl | exact absurd rfl h2
 cases b <;> simp[behindInMarks,e1,e2]
def tB (t:TE):TT:=λσ H Q=>t σ H λx H1=>∃c,x = .bl c/\Q c H1
theorem pt_cmp {op:CmpOp}{t:TE}(h:PC X op a b t)(h1:behindInMarks op b=false:=by first | exact vp _ (by decide) (by decide) | rfl):PT X (.Compare a [op] [b] pos) (tB t):=by
 intro pins s σ H Q I hw
 refine HD (thn (h pins s σ H _ I hw) λv s1 h1=>thn h1 λu s2 h2=>thn h2 λc s3 ⟨x,H1,I1,r1,q1⟩ =>?_) h1
 obtain ⟨d,rfl,q⟩:=q1
 cases r1
 exact C7 ⟨H1,I1,q⟩
theorem fA {e:Expr}{t:TE}(h:PE X e t)(he:∀whole,isTrue e X.env whole=(do let v ← whole;standAt e.pos;JB [v] (truthy v)):=by intro _;rfl):PT X e (tB t):=by
  intro pins s σ H Q I hw
  refine isTrue_plain (thn (h pins s σ H _ I hw) λv s1 ⟨x,H1,I1,r1,q1⟩ =>?_) (he _)
  obtain ⟨d,rfl,q⟩:=q1
  cases r1
  exact C7 ⟨H1,I1,q⟩
variable  {tA tB':TT}{rest:List Expr}
def tAnd (t u:TT):TT:=λσ H Q=>t σ H λc H1=>if c=true then u σ H1 Q else Q false H1
def tOr (t u:TT):TT:=λσ H Q=>t σ H λc H1=>if c=true then Q true H1 else u σ H1 Q
def tNot (t:TT):TT:=λσ H Q=>t σ H λc H1=>Q (!c) H1
theorem ia (ha:PT X a tA):PW X (.BoolOp .And [a] pos) tA:=by
 intro wh pins s σ H Q I h
 refine isTrue_and (thn (ha pins s σ H Q I h) λc s1 e =>?_)
 cases c with
 | true=>exact isTrue_and_nil e
 | false=>exact e
theorem mZ (ha:PT X a tA):PW X (.BoolOp .Or [a] pos) tA:=by
 intro wh pins s σ H Q I h
 refine isTrue_or (thn (ha pins s σ H Q I h) λc s1 e =>?_)
 cases c with
 | false=>exact isTrue_or_nil e
 | true=>exact e
theorem jM (ha:PT X a tA)(hb:PW X (.BoolOp .And (b :: rest) pos) tB'):PW X (.BoolOp .And (a :: b :: rest) pos) (tAnd tA tB'):=by
 intro wh pins s σ H Q I h
 refine isTrue_and (thn (ha pins s σ H _ I h) λc s1 ⟨H1,I1,q1⟩ =>?_)
 cases c with
 | true=>exact hb wh pins s1 σ H1 Q I1 q1
 | false=>exact ⟨H1,I1,q1⟩
theorem jN (ha:PT X a tA)(hb:PW X (.BoolOp .Or (b :: rest) pos) tB'):PW X (.BoolOp .Or (a :: b :: rest) pos) (tOr tA tB'):=by
 intro wh pins s σ H Q I h
 refine isTrue_or (thn (ha pins s σ H _ I h) λc s1 ⟨H1,I1,q1⟩ =>?_)
 cases c with
 | true=>exact ⟨H1,I1,q1⟩
 | false=>exact hb wh pins s1 σ H1 Q I1 q1
theorem iM (ha:PT X a tA):PT X (.UnaryOp .Not a pos) (tNot tA):=by
 intro pins s σ H Q I h
 exact isTrue_not (ha pins s σ H (λc H1=>Q (!c) H1) I h)
def Az (ta tb:TE):TE:=λσ H Q=>ta σ H λx H1=>∃c,x = .bl c/\if c=true then tb σ H1 Q else Q (.bl false) H1
def tOrV (ta tb:TE):TE:=λσ H Q=>ta σ H λx H1=>∃c,x = .bl c/\if c=true then Q (.bl true) H1 else tb σ H1 Q
theorem m7 {op}{t:TE}(h:PE X a t):PE X (.BoolOp op [a] pos) t:=λpins s σ H Q I hw=>BoolOp_one (h pins s σ H Q I hw)
theorem qv (ha:PE X a ta)(hb:PE X (.BoolOp .And (b :: rest) pos) tb):PE X (.BoolOp .And (a :: b :: rest) pos) (Az ta tb):=by
 intro pins s σ H Q I h
 refine BoolOp_and (thn (ha pins s σ H _ I h) λv s1 ⟨x,H1,I1,r1,q1⟩ =>?_)
 obtain ⟨c,rfl,q1⟩:=q1
 cases r1
 refine C7 ?_
 cases c with
 | true=>exact hb pins s1 σ H1 Q I1 q1
 | false=>exact ⟨.bl false,H1,I1,rfl,q1⟩
theorem AA (ha:PE X a ta)(hb:PE X (.BoolOp .Or (b :: rest) pos) tb):PE X (.BoolOp .Or (a :: b :: rest) pos) (tOrV ta tb):=by
 intro pins s σ H Q I h
 refine BoolOp_or (thn (ha pins s σ H _ I h) λv s1 ⟨x,H1,I1,r1,q1⟩ =>?_)
 obtain ⟨c,rfl,q1⟩:=q1
 cases r1
 refine C7 ?_
 cases c with
 | false=>exact hb pins s1 σ H1 Q I1 q1
 | true=>exact ⟨.bl true,H1,I1,rfl,q1⟩
end
open PySem PySem.Spec PyProof.Rows
def SqL (K:Be)(H:Hp)(a:Addr)(xs:List V):Prop :=
 Rd H a (.lst xs) ∨
  ∃(o:Obj) (its:Array Bh) (n:Nat),K.lookup a=some o/\o.cls = .type "list" /\ o.dict=none/\o.data = .seq its n/\its.size<=BJ/\Vals xs its.toList
def SqT (K:Be)(H:Hp)(a:Addr)(xs:List V):Prop :=
 Rd H a (.tup xs) ∨
  ∃(o:Obj) (its:Array Bh) (n:Nat),K.lookup a=some o/\o.cls = .type "tuple" /\ o.data = .seq its n/\its.size<=BJ/\Vals xs its.toList
def absV:Bh->Option V
 | .none=>some .non
 | .bool b=>some (.bl b)
 | .int i _=>some (.int i)
 | .str x _=>some (.str x)
 | .bytes b _=>some (.byt b)
 | .float b _=>some (.flt b)
 | .ref a=>some (.ref a)
 | .type n=>some (.ty n)
 | _=>none
theorem RelV.abs {x:V}{u:Bh}(r:RelV x u):absV u=some x:=by
 cases x with
 | non=>cases r;rfl
 | bl _=>cases r;rfl
 | int _=>obtain ⟨t,rfl⟩:=r;rfl
 | str _=>obtain ⟨t,rfl⟩:=r;rfl
 | byt _=>obtain ⟨t,rfl⟩:=r;rfl
 | flt _=>obtain ⟨t,rfl⟩:=r;rfl
 | ref _=>cases r;rfl
 | ty _=>cases r;rfl
theorem RelV.inj {x y:V}{u:Bh}(r:RelV x u)(q:RelV y u):x=y:=BW (r.abs.symm.trans q.abs)
theorem Vals.inj:∀{xs ys:List V} {us:List Bh},Vals xs us->Vals ys us->xs=ys
 | _,_,_,.nil,.nil=>rfl
 | _,_,_,.cons r t,.cons r' t'=>by rw[r.inj r',Vals.inj t t']
section
variable  {X:Cx}{pins:List (Addr×Obj)}{σ:St}{H:Hp}{s:Bi}{a:Addr}{xs ys:List V}
theorem SqL.of {K:Be}(h:H a=some (.lst xs)):SqL K H a xs :=.inl (.inl h)
theorem SqT.of {K:Be}(h:H a=some (.tup xs)):SqT K H a xs :=.inl (.inl h)
theorem Inv.list (I:Inv X pins σ H s)(h:SqL X.K H a xs):∃its:List Bh,Vals xs its/\PlainL s.heap a its.toArray/\xs.length<=BJ:=by
 rcases h with h | ⟨o,its,n,hk,hc,hd,hs,hz,r⟩
 ·obtain ⟨z,its,n,r,e⟩:=h.ok I.hok
  exact ⟨its,r,⟨_,n,e,rfl,rfl,rfl⟩,z⟩
 ·refine ⟨its.toList,r,⟨o,n,I.kIn a o hk,hc,hd,by simpa using hs⟩,?_⟩
  have e:=r.length
  simp only[Bl] at e
  omega
theorem Inv.tuple (I:Inv X pins σ H s)(h:SqT X.K H a xs):∃its:List Bh,Vals xs its/\IsTup s.heap a its.toArray/\xs.length<=BJ:=by
 rcases h with h | ⟨o,its,n,hk,hc,hs,hz,r⟩
 ·obtain ⟨z,its,r,p⟩:=h.ok I.hok
  exact ⟨its,r,p.tup,z⟩
 ·refine ⟨its.toList,r,⟨o,I.kIn a o hk,hc,n,by simpa using hs⟩,?_⟩
  have e:=r.length
  simp only[Bl] at e
  omega
theorem Inv.oz (I:Inv X pins σ H s)(h:SqL X.K H a xs)(h':SqL X.K H a ys):xs=ys:=by
 obtain ⟨its,r,⟨o,n,e,_,_,d⟩,_⟩:=I.list h
 obtain ⟨its',r',⟨o',n',e',_,_,d'⟩,_⟩:=I.list h'
 rw[e] at e';cases e'
 rw[d] at d'
 injection d' with d1 _
 have:its=its':=by simpa using congrArg Array.toList d1
 subst this
 exact r.inj r'
theorem Inv.iN (I:Inv X pins σ H s)(h:SqT X.K H a xs)(h':SqT X.K H a ys):xs=ys:=by
 obtain ⟨its,r,⟨o,e,_,n,d⟩,_⟩:=I.tuple h
 obtain ⟨its',r',⟨o',e',_,n',d'⟩,_⟩:=I.tuple h'
 rw[e] at e';cases e'
 rw[d] at d'
 injection d' with d1 _
 have:its=its':=by simpa using congrArg Array.toList d1
 subst this
 exact r.inj r'
end
abbrev Cx.k9 (X:Cx)(E:Bh->Bi->Prop):Cx:={ X with xe:=E }
abbrev Cx.nox (X:Cx):Cx:=X.k9 λ_ _=>False
theorem Cx.Ok.k9 {X:Cx}(ok:X.Ok)(E:Bh->Bi->Prop):(X.k9 E).Ok :=
 ⟨ok.mod,ok.kind,ok.glob,ok.blt,ok.above,ok.inj,ok.has,ok.cab,ok.hd,ok.frames,ok.stk,ok.exf,ok.bs,ok.bsz,ok.noex,ok.exfs,ok.funs,ok.frf⟩
theorem Cx.Ok.fB {X:Cx}{E:Bh->Bi->Prop}(ok:(X.k9 E).Ok):X.Ok :=
 ⟨ok.mod,ok.kind,ok.glob,ok.blt,ok.above,ok.inj,ok.has,ok.cab,ok.hd,ok.frames,ok.stk,ok.exf,ok.bs,ok.bsz,ok.noex,ok.exfs,ok.funs,ok.frf⟩
section
variable  {X:Cx}{pins:List (Addr×Obj)}{σ:St}{H:Hp}{s:Bi}{E:Bh->Bi->Prop}
theorem Inv.k9 (I:Inv X pins σ H s)(E:Bh->Bi->Prop):Inv (X.k9 E) pins σ H s:=⟨I.ok.k9 E,I.os,I.bare,I.base,I.loc,I.cell,I.free,I.freeC,I.pin,I.hok,I.len⟩
theorem Inv.fB (I:Inv (X.k9 E) pins σ H s):Inv X pins σ H s:=⟨I.ok.fB,I.os,I.bare,I.base,I.loc,I.cell,I.free,I.freeC,I.pin,I.hok,I.len⟩
theorem SP.fB {D:Ends}{f:Flow}{s':Bi}(h:SP (X.k9 E) pins D f s'):SP X pins D f s':=by
 cases f with
 | next=>obtain ⟨σ',H',I,q⟩:=h;exact ⟨σ',H',I.fB,q⟩
 | brk=>obtain ⟨σ',H',I,q⟩:=h;exact ⟨σ',H',I.fB,q⟩
 | cont=>obtain ⟨σ',H',I,q⟩:=h;exact ⟨σ',H',I.fB,q⟩
 | ret u=>obtain ⟨v,σ',H',I,r,q⟩:=h;exact ⟨v,σ',H',I.fB,r,q⟩
theorem PSs.nox {st:List Stmt}{t:TS}(h:PSs X.nox st t):PSs X st t:=λpins s σ H D I hw =>
 Dg (h pins s σ H D (I.k9 _) hw) (λ_ _ q=>q.fB) λ_ _ z=>False.elim z
end
section
variable  {X:Cx}{st:Stmt}{rest:List Stmt}{t u:TS}{e:Expr}{te:TE}{pos:Pos}
def AB:TS:=λD σ H=>D.nx σ H
def tSeq (t u:TS):TS:=λD σ H=>t { D with nx:=u D } σ H
theorem aU:PSs X [] AB:=λ_ _ σ H _ I h=>Gq ⟨σ,H,I,h⟩
theorem aj (h1:PS X st t)(h2:PSs X rest u):PSs X (st :: rest) (tSeq t u):=by
 intro pins s σ H D I h
 refine wpAny_execs_cons (thn (h1 pins s σ H { D with nx:=u D } I h) λf s1 q =>?_)
 cases f with
 | next =>
  obtain ⟨σ',H',I',q⟩:=q
  exact h2 pins s1 σ' H' D I' q
 | ret v=>exact q
 | brk=>exact q
 | cont=>exact q
theorem ak (h1:PS X st t):PSs X [st] t:=by
 intro pins s σ H D I h
 refine wpAny_execs_cons (thn (h1 pins s σ H D I h) λf s1 q =>?_)
 cases f with
 | next=>exact Gq q
 | ret v=>exact q
 | brk=>exact q
 | cont=>exact q
theorem Inv.quiet {pins:List (Addr×Obj)}{σ:St}{H:Hp}{s:Bi}(I:Inv X pins σ H s):interactive X.env=false:=by simp[interactive,I.ok.kind]
def AD (te:TE):TS:=λD σ H=>te σ H λ_ H1=>D.nx σ H1
theorem dk (he:PE X e te)(hs:swapsWith e none pos.line X.env=pure false:=by rfl):PS X (.Expr e pos) (AD te):=by
 intro pins s σ H D I h
 exact wpAny_Expr_any (thn (he pins s σ H _ I h) λv s1 ⟨x,H1,I1,r1,q1⟩=>⟨σ,H1,I1,q1⟩) I.quiet hs
def tRet (te:TE):TS:=λD σ H=>te σ H D.rt
theorem aM (he:PE X e te):PS X (.Return (some e) pos) (tRet te):=by
 intro pins s σ H D I h
 exact wpAny_Return_some (thn (he pins s σ H _ I h) λv s1 ⟨x,H1,I1,r1,q1⟩=>⟨x,σ,H1,I1,r1,q1⟩)
def tIfS (c:TT)(t u:TS):TS:=λD σ H=>c σ H λb H1=>if b=true then t D σ H1 else u D σ H1
theorem bM {c:Expr}{a b:List Stmt}{tc:TT}(hc:PT X c tc)(ha:PSs X a t)(hb:PSs X b u):PS X (.If c a b pos) (tIfS tc t u):=by
 intro pins s σ H D I h
 refine wpAny_If (thn (hc pins s σ H _ I h) λd s1 ⟨H1,I1,q1⟩ =>?_)
 cases d with
 | true=>exact ha pins s1 σ H1 D I1 q1
 | false=>exact hb pins s1 σ H1 D I1 q1
def zj:TS:=λ_ _ _=>False
theorem lM {sts:List Stmt}:PSs X sts zj:=λ_ _ _ _ _ _ h=>h.elim
end
abbrev TG:=V->St->Hp->(St->Hp->Prop)->Prop
abbrev TGs:=List V->St->Hp->(St->Hp->Prop)->Prop
def PG (X:Cx)(target:Expr)(t:TG):Prop :=
 ∀(pins:List (Addr×Obj)) (s:Bi) (σ:St) (H:Hp) (v:V) (u:Bh) (Q:St->Hp->Prop),Inv X pins σ H s->RelV v u->t v σ H Q →
  BL (B1 X.prog X.w) X.A (assign target X.env u) (λ_ s'=>∃σ' H',Inv X pins σ' H' s'/\Q σ' H') X.xe s
def PGs (X:Cx)(ts:List Expr)(t:TGs):Prop :=
 ∀(pins:List (Addr×Obj)) (s:Bi) (σ:St) (H:Hp) (vs:List V) (us:List Bh) (Q:St->Hp->Prop),Inv X pins σ H s->Vals vs us->t vs σ H Q →
  BL (B1 X.prog X.w) X.A (assignInOrder ((assignEach ts X.env).map (·.2)) us) (λ_ s'=>∃σ' H',Inv X pins σ' H' s'/\Q σ' H') X.xe s
abbrev zk:=V->V->V->Hp->(Hp->Prop)->Prop
def AE (X:Cx)(t:zk):Prop :=
 ∀(pins:List (Addr×Obj)) (s:Bi) (σ:St) (H:Hp) (o i v:V) (ov iv u:Bh) (Q:Hp->Prop),Inv X pins σ H s->RelV o ov->RelV i iv->RelV v u->t o i v H Q →
  BL (B1 X.prog X.w) X.A (setItem ov iv u) (λ_ s'=>∃H',Inv X pins σ H' s'/\Q H') X.xe s
section
variable  {X:Cx}{pos:Pos}
def fj (i:Nat):TG:=λv σ H Q=>Q (σ.set i (some v)) H
theorem aB {i:Nat}{x:Str}(hN:X.N.Nodup)(hi:X.N[i]? = some x)(hx:Loc X.env.scope x)(hf:X.fn x=true\/X.env.scope.names.lookup x=some .local:=by first | exact .inl rfl | exact .inr rfl | assumption):PG X (.Name x pos) (fj i):=by
 intro pins s σ H v u Q I r h
 exact wpAny_assign_Name (oy I hN hi hx r (λs' I'=>⟨_,H,I',h⟩) hf)
def gNil:TGs:=λvs σ H Q=>vs=[]/\Q σ H
def AF (t:TG)(u:TGs):TGs:=λvs σ H Q=>∃v r,vs=v :: r/\t v σ H λσ' H'=>u r σ' H' Q
theorem dY:PGs X [] gNil:=by
 intro pins s σ H vs us Q I r h
 obtain ⟨e,h⟩:=h
 subst e
 cases r
 exact assignInOrder_nil ⟨σ,H,I,h⟩
theorem bb {e:Expr}{es:List Expr}{t:TG}{u:TGs}(h1:PG X e t)(h2:PGs X es u)
  (hs:(assignEach (e :: es) X.env).map (·.2)=assign e X.env :: (assignEach es X.env).map (·.2):=by rfl):PGs X (e :: es) (AF t u):=by
 intro pins s σ H vs us Q I r h
 obtain ⟨v,vr,e1,h⟩:=h
 subst e1
 cases r with
 | cons r rr =>
  rw[hs]
  refine assignInOrder_cons (thn (h1 pins s σ H _ _ _ I r h) λ_ s1 ⟨σ1,H1,I1,q1⟩ =>?_)
  exact h2 pins s1 σ1 H1 _ _ Q I1 rr q1
def gTup (K:Be)(n:Nat)(t:TGs):TG:=λv σ H Q=>∃a xs,v = .ref a/\SqT K H a xs/\xs.length=n/\t xs σ H Q
theorem gI {es:List Expr}{k:Nat}{t:TGs}{n:Nat}(hc:X.calm=true)(h:PGs X es t)
  (hn:(assignEach es X.env).length=n:=by rfl) (hst:(assignEach es X.env).findIdx? (·.1)=none:=by rfl):PG X (.Tuple es k pos) (gTup X.K n t):=by
 intro pins s σ H v u Q I r hw
 obtain ⟨a,xs,e1,hq,hl,hw⟩:=hw
 subst e1
 cases r
 obtain ⟨its,rv,ht,hz⟩:=I.tuple hq
 refine assign_Tuple_tuple (I.ok.hd hc) ht (by simp[hn, <- hl,rv.length]) hst λh' hx =>?_
 have I1:Inv X pins σ H { s with heap:=h' }:=I.kept (t':=s.toks) λb o e=>hx b o (BI (Bq e)) e
 exact h pins _ σ H xs _ Q I1 (by simpa using rv) hw
def gSub (to ti:TE)(t:zk):TG:=λv σ H Q=>to σ H λo H1=>ti σ H1 λi H2=>t o i v H2 λH3=>Q σ H3
theorem zo {o i:Expr}{to ti:TE}{t:zk}(ho:PE X o to)(hi:PE X i ti)(hs:AE X t)
    (ha:∀v,assign (.Subscript o i pos) X.env v=(do
      let ov ← JB [v] (eval o X.env)
      let iv ← JB [v,ov] (eval i X.env)
      standAt pos
      JB [v,ov,iv] (setItem ov iv v)
      release [v,ov,iv] []):=by intro _;rfl):PG X (.Subscript o i pos) (gSub to ti t):=by
  intro pins s σ H v u Q I r h
  rw[ha]
  refine Bd (CG (thn (ho pins s σ H _ I h) λov s1 ⟨x,H1,I1,r1,q1⟩ =>?_))
  refine Bd (CG (thn (hi pins s1 σ H1 _ I1 q1) λiv s2 ⟨y,H2,I2,r2,q2⟩ =>?_))
  refine Bd (He (Bd (CG (thn (hs pins s2 σ H2 x y v ov iv u _ I2 r1 r2 r q2) λ_ s3 ⟨H3,I3,q3⟩ =>?_))))
  exact wpAny_release ⟨σ,H3,I3,q3⟩
def zp (te:TE)(g:TG):TS:=λD σ H=>te σ H λx H1=>g x σ H1 D.nx
theorem m8 {tg e:Expr}{te:TE}{g:TG}(he:PE X e te)(hg:PG X tg g)(hs:swapsWithSole [tg] e pos.line X.env=pure false:=by rfl)(hw:swappedStores [tg] e X.env=pure none:=by rfl)
  (h1:(assignEach [tg] X.env).map (·.2)=[assign tg X.env]:=by rfl):PS X (.Assign [tg] e pos) (zp te g):=by
 intro pins s σ H D I h
 refine wpAny_Assign_stores (thn (he pins s σ H _ I h) λv s1 ⟨x,H1,I1,r1,q1⟩ =>?_) hs hw
 rw[h1]
 exact thn (hg pins s1 σ H1 x v _ I1 r1 q1) λ_ s2 q=>q
theorem aL {i:Nat}{x:Str}{e:Expr}{te:TE}{pos':Pos}(hN:X.N.Nodup)(hi:X.N[i]? = some x)(hx:Loc X.env.scope x)(he:PE X e te)(hs:swapsWith e (some (.Name x pos')) pos.line X.env=pure false:=by rfl)(hf:X.fn x=true\/X.env.scope.names.lookup x=some .local:=by first | exact .inl rfl | exact .inr rfl | assumption) :
  PS X (.Assign [.Name x pos'] e pos) (zp te (fj i)):=by
 intro pins s σ H D I h
 refine wpAny_Assign_Name (thn (he pins s σ H _ I h) λv s1 ⟨y,H1,I1,r1,q1⟩ =>?_) hs
 exact oy I1 hN hi hx r1 (λs2 I2=>⟨_,H1,I2,q1⟩) hf
end
section
variable  {X:Cx}{pos:Pos}
def vq (c:TT)(tb:TS):TS:=λD σ H=>∃W:Nat->St->Hp->Prop,(∃m,W m σ H)/\∀m σ H,W m σ H →
 c σ H λb H1=>if b=true then ∃N:St->Hp->Prop,(∀σ' H',N σ' H'->∃m',m'<m/\W m' σ' H')/\tb { D with nx:=N,ct:=N,bk:=D.nx } σ H1 else D.nx σ H1
theorem vt {c:Expr}{body:List Stmt}{tc:TT}{tb:TS}(hp:PassesOwn (B1 X.prog X.w) X.A X.env X.xe)(hc:PT X c tc)(hb:PSs X body tb):PS X (.While c body [] pos) (vq tc tb):=by
 intro pins s σ H D I h
 obtain ⟨W,⟨m0,w0⟩,turn⟩:=h
 refine wpAny_While (codeAny_whileLoop (λn s'=>∃σ' H',Inv X pins σ' H' s'/\W n σ' H') ?_ m0 ⟨σ,H,I,w0⟩)
 rintro n s1 ⟨σ1,H1,I1,w1⟩
 refine Eu hp (thn (hc pins s1 σ1 H1 _ I1 (turn n σ1 H1 w1)) λb s2 ⟨H2,I2,q2⟩ =>?_)
 cases b with
 | true =>
  obtain ⟨N,hN,q2⟩:=q2
  rw[if_pos rfl]
  refine Eu hp (thn (hb pins s2 σ1 H2 _ I2 q2) λf s3 q3 =>?_)
  cases f with
  | next =>
   obtain ⟨σ3,H3,I3,n3⟩:=q3
   obtain ⟨m',hm,w3⟩:=hN σ3 H3 n3
   exact ⟨m',hm,σ3,H3,I3,w3⟩
  | cont =>
   obtain ⟨σ3,H3,I3,n3⟩:=q3
   obtain ⟨m',hm,w3⟩:=hN σ3 H3 n3
   exact ⟨m',hm,σ3,H3,I3,w3⟩
  | brk=>exact q3
  | ret v=>exact q3
 | false =>
  rw[if_neg Bo]
  exact Gq ⟨σ1,H2,I2,q2⟩
end
structure It where
 go:Nat->Hp->Prop
 yld:Nat->Hp->V->Hp->Prop
 stop:Nat->Hp->Prop
def jO (X:Cx)(pins:List (Addr×Obj))(H:Hp)(b:Addr):Prop :=
 H b=none/\b≠X.env.locals/\b∉X.fs/\(b∈X.ex\/X.s₀.heap.objs.size<=b)/\(∀x c,X.env.cells.lookup x=some c->c≠b)/\∀p∈X.pn++pins,p.1≠b
theorem Inv.vv {X:Cx}{pins:List (Addr×Obj)}{σ:St}{H H':Hp}{s:Bi}{b:Addr}(I:Inv X pins σ H s)(hb:s.heap.objs.size<=b)(hn:H' b=none):jO X pins H' b:=by
 refine ⟨hn,EU (BE I.lt hb),I.xA hb,.inr (BS I.sz hb),λx c e z =>?_,λp hp z =>?_⟩
 ·obtain ⟨v,q⟩:=I.cell x c e
  exact absurd (BE q.lt (by rw[z];exact hb)) (CN _)
 ·exact absurd (BE (Bq (I.pin p hp).1) (by rw[z];exact hb)) (CN _)
structure Turn (P:BD)(w:Cb)(K:Be)(tg:Expr)(J:It)(fp:List Addr)(it:Addr)(tn:Nat->Heap->Prop):Prop where
 mem:it∈fp
 obj:∀i h,tn i h->∀b∈fp,∃o,h.get? b=some o/\∀v,o.data ≠ .cell v
 keep:∀i h h',tn i h->(∀b∈fp,∀o,h.get? b=some o->h'.get? b=some o)->tn i h'
 item:∀(X:Cx),X.prog=P->X.w=w->X.K=K->X.calm=true->∀(i:Nat) (pins:List (Addr×Obj)) (s:Bi) (σ:St) (H:Hp) (E:Bh->Bi->Prop),Inv X pins σ H s->(∀b∈fp,jO X pins H b)->tn i s.heap->J.go i H →
  BL (B1 P w) X.A (pyNext (.ref it)) (λr s1=>∃u,r=some u ∧
   BL (B1 P w) X.A (letOwnedTupleGo tg (.ref it) u) (λ_ s2=>∃x H',Inv X pins σ H' s2/\RelV x u/\J.yld i H x H'/\tn (i+1) s2.heap/\∀b∈fp,H' b=none) E s1) E s
 done:∀(X:Cx),X.prog=P->X.w=w->X.K=K->X.calm=true->∀(i:Nat) (pins:List (Addr×Obj)) (s:Bi) (σ:St) (H:Hp) (E:Bh->Bi->Prop),Inv X pins σ H s->(∀b∈fp,jO X pins H b)->tn i s.heap->J.stop i H →
  BL (B1 P w) X.A (pyNext (.ref it)) (λr s1=>r=none/\Inv X pins σ H s1) E s
 self:∀(A:B9) (i:Nat) (s:Bi) (Q:Bh->Bi->Prop) (E:Bh->Bi->Prop),tn i s.heap->Q (.ref it) s->BL (B1 P w) A (pyIter (.ref it)) Q E s
abbrev TI:=St->Hp->(It->Hp->Prop)->Prop
def PIE (X:Cx)(pins:List (Addr×Obj))(σ:St)(tg:Expr)(R:It->Hp->Prop)(itv:Bh)(s2:Bi):Prop :=
 ∃(it:Addr) (fp:List Addr) (tn:Nat->Heap->Prop) (J:It) (H':Hp),itv = .ref it/\Inv X pins σ H' s2/\Turn X.prog X.w X.K tg J fp it tn/\tn 0 s2.heap/\(∀b∈fp,jO X pins H' b)/\R J H'
def PI (X:Cx)(tg iter:Expr)(wi:TI):Prop :=
 ∀(pins:List (Addr×Obj)) (s:Bi) (σ:St) (H:Hp) (R:It->Hp->Prop),Inv X pins σ H s->wi σ H R →
  BL (B1 X.prog X.w) X.A (eval iter X.env) (λv s1=>BL (B1 X.prog X.w) X.A (pyIter v) (PIE X pins σ tg R) X.xe s1) X.xe s
theorem r6 {M:Model}{A:B9}{E:Bh->Bi->Prop}{s:Bi}{tg:Expr}{it:Addr}{u:Bh}{o:Obj}{n:String}{vs:Array Bh}{Q:Unit->Bi->Prop}(ho:s.heap.get? it=some o)(hc:o.cls = .type n)(hd:o.data = .fields vs)
    (hn:["enumerate", "zip", "dict_itemiterator", "dict_reverseitemiterator", "odict_iterator", "itertools.zip_longest", "itertools.pairwise"].contains n=false) (hQ:Q () s):BL M A (letOwnedTupleGo tg (.ref it) u) Q E s:=by
  unfold letOwnedTupleGo
  cases tg <;> first
    | exact Bk hQ
    | (cases u <;> first
        | exact Bk hQ
        | (refine Bd (IS ho ?_)
           rw[hc,hd]
           show BL M A (if (["enumerate", "zip", "dict_itemiterator", "dict_reverseitemiterator", "odict_iterator", "itertools.zip_longest", "itertools.pairwise"].contains n && vs[0]? == some (DX _))=true then _ else _) Q E s
           rw[if_neg (by intro h;rw[hn,JC] at h;cases h)]
           exact Bk hQ))
def Itl (K:Be)(a:Addr):It :=
 ⟨λi H=>∃xs x,SqL K H a xs/\xs[i]? = some x,λi H x H'=>H'=H/\∀xs,SqL K H a xs->xs[i]? = some x,λi H=>∃xs,SqL K H a xs/\xs.length<=i⟩
def Itt (K:Be)(a:Addr):It :=
 ⟨λi H=>∃xs x,SqT K H a xs/\xs[i]? = some x,λi H x H'=>H'=H/\∀xs,SqT K H a xs->xs[i]? = some x,λi H=>∃xs,SqT K H a xs/\xs.length<=i⟩
def Itr (lo:Int)(n:Nat):It:=⟨λi _=>i<n,λi H x H'=>H'=H/\x = .int (lo+i),λi _=>n<=i⟩
theorem ud {P:BD}{w:Cb}{K:Be}{tg:Expr}(a it:Addr):Turn P w K tg (Itl K a) [it] it (λi h=>h.IsListIter it a i) where
 mem:=by simp
 obj:=λi h st b hb=>by
  have e:b=it:=by simpa using hb
  subst e
  obtain ⟨o,e,c,d⟩:=st
  exact ⟨o,e,λv z=>by rw[d] at z;cases z⟩
 keep:=λi h h' st k=>st.at λo e=>k it (by simp) o e
 item:=by
  intro X hP hw hK hc i pins s σ H E I hf st hg
  subst hP hw hK
  obtain ⟨xs,x,hq,hx⟩:=hg
  obtain ⟨its,rv,p,hz⟩:=I.list hq
  obtain ⟨u,hu,ru⟩:=rv.get hx
  obtain ⟨f0,f1,f2,f3,f4,f5⟩:=hf it (by simp)
  refine wpAny_pyNext_list_item st p.isList (x:=u) (by simpa using hu) λh' st' sb =>?_
  have I1:Inv X pins σ H { s with heap:=h' }:=I.turned (t':=s.toks) (λb o hb e=>(sb.2 b hb).trans e) f0 f1 f3 f4 f5
  obtain ⟨o,e,c,d⟩:=id st'
  exact ⟨u,rfl,r6 (s:={ s with heap:=h' }) e c d (by decide) ⟨x,H,I1,ru,⟨rfl,λys hy=>by rw[I.oz hy hq];exact hx⟩,st',λb hb=>(hf b hb).1⟩⟩
 done:=by
  intro X hP hw hK hc i pins s σ H E I hf st hg
  subst hP hw hK
  obtain ⟨xs,hq,hx⟩:=hg
  obtain ⟨its,rv,p,hz⟩:=I.list hq
  obtain ⟨f0,f1,f2,f3,f4,f5⟩:=hf it (by simp)
  have hl:=rv.length
  exact wpAny_pyNext_list_end (I.ok.hd hc) st p.isList (by simp;omega) λh' eb=>⟨rfl,I.turned (t':=s.toks) (λb o hb e=>eb b o hb e) f0 f1 f3 f4 f5⟩
 self:=λ_ _ _ _ _ st h=>wpAny_pyIter_listiter st h
theorem qw {P:BD}{w:Cb}{K:Be}{tg:Expr}(a it:Addr):Turn P w K tg (Itt K a) [it] it (λi h=>h.IsTupleIter it a i) where
 mem:=by simp
 obj:=λi h st b hb=>by
  have e:b=it:=by simpa using hb
  subst e
  obtain ⟨o,e,c,d⟩:=st
  exact ⟨o,e,λv z=>by rw[d] at z;cases z⟩
 keep:=λi h h' st k=>st.at λo e=>k it (by simp) o e
 item:=by
  intro X hP hw hK hc i pins s σ H E I hf st hg
  subst hP hw hK
  obtain ⟨xs,x,hq,hx⟩:=hg
  obtain ⟨its,rv,p,hz⟩:=I.tuple hq
  obtain ⟨u,hu,ru⟩:=rv.get hx
  obtain ⟨f0,f1,f2,f3,f4,f5⟩:=hf it (by simp)
  refine wpAny_pyNext_tuple_item st (show s.heap.IsTuple a its.toArray from p) (x:=u) (by simpa using hu) λh' st' sb =>?_
  have I1:Inv X pins σ H { s with heap:=h' }:=I.turned (t':=s.toks) (λb o hb e=>(sb.2 b hb).trans e) f0 f1 f3 f4 f5
  obtain ⟨o,e,c,d⟩:=id st'
  exact ⟨u,rfl,r6 (s:={ s with heap:=h' }) e c d (by decide) ⟨x,H,I1,ru,⟨rfl,λys hy=>by rw[I.iN hy hq];exact hx⟩,st',λb hb=>(hf b hb).1⟩⟩
 done:=by
  intro X hP hw hK hc i pins s σ H E I hf st hg
  subst hP hw hK
  obtain ⟨xs,hq,hx⟩:=hg
  obtain ⟨its,rv,p,hz⟩:=I.tuple hq
  obtain ⟨f0,f1,f2,f3,f4,f5⟩:=hf it (by simp)
  have hl:=rv.length
  exact wpAny_pyNext_tuple_end (I.ok.hd hc) st (show s.heap.IsTuple a its.toArray from p) (by simp;omega) λh' eb=>⟨rfl,I.turned (t':=s.toks) (λb o hb e=>eb b o hb e) f0 f1 f3 f4 f5⟩
 self:=λ_ _ _ _ _ st h=>wpAny_pyIter_tupleiter st h
theorem qx {P:BD}{w:Cb}{K:Be}{tg:Expr}(it:Addr)(lo:Int)(n:Nat):Turn P w K tg (Itr lo n) [it] it (λi h=>IsRangeIter h it (lo+(i:Nat)*1) ((n:Int)-(i:Nat)) 1) where
 mem:=by simp
 obj:=λi h st b hb=>by
  have e:b=it:=by simpa using hb
  subst e
  exact ⟨_,st,λv z=>by
   have z':Data.fields _=Data.cell v:=z
   cases z'⟩
 keep:=λi h h' st k=>k it (by simp) _ st
 item:=by
  intro X hP hw hK hc i pins s σ H E I hf st hg
  subst hP hw hK
  obtain ⟨f0,f1,f2,f3,f4,f5⟩:=hf it (by simp)
  have W:=Walks.range (prog:=X.prog) (w:=X.w) (I.ok.hd hc) it lo 1 n
  refine W.item i s _ _ hg st λv h' tk hv st' kk =>?_
  obtain ⟨t,rfl⟩:=hv
  have I1:Inv X pins σ H { s with heap:=h',toks:=tk }:=I.turned (λb o hb e=>kk b o (by simpa using hb) e) f0 f1 f3 f4 f5
  refine ⟨_,rfl,r6 (s:={ s with heap:=h',toks:=tk }) (n := "range_iterator") st' rfl rfl (by decide) ⟨.int (lo+i),H,I1,⟨t,?_⟩,⟨rfl,rfl⟩,st',λb hb=>(hf b hb).1⟩⟩
  rw[Int.mul_one]
 done:=by
  intro X hP hw hK hc i pins s σ H E I hf st hg
  subst hP hw hK
  obtain ⟨f0,f1,f2,f3,f4,f5⟩:=hf it (by simp)
  exact wpAny_pyNext_range_end (I.ok.hd hc) st (by have:n<=i:=hg;omega) λh' eb=>⟨rfl,I.turned (t':=s.toks) (λb o hb e=>eb b o hb e) f0 f1 f3 f4 f5⟩
 self:=λ_ _ _ _ _ st h=>wpAny_pyIter_rangeiter st h
open PySem PySem.Spec PyProof.Rows
section
variable  {X:Cx}{tg:Expr}
def AG (K:Be)(tl:TE):TI:=λσ H R=>tl σ H λx H1=>∃a,x = .ref a/\(∃xs,SqL K H1 a xs)/\R (Itl K a) H1
def iTup (K:Be)(tl:TE):TI:=λσ H R=>tl σ H λx H1=>∃a,x = .ref a/\(∃xs,SqT K H1 a xs)/\R (Itt K a) H1
theorem fX {l:Expr}{tl:TE}(hl:PE X l tl):PI X tg l (AG X.K tl):=by
 intro pins s σ H R I h
 refine thn (hl pins s σ H _ I h) λv s1 ⟨x,H1,I1,r1,q1⟩ =>?_
 obtain ⟨a,e,⟨xs,hq⟩,q⟩:=q1
 subst e
 cases r1
 obtain ⟨its,rv,p,hz⟩:=I1.list hq
 refine FL p.isList ?_
 refine ⟨s1.heap.objs.size,[s1.heap.objs.size],_,_,H1,rfl,I1.kept (t':=s1.toks) λb o e=>Bf _ e,ud a _,⟨_,Bp _ rfl,rfl,rfl⟩,λb hb =>?_,q⟩
 have e:b=s1.heap.objs.size:=by simpa using hb
 subst e
 exact I1.vv (Bn _) (I1.hok.fresh (Bn _))
theorem cA {l:Expr}{tl:TE}(hl:PE X l tl):PI X tg l (iTup X.K tl):=by
 intro pins s σ H R I h
 refine thn (hl pins s σ H _ I h) λv s1 ⟨x,H1,I1,r1,q1⟩ =>?_
 obtain ⟨a,e,⟨xs,hq⟩,q⟩:=q1
 subst e
 cases r1
 obtain ⟨its,rv,p,hz⟩:=I1.tuple hq
 refine ET (show s1.heap.IsTuple a its.toArray from p) ?_
 refine ⟨s1.heap.objs.size,[s1.heap.objs.size],_,_,H1,rfl,I1.kept (t':=s1.toks) λb o e=>Bf _ e,qw a _,⟨_,Bp _ rfl,rfl,rfl⟩,λb hb =>?_,q⟩
 have e:b=s1.heap.objs.size:=by simpa using hb
 subst e
 exact I1.vv (Bn _) (I1.hok.fresh (Bn _))
theorem vw {pins:List (Addr×Obj)}{σ:St}{H:Hp}{s:Bi}{R:It->Hp->Prop}{E:Bh->Bi->Prop}{lo hi:Int}{t u v:Tok}{tk:Nat}(I:Inv X pins σ H s)(h1 : -(2 ^ 62)<=lo)(h2:lo<2 ^ 62)(h3 : -(2 ^ 62)<=hi)(h4:hi<2 ^ 62)
  (q:R (Itr lo (hi-lo).toNat) H):BL (B1 X.prog X.w) X.A (pyIter (.ref s.heap.objs.size)) (PIE X pins σ tg R) E { s with heap:=s.heap.push { cls :=.type "range",data :=.fields #[.int lo t,.int hi u,.int 1 v] },toks:=tk }:=by
 refine wpAny_pyIter_range (IsRange.new ..) (small_one h1 h2 h3 h4) ?_
 have I1:Inv X pins σ H { s with heap:=s.heap.push { cls :=.type "range",data :=.fields #[.int lo t,.int hi u,.int 1 v] },toks:=tk }:=I.kept λb o e=>Bf _ e
 refine ⟨(s.heap.push { cls :=.type "range",data :=.fields #[.int lo t,.int hi u,.int 1 v] }).objs.size,[(s.heap.push { cls :=.type "range",data :=.fields #[.int lo t,.int hi u,.int 1 v] }).objs.size],_,_,H,rfl,
  I1.kept (t':=tk) λb o e=>Bf _ e,qx _ lo (hi-lo).toNat,?_,λb hb =>?_,q⟩
 ·have e1:lo+((0:Nat):Int)*1=lo:=by simp
  have e2:(((hi-lo).toNat:Nat):Int)-((0:Nat):Int)=Builtin.Range.rangeSize lo hi 1:=by rw[rangeSize_one];split <;> omega
  show IsRangeIter _ _ (lo+((0:Nat):Int)*1) ((((hi-lo).toNat:Nat):Int)-((0:Nat):Int)) 1
  rw[e1,e2]
  exact Bp _ rfl
 ·have e:b=(s.heap.push { cls :=.type "range",data :=.fields #[.int lo t,.int hi u,.int 1 v] }).objs.size:=by simpa using hb
  subst e
  exact I1.vv (Bn _) (I1.hok.fresh (Bn _))
def AH (ta:TA):TI:=λσ H R=>ta σ H λvs H1=>∃j:Int,vs=[.int j] /\ -(2 ^ 62)<=j/\j<2 ^ 62/\R (Itr 0 j.toNat) H1
theorem dF {a:Expr}{ta:TA}{p pos:Pos}(hg:Gl X "range")(hm:X.mg "range" = none)(ha:PA X [a] ta)(hs:Ce [a] X.env=[(false,eval a X.env)]:=by rfl):PI X tg (.Call (.Name "range" p) [a] [] pos) (AH ta):=by
 intro pins s σ H R I h
 refine Call_ (gH I hg hm boot_range (Dt (thn (ha pos pins s σ H _ I h) λus s1 ⟨vs,H1,I1,r1,q1⟩ =>?_) hs rfl))
 obtain ⟨j,e,q1,q2,q⟩:=q1
 subst e
 cases r1 with
 | cons r rr =>
  cases rr
  obtain ⟨t,rfl⟩:=r
  exact call_range_1 (vw I1 (by omega) (by omega) q1 q2 (by simpa using q))
def tFor (wi:TI)(g:TG)(tb:TS):TS:=λD σ H=>wi σ H λJ H1=>∃W:Nat->Nat->St->Hp->Prop,(∃m,W 0 m σ H1)/\∀i m σ H,W i m σ H →
 (J.stop i H/\D.nx σ H)\/(J.go i H/\∃N:St->Hp->Prop,(∀σ' H',N σ' H'->∃m',m'<m/\W (i+1) m' σ' H')/\∀x H',J.yld i H x H'->g x σ H' λσ2 H2=>tb { D with nx:=N,ct:=N,bk:=D.nx } σ2 H2)
def gK (fp:List Addr)(h:Heap):List (Addr×Obj):=fp.filterMap λb=>(h.get? b).map λo=>(b,o)
theorem cZ {fp:List Addr}{h:Heap}{b:Addr}{o:Obj}(hb:b∈fp)(e:h.get? b=some o):(b,o)∈gK fp h:=EO.mpr ⟨b,hb,by rw[e];rfl⟩
theorem lN {fp:List Addr}{h:Heap}{p:Addr×Obj}(hp:p∈gK fp h):p.1∈fp/\h.get? p.1=some p.2:=by
 obtain ⟨b,hb,e⟩:=EO.mp hp
 cases q:h.get? b with
 | none=>rw[q] at e;cases e
 | some o =>
  rw[q] at e
  have e':(b,o)=p:=BW e
  subst e'
  exact ⟨hb,q⟩
theorem Inv.pinned {pins:List (Addr×Obj)}{σ:St}{H:Hp}{s:Bi}{fp:List Addr}(I:Inv X pins σ H s)(hf:∀b∈fp,jO X pins H b)(ho:∀b∈fp,∃o,s.heap.get? b=some o/\∀v,o.data ≠ .cell v):Inv X (pins++gK fp s.heap) σ H s :=
 I.dW λp hp=>(BC.mp hp).elim (λz=>I.pin p (BO _ z)) λz=>by
  obtain ⟨hb,e⟩:=lN z
  obtain ⟨f0,f1,f2,_⟩:=hf p.1 hb
  obtain ⟨o,e',d⟩:=ho p.1 hb
  rw[e] at e';cases e'
  exact ⟨e,f0,f1,f2,d⟩
theorem Inv.dG {pins pl:List (Addr×Obj)}{σ:St}{H:Hp}{s:Bi}(I:Inv X (pins++pl) σ H s):Inv X pins σ H s:=I.dW λp hp=>I.pin p (BO _ (Eg _ hp))
theorem dA {iter:Expr}{body:List Stmt}{wi:TI}{g:TG}{tb:TS}{pos:Pos}(hp:PassesOwn (B1 X.prog X.w) X.A X.env X.xe)(hc:X.calm=true)(hi:PI X tg iter wi)(hg:PG X tg g)(hb:PSs X body tb)
  (hs:∀x,foldedSetIterable iter X.env x=pure x:=by intro _;rfl):PS X (.For tg iter body [] pos) (tFor wi g tb):=by
 intro pins s σ H D I h
 refine wpAny_For (thn (hi pins s σ H _ I h) λv s1 h1=>thn h1 λitv s2 h2 =>?_) hs
 obtain ⟨it,fp,tn,J,H2,e,I2,T,st2,f2,W,⟨m0,w0⟩,turn⟩:=h2
 subst e
 have stat:∀{H':Hp},(∀b∈fp,H' b=none)->∀b∈fp,jO X pins H' b:=λhn b hb=>⟨hn b hb,(f2 b hb).2⟩
 refine codeAny_forLoop_any (λn s'=>∃i σ' H',Inv X pins σ' H' s'/\tn i s'.heap/\(∀b∈fp,H' b=none)/\W i n σ' H') ?_ m0 ⟨0,σ,H2,I2,st2,λb hb=>(f2 b hb).1,w0⟩
 rintro n s3 ⟨i,σ3,H3,I3,st3,fr3,w3⟩
 rcases turn i n σ3 H3 w3 with ⟨stop,qn⟩ | ⟨go,N,hN,step⟩
 ·refine Eu hp (thn (T.done X rfl rfl rfl hc i pins s3 σ3 H3 X.xe I3 (stat fr3) st3 stop) λr s4 ⟨hr,I4⟩ =>?_)
  subst hr
  exact Gq ⟨σ3,H3,I4,qn⟩
 ·refine Eu hp (thn (T.item X rfl rfl rfl hc i pins s3 σ3 H3 X.xe I3 (stat fr3) st3 go) λr s4 ⟨u,hr,h4⟩ =>?_)
  subst hr
  refine Eu hp (thn h4 λ_ s5 ⟨x,H5,I5,r5,y5,st5,fr5⟩ =>?_)
  have I5':=I5.pinned (stat fr5) (T.obj _ _ st5)
  refine Eu hp (thn (hg _ s5 σ3 H5 x u _ I5' r5 (step x H5 y5)) λ_ s6 ⟨σ6,H6,I6,q6⟩ =>?_)
  refine Eu hp (thn (hb _ s6 σ6 H6 _ I6 q6) λf s7 q7 =>?_)
  have again:∀{σ7:St} {H7:Hp},Inv X (pins++gK fp s5.heap) σ7 H7 s7->N σ7 H7->∃m,m<n/\∃i σ' H',Inv X pins σ' H' s7/\tn i s7.heap/\(∀b∈fp,H' b=none)/\W i m σ' H':=λ{σ7 H7} I7 n7=>by
   obtain ⟨m',hm,w7⟩:=hN σ7 H7 n7
   refine ⟨m',hm,i+1,σ7,H7,I7.dG,T.keep _ _ _ st5 λb hb o e=>(I7.pin (b,o) (BO _ (BO _ (cZ hb e)))).1,λb hb =>?_,w7⟩
   obtain ⟨o,e,d⟩:=T.obj _ _ st5 b hb
   exact (I7.pin (b,o) (BO _ (BO _ (cZ hb e)))).2.1
  cases f with
  | next=>obtain ⟨σ7,H7,I7,n7⟩:=q7;exact again I7 n7
  | cont=>obtain ⟨σ7,H7,I7,n7⟩:=q7;exact again I7 n7
  | brk=>obtain ⟨σ7,H7,I7,q7⟩:=q7;exact ⟨σ7,H7,I7.dG,q7⟩
  | ret v=>obtain ⟨x7,σ7,H7,I7,r7,q7⟩:=q7;exact ⟨x7,σ7,H7,I7.dG,r7,q7⟩
end
theorem AI {K:Be}{a:Addr}{xs:List V}{g:TG}{tb:TS}{D:Ends}{σ:St}{H:Hp}(Pv:Nat->St->Hp->Prop)(h0:Pv 0 σ H)(hl:∀i σ H,i<=xs.length->Pv i σ H->SqL K H a xs)
  (hs:∀i x σ H,xs[i]? = some x->Pv i σ H->g x σ H λσ2 H2=>tb { D with nx:=Pv (i+1),ct:=Pv (i+1),bk:=D.nx } σ2 H2) (hd:∀σ H,Pv xs.length σ H->D.nx σ H) :
  ∃W:Nat->Nat->St->Hp->Prop,(∃m,W 0 m σ H)/\∀i m σ H,W i m σ H →
   ((Itl K a).stop i H/\D.nx σ H)\/((Itl K a).go i H/\∃N:St->Hp->Prop,(∀σ' H',N σ' H'->∃m',m'<m/\W (i+1) m' σ' H')/\∀x H',(Itl K a).yld i H x H'->g x σ H' λσ2 H2=>tb { D with nx:=N,ct:=N,bk:=D.nx } σ2 H2):=by
 refine ⟨λi m σ H=>m=xs.length-i/\i<=xs.length/\Pv i σ H,⟨xs.length,by simp,BU _,h0⟩,?_⟩
 rintro i m σ H ⟨rfl,hi,p⟩
 have q:=hl i σ H hi p
 by_cases hlt:i<xs.length
 ·refine .inr ⟨⟨xs,xs[i],q,by simp[hlt]⟩,Pv (i+1),λσ' H' p'=>⟨xs.length-(i+1),by omega,rfl,hlt,p'⟩,λx H' y =>?_⟩
  obtain ⟨e,y⟩:=y
  subst e
  exact hs i x σ _ (y xs q) p
 ·have e:i=xs.length:=by omega
  subst e
  exact .inl ⟨⟨xs,q,Bn _⟩,hd σ H p⟩
theorem sd {K:Be}{a:Addr}{xs:List V}{g:TG}{tb:TS}{D:Ends}{σ:St}{H:Hp}(Pv:Nat->St->Hp->Prop)(h0:Pv 0 σ H)(hl:∀i σ H,i<=xs.length->Pv i σ H->SqT K H a xs)
  (hs:∀i x σ H,xs[i]? = some x->Pv i σ H->g x σ H λσ2 H2=>tb { D with nx:=Pv (i+1),ct:=Pv (i+1),bk:=D.nx } σ2 H2) (hd:∀σ H,Pv xs.length σ H->D.nx σ H) :
  ∃W:Nat->Nat->St->Hp->Prop,(∃m,W 0 m σ H)/\∀i m σ H,W i m σ H →
   ((Itt K a).stop i H/\D.nx σ H)\/((Itt K a).go i H/\∃N:St->Hp->Prop,(∀σ' H',N σ' H'->∃m',m'<m/\W (i+1) m' σ' H')/\∀x H',(Itt K a).yld i H x H'->g x σ H' λσ2 H2=>tb { D with nx:=N,ct:=N,bk:=D.nx } σ2 H2):=by
 refine ⟨λi m σ H=>m=xs.length-i/\i<=xs.length/\Pv i σ H,⟨xs.length,by simp,BU _,h0⟩,?_⟩
 rintro i m σ H ⟨rfl,hi,p⟩
 have q:=hl i σ H hi p
 by_cases hlt:i<xs.length
 ·refine .inr ⟨⟨xs,xs[i],q,by simp[hlt]⟩,Pv (i+1),λσ' H' p'=>⟨xs.length-(i+1),by omega,rfl,hlt,p'⟩,λx H' y =>?_⟩
  obtain ⟨e,y⟩:=y
  subst e
  exact hs i x σ _ (y xs q) p
 ·have e:i=xs.length:=by omega
  subst e
  exact .inl ⟨⟨xs,q,Bn _⟩,hd σ H p⟩
theorem fY {lo:Int}{n:Nat}{g:TG}{tb:TS}{D:Ends}{σ:St}{H:Hp}(Pv:Nat->St->Hp->Prop)(h0:Pv 0 σ H)
  (hs:∀i σ H,i<n->Pv i σ H->g (.int (lo+i)) σ H λσ2 H2=>tb { D with nx:=Pv (i+1),ct:=Pv (i+1),bk:=D.nx } σ2 H2) (hd:∀σ H,Pv n σ H->D.nx σ H) :
  ∃W:Nat->Nat->St->Hp->Prop,(∃m,W 0 m σ H)/\∀i m σ H,W i m σ H →
   ((Itr lo n).stop i H/\D.nx σ H)\/((Itr lo n).go i H/\∃N:St->Hp->Prop,(∀σ' H',N σ' H'->∃m',m'<m/\W (i+1) m' σ' H')/\∀x H',(Itr lo n).yld i H x H'->g x σ H' λσ2 H2=>tb { D with nx:=N,ct:=N,bk:=D.nx } σ2 H2):=by
 refine ⟨λi m σ H=>m=n-i/\i<=n/\Pv i σ H,⟨n,by simp,BU _,h0⟩,?_⟩
 rintro i m σ H ⟨rfl,hi,p⟩
 by_cases hlt:i<n
 ·refine .inr ⟨hlt,Pv (i+1),λσ' H' p'=>⟨n-(i+1),by omega,rfl,hlt,p'⟩,λx H' y =>?_⟩
  obtain ⟨e,y⟩:=y
  subst e y
  exact hs i σ _ hlt p
 ·have e:i=n:=by omega
  subst e
  exact .inl ⟨Bn _,hd σ H p⟩
theorem vx {c:TT}{tb:TS}{D:Ends}{σ:St}{H:Hp}(Pv:St->Hp->Prop)(μ:St->Hp->Nat)(h0:Pv σ H)
  (hs:∀σ H,Pv σ H->c σ H λb H1=>if b=true then tb { D with nx:=λσ' H'=>Pv σ' H' /\ μ σ' H'<μ σ H,ct:=λσ' H'=>Pv σ' H' /\ μ σ' H'<μ σ H,bk:=D.nx } σ H1 else D.nx σ H1)
  (mono:∀σ H Q Q',(∀b H1,Q b H1->Q' b H1)->c σ H Q->c σ H Q'):vq c tb D σ H:=by
 refine ⟨λm σ H=>m=μ σ H/\Pv σ H,⟨_,rfl,h0⟩,?_⟩
 rintro m σ H ⟨rfl,p⟩
 refine mono σ H _ _ (λb H1 q =>?_) (hs σ H p)
 cases b with
 | true=>exact ⟨_,λσ' H' ⟨p',l⟩=>⟨_,l,rfl,p'⟩,q⟩
 | false=>exact q
open PySem PySem.Spec PyProof.Rows
abbrev R2:=V->V->Hp->VK->Prop
def OpR (X:Cx)(f:Bh->Bh->Sem Bh)(r:R2):Prop :=
 ∀(pins:List (Addr×Obj)) (s:Bi) (σ:St) (H:Hp) (x y:V) (v u:Bh) (Q:VK),Inv X pins σ H s->RelV x v->RelV y u->r x y H Q →
  BL (B1 X.prog X.w) X.A (f v u) (EP X pins σ Q) X.xe s
def UnR (X:Cx)(f:Bh->Sem Bh)(r:V->Hp->VK->Prop):Prop :=
 ∀(pins:List (Addr×Obj)) (s:Bi) (σ:St) (H:Hp) (x:V) (v:Bh) (Q:VK),Inv X pins σ H s->RelV x v->r x H Q →
  BL (B1 X.prog X.w) X.A (f v) (EP X pins σ Q) X.xe s
def cz (X:Cx)(f:Bh)(r:List V->Hp->VK->Prop):Prop :=
 ∀(pins:List (Addr×Obj)) (s:Bi) (σ:St) (H:Hp) (xs:List V) (us:List Bh) (Q:VK),Inv X pins σ H s->Vals xs us->r xs H Q →
  BL (B1 X.prog X.w) X.A (call f us) (EP X pins σ Q) X.xe s
def tOp (r:R2)(ta tb:TE):TE:=λσ H Q=>ta σ H λx H1=>tb σ H1 λy H2=>r x y H2 Q
def tUn (r:V->Hp->VK->Prop)(ta:TE):TE:=λσ H Q=>ta σ H λx H1=>r x H1 Q
def rI (C:Int->Int->Prop)(g:Int->Int->V):R2:=λx y H Q=>∃i j,x = .int i/\y = .int j/\C i j/\Q (g i j) H
def rI0 (g:Int->Int->V):R2:=λx y H Q=>∃i j,x = .int i/\y = .int j/\Q (g i j) H
def rU (g:Int->V):V->Hp->VK->Prop:=λx H Q=>∃i,x = .int i/\Q (g i) H
section
variable  {X:Cx}{a b c:Expr}{ta tb tc:TE}{pos:Pos}
theorem zq (ha:PE X a ta)(hb:PE X b tb){pins:List (Addr×Obj)}{s:Bi}{σ:St}{H:Hp}{R:V->V->Hp->Prop}(I:Inv X pins σ H s)
  (h:ta σ H λx H1=>tb σ H1 λy H2=>R x y H2) {Q:Bh->Bi->Prop} {f:Bh->Bh->Sem Bh}
  (hf:∀v u s2 x y H2,Inv X pins σ H2 s2->RelV x v->RelV y u->R x y H2->BL (B1 X.prog X.w) X.A (f v u) Q X.xe s2) :
  BL (B1 X.prog X.w) X.A (eval a X.env) (λv s₁=>BL (B1 X.prog X.w) X.A (eval b X.env) (λu s₂=>BL (B1 X.prog X.w) X.A (f v u) Q X.xe s₂) X.xe s₁) X.xe s:=by
 refine thn (ha pins s σ H _ I h) λv s1 ⟨x,H1,I1,r1,q1⟩ =>?_
 refine thn (hb pins s1 σ H1 _ I1 q1) λu s2 ⟨y,H2,I2,r2,q2⟩ =>?_
 exact hf v u s2 x y H2 I2 r1 r2 q2
theorem aQ {op:Operator}{r:R2}(ho:OpR X (binaryOp op) r)(ha:PE X a ta)(hb:PE X b tb):PE X (.BinOp a op b pos) (tOp r ta tb):=by
 intro pins s σ H Q I h
 exact wpAny_BinOp (zq ha hb I h λv u s2 x y H2 I2 rx ry q=>ho pins s2 σ H2 x y v u Q I2 rx ry q)
theorem vy {op:UnaryOp}{r:V->Hp->VK->Prop}(ho:UnR X (unaryOp op) r)(ha:PE X a ta):PE X (.UnaryOp op a pos) (tUn r ta):=by
 intro pins s σ H Q I h
 exact UnaryOp_ (thn (ha pins s σ H _ I h) λv s1 ⟨x,H1,I1,r1,q1⟩=>ho pins s1 σ H1 x v Q I1 r1 q1)
theorem opI {f:Bh->Bh->Sem Bh}{C:Int->Int->Prop}{g:Int->Int->Int}
  (rule:∀(i j:Int) (t u:Tok) (s:Bi) (Q:Bh->Bi->Prop) (E:Bh->Bi->Prop),C i j->Q (.int (g i j) s.toks) { s with toks:=s.toks+1 }->BL (B1 X.prog X.w) X.A (f (.int i t) (.int j u)) Q E s) :
  OpR X f (rI C λi j =>.int (g i j)):=by
 intro pins s σ H x y v u Q I rx ry h
 obtain ⟨i,j,rfl,rfl,hc,q⟩:=h
 obtain ⟨t,rfl⟩:=rx
 obtain ⟨t',rfl⟩:=ry
 exact rule i j t t' s _ _ hc ⟨.int (g i j),H,I.tok _,⟨_,rfl⟩,q⟩
theorem AJ {f:Bh->Bh->Sem Bh}{g:Int->Int->Int}
  (rule:∀(i j:Int) (t u:Tok) (s:Bi) (Q:Bh->Bi->Prop) (E:Bh->Bi->Prop),Q (.int (g i j) s.toks) { s with toks:=s.toks+1 }->BL (B1 X.prog X.w) X.A (f (.int i t) (.int j u)) Q E s) :
  OpR X f (rI0 λi j =>.int (g i j)):=by
 intro pins s σ H x y v u Q I rx ry h
 obtain ⟨i,j,rfl,rfl,q⟩:=h
 obtain ⟨t,rfl⟩:=rx
 obtain ⟨t',rfl⟩:=ry
 exact rule i j t t' s _ _ ⟨.int (g i j),H,I.tok _,⟨_,rfl⟩,q⟩
theorem xB {f:Bh->Bh->Sem Bh}{g:Int->Int->Bool}
  (rule:∀(i j:Int) (t u:Tok) (s:Bi) (Q:Bh->Bi->Prop) (E:Bh->Bi->Prop),Q (.bool (g i j)) s->BL (B1 X.prog X.w) X.A (f (.int i t) (.int j u)) Q E s) :
  OpR X f (rI0 λi j =>.bl (g i j)):=by
 intro pins s σ H x y v u Q I rx ry h
 obtain ⟨i,j,rfl,rfl,q⟩:=h
 obtain ⟨t,rfl⟩:=rx
 obtain ⟨t',rfl⟩:=ry
 exact rule i j t t' s _ _ ⟨.bl (g i j),H,I,rfl,q⟩
def CDiv (i j:Int):Prop:=0<j/\j<1073741824
def CPow (i j:Int):Prop:=0<=j/\j<=1000000/\i.natAbs<2 ^ 64
def zt (i j:Int):Prop:=(-(2 ^ 64)<i/\i<2 ^ 64)\/(-(2 ^ 64)<j/\j<2 ^ 64)
theorem zt.ok {i j:Int}(h:zt i j):IntMulOk i j:=by
 rcases h with ⟨h1,h2⟩ | ⟨h1,h2⟩
 ·exact .of_left (intBits_le_64 h1 h2)
 ·exact .of_right (intBits_le_64 h1 h2)
theorem da:OpR X (binaryOp .Add) (rI0 λi j =>.int (i+j)):=AJ λ_ _ _ _ _ _ _ q=>add_int q
theorem m9:OpR X (binaryOp .Sub) (rI0 λi j =>.int (i-j)):=AJ λ_ _ _ _ _ _ _ q=>sub_int q
theorem jP:OpR X (binaryOp .Mult) (rI zt λi j =>.int (i*j)):=opI λ_ _ _ _ _ _ _ hc q=>mul_int q hc.ok
theorem se:OpR X (binaryOp .FloorDiv) (rI CDiv λi j =>.int (i/j)):=opI λi j _ _ _ _ _ hc q=>by
 have h1:(0:Int)<j:=hc.1
 have h2:j<1073741824:=hc.2
 exact floordiv_int (by omega) (by rw[Gu i (by omega)];exact q) (.inl (PyProof.noPylong_small (by omega)))
theorem iO:OpR X (binaryOp .Mod) (rI (λ_ j=>0<j) λi j =>.int (i%j)):=opI λi j _ _ _ _ _ hc q=>by
 have h1:(0:Int)<j:=hc
 exact mod_int' (by omega) (by rw[Int.fmod_eq_emod_of_nonneg i (by omega)];exact q)
theorem vz:OpR X (binaryOp .Pow) (rI CPow λi j =>.int (i ^ j.toNat)):=opI λ_ _ _ _ _ _ _ hc q=>pow_int_small hc.1 hc.2.1 hc.2.2 q
theorem unI {f:Bh->Sem Bh}{g:Int->Int}
  (rule:∀(i:Int) (t:Tok) (s:Bi) (Q:Bh->Bi->Prop) (E:Bh->Bi->Prop),Q (.int (g i) s.toks) { s with toks:=s.toks+1 }->BL (B1 X.prog X.w) X.A (f (.int i t)) Q E s) :
  UnR X f (rU λi =>.int (g i)):=by
 intro pins s σ H x v Q I rx h
 obtain ⟨i,rfl,q⟩:=h
 obtain ⟨t,rfl⟩:=rx
 exact rule i t s _ _ ⟨.int (g i),H,I.tok _,⟨_,rfl⟩,q⟩
theorem qy:UnR X (unaryOp .USub) (rU λi =>.int (-i)):=unI λ_ _ _ _ _ q=>neg_int q
end
def AK:V->V->Bool
 | .non,.non=>true | .non,.int _=>true | .int _,.non=>true | .non,.bl _=>true | .bl _,.non=>true | .non,.str _=>true | .str _,.non=>true
 | .int _,.int _=>true | .bl _,.bl _=>true | .str _,.str _=>true | .byt _,.byt _=>true
 | .int _,.str _=>true | .str _,.int _=>true | .bl _,.str _=>true | .str _,.bl _=>true
 | _,_=>false
def rEq:R2:=λx y H Q=>AK x y=true/\Q (.bl (decide (x=y))) H
def rNe:R2:=λx y H Q=>AK x y=true/\Q (.bl (!decide (x=y))) H
theorem sf {i j:Int}:decide (V.int i=V.int j)=(i == j):=by
 rw[CO]
 simp
theorem vA {i j:Bool}:decide (V.bl i=V.bl j)=(i == j):=by
 rw[CO]
 simp
theorem sg {i j:Str}:decide (V.str i=V.str j)=(i == j):=by
 rw[CO]
 simp
theorem si {i j:Array UInt8}:decide (V.byt i=V.byt j)=(i.toList == j.toList):=by
 rw[CO]
 cases i
 cases j
 simp
section
variable  {X:Cx}{a b c:Expr}{ta tb tc:TE}{pos:Pos}
theorem aR {pins:List (Addr×Obj)}{σ:St}{H:Hp}{s:Bi}{Q:VK}{k k':Bool}(I:Inv X pins σ H s)(q:Q (.bl k) H)(e:k=k'):EP X pins σ Q (.bool k') s:=by
 subst e
 exact ⟨.bl k,H,I,rfl,q⟩
theorem bZ:OpR X (CV .Eq) rEq:=by
 intro pins s σ H x y v u Q I rx ry h
 obtain ⟨hs,q⟩:=h
 cases x with
 | non =>
  cases rx
  cases y with
  | non=>cases ry;exact PySem.EqNone.eq_none_none (aR I q (by simp))
  | bl j=>cases ry;exact PySem.EqNone.eq_none_bool (aR I q (by simp))
  | int j=>obtain ⟨t',rfl⟩:=ry;exact PySem.EqNone.eq_none_int (aR I q (by simp))
  | str j=>obtain ⟨t',rfl⟩:=ry;exact PySem.EqNone.eq_none_str (aR I q (by simp))
  | _=>exact absurd (show false=true from hs) Bo
 | bl i =>
  cases rx
  cases y with
  | non=>cases ry;exact PySem.EqNone.eq_bool_none (aR I q (by simp))
  | bl j=>cases ry;exact eq_bool (aR I q vA)
  | str j=>obtain ⟨t',rfl⟩:=ry;exact JD (aR I q (by simp))
  | _=>exact absurd (show false=true from hs) Bo
 | int i =>
  obtain ⟨t,rfl⟩:=rx
  cases y with
  | non=>cases ry;exact PySem.EqNone.eq_int_none (aR I q (by simp))
  | int j=>obtain ⟨t',rfl⟩:=ry;exact eq_int (aR I q sf)
  | str j=>obtain ⟨t',rfl⟩:=ry;exact JK (aR I q (by simp))
  | _=>exact absurd (show false=true from hs) Bo
 | str i =>
  obtain ⟨t,rfl⟩:=rx
  cases y with
  | non=>cases ry;exact PySem.EqNone.eq_str_none (aR I q (by simp))
  | bl j=>cases ry;exact JE (aR I q (by simp))
  | int j=>obtain ⟨t',rfl⟩:=ry;exact JL (aR I q (by simp))
  | str j=>obtain ⟨t',rfl⟩:=ry;exact eq_str (aR I q sg)
  | _=>exact absurd (show false=true from hs) Bo
 | byt i =>
  obtain ⟨t,rfl⟩:=rx
  cases y with
  | byt j=>obtain ⟨t',rfl⟩:=ry;exact PySem.W.eq_bytes (aR I q si)
  | _=>exact absurd (show false=true from hs) Bo
 | _=>cases y <;> exact absurd (show false=true from hs) Bo
theorem AL:OpR X (CV .NotEq) rNe:=by
 intro pins s σ H x y v u Q I rx ry h
 obtain ⟨hs,q⟩:=h
 cases x with
 | non =>
  cases rx
  cases y with
  | non=>cases ry;exact PySem.EqNone.ne_none_none (aR I q (by simp))
  | bl j=>cases ry;exact PySem.EqNone.ne_none_bool (aR I q (by simp))
  | int j=>obtain ⟨t',rfl⟩:=ry;exact PySem.EqNone.ne_none_int (aR I q (by simp))
  | str j=>obtain ⟨t',rfl⟩:=ry;exact PySem.EqNone.ne_none_str (aR I q (by simp))
  | _=>exact absurd (show false=true from hs) Bo
 | bl i =>
  cases rx
  cases y with
  | non=>cases ry;exact PySem.EqNone.ne_bool_none (aR I q (by simp))
  | bl j=>cases ry;exact ne_bool (aR I q (congrArg not vA))
  | str j=>obtain ⟨t',rfl⟩:=ry;exact JF (aR I q (by simp))
  | _=>exact absurd (show false=true from hs) Bo
 | int i =>
  obtain ⟨t,rfl⟩:=rx
  cases y with
  | non=>cases ry;exact PySem.EqNone.ne_int_none (aR I q (by simp))
  | int j=>obtain ⟨t',rfl⟩:=ry;exact ne_int (aR I q (congrArg not sf))
  | str j=>obtain ⟨t',rfl⟩:=ry;exact JM (aR I q (by simp))
  | _=>exact absurd (show false=true from hs) Bo
 | str i =>
  obtain ⟨t,rfl⟩:=rx
  cases y with
  | non=>cases ry;exact PySem.EqNone.ne_str_none (aR I q (by simp))
  | bl j=>cases ry;exact JG (aR I q (by simp))
  | int j=>obtain ⟨t',rfl⟩:=ry;exact JN (aR I q (by simp))
  | str j=>obtain ⟨t',rfl⟩:=ry;exact ne_str (aR I q (congrArg not sg))
  | _=>exact absurd (show false=true from hs) Bo
 | byt i =>
  obtain ⟨t,rfl⟩:=rx
  cases y with
  | byt j=>obtain ⟨t',rfl⟩:=ry;exact PySem.W.ne_bytes (aR I q (congrArg not si))
  | _=>exact absurd (show false=true from hs) Bo
 | _=>cases y <;> exact absurd (show false=true from hs) Bo
theorem sj:OpR X (CV .Lt) (rI0 λi j =>.bl (decide (i<j))):=xB λ_ _ _ _ _ _ _ q=>lt_int q
theorem vB:OpR X (CV .LtE) (rI0 λi j =>.bl (decide (i<=j))):=xB λ_ _ _ _ _ _ _ q=>le_int q
theorem sk:OpR X (CV .Gt) (rI0 λi j =>.bl (decide (j<i))):=xB λ_ _ _ _ _ _ _ q=>gt_int q
theorem AM:OpR X (CV .GtE) (rI0 λi j =>.bl (decide (j<=i))):=xB λ_ _ _ _ _ _ _ q=>ge_int q
theorem xC:OpR X (CV .IsNot) (λx y H Q=>y = .non/\Q (.bl (!decide (x = .non))) H):=by
 intro pins s σ H x y v u Q I rx ry h
 obtain ⟨rfl,q⟩:=h
 cases ry
 refine isnot_none_gen (aR I q ?_)
 cases x <;> first
  | (cases rx;rfl)
  | (obtain ⟨t,rfl⟩:=rx;rfl)
theorem aN (b:Expr){op:CmpOp}(h:op ≠ .In:=by decide)(h2:op ≠ .NotIn:=by decide):behindInMarks op b=false:=by
 have e1:(op == CmpOp.In)=false:=by cases op <;> first | rfl | exact absurd rfl h
 have e2:(op == CmpOp.NotIn)=false:=by cases op <;> first | rfl | exact absurd rfl h2
 cases b <;> simp[behindInMarks,e1,e2]
theorem cR {op:CmpOp}{r:R2}(ho:OpR X (CV op) r)(ha:PE X a ta)(hb:PE X b tb)(hm:behindInMarks op b=false):PE X (.Compare a [op] [b] pos) (tOp r ta tb):=by
 intro pins s σ H Q I h
 exact wpAny_Compare1 (zq ha hb I h λv u s2 x y H2 I2 rx ry q=>ho pins s2 σ H2 x y v u Q I2 rx ry q) hm
def AN (t:TE):TT:=λσ H Q=>t σ H λx H'=>∃k,x = .bl k/\Q k H'
theorem aF {op:CmpOp}{r:R2}(ho:OpR X (CV op) r)(ha:PE X a ta)(hb:PE X b tb)(hm:behindInMarks op b=false):PT X (.Compare a [op] [b] pos) (AN (tOp r ta tb)):=by
 intro pins s σ H Q I h
 refine HD (thn (ha pins s σ H _ I h) λv s1 ⟨x,H1,I1,r1,q1⟩=>thn (hb pins s1 σ H1 _ I1 q1) λu s2 ⟨y,H2,I2,r2,q2⟩ =>
  thn (ho pins s2 σ H2 x y v u _ I2 r1 r2 q2) λc s3 ⟨z,H3,I3,r3,k,e,q3⟩ =>?_) hm
 subst e
 cases r3
 exact C7 ⟨H3,I3,q3⟩
def zu (r r':R2)(ta tb tc:TE):TE:=λσ H Q=>ta σ H λx H1=>tb σ H1 λy H2=>r x y H2 λz H3=>∃k,z = .bl k ∧
 (if k=true then tc σ H3 λw' H4=>r' y w' H4 Q else Q (.bl false) H3)
theorem vC {op op':CmpOp}{r r':R2}(ho:OpR X (CV op) r)(ho':OpR X (CV op') r')(ha:PE X a ta)(hb:PE X b tb)(hc:PE X c tc)
  (hm:lastMarks [op,op'] [b,c]=false:=by with_unfolding_all rfl):PE X (.Compare a [op,op'] [b,c] pos) (zu r r' ta tb tc):=by
 intro pins s σ H Q I h
 refine Compare_chain (thn (ha pins s σ H _ I h) λv s1 ⟨x,H1,I1,r1,q1⟩=>chain_link (thn (hb pins s1 σ H1 _ I1 q1) λu s2 ⟨y,H2,I2,r2,q2⟩ =>
  thn (ho pins s2 σ H2 x y v u _ I2 r1 r2 q2) λd s3 ⟨z,H3,I3,r3,k,e,q3⟩ =>?_)) hm
 subst e
 cases r3
 refine C7 ?_
 cases k with
 | false=>exact ite_ff ⟨.bl false,H3,I3,rfl,q3⟩
 | true=>exact ite_tt (chain_last (thn (hc pins s3 σ H3 _ I3 q3) λw' s4 ⟨z',H4,I4,r4,q4⟩=>ho' pins s4 σ H4 y z' u w' Q I4 r2 r4 q4))
theorem ng:(BJ:Nat)<2 ^ 63:=by rw[Hf];decide
theorem vals1 {x:V}{us:List Bh}(r:Vals [x] us):∃u,us=[u]/\RelV x u:=by
 cases r with
 | cons r1 r2=>cases r2;exact ⟨_,rfl,r1⟩
theorem vals2 {x y:V}{us:List Bh}(r:Vals [x,y] us):∃u w',us=[u,w']/\RelV x u/\RelV y w':=by
 cases r with
 | cons r1 r2 =>
  cases r2 with
  | cons r3 r4=>cases r4;exact ⟨_,_,rfl,r1,r3⟩
theorem fZ (hc:X.calm=true):cz X (.builtin "max") (λxs H Q=>∃i j,xs=[.int i,.int j]/\Q (.int (if j>i then j else i)) H):=by
 intro pins s σ H xs us Q I r h
 obtain ⟨i,j,rfl,q⟩:=h
 obtain ⟨u,w',rfl,⟨t,rfl⟩,⟨t',rfl⟩⟩:=vals2 r
 refine max_two_ints (I.ok.hd hc) λh' tk k=>⟨_,H,I.kept k,?_,q⟩
 by_cases hj:j>i
 ·rw[if_pos hj,if_pos hj];exact ⟨_,rfl⟩
 ·rw[if_neg hj,if_neg hj];exact ⟨_,rfl⟩
theorem cY (hc:X.calm=true):cz X (.builtin "min") (λxs H Q=>∃i j,xs=[.int i,.int j]/\Q (.int (if j<i then j else i)) H):=by
 intro pins s σ H xs us Q I r h
 obtain ⟨i,j,rfl,q⟩:=h
 obtain ⟨u,w',rfl,⟨t,rfl⟩,⟨t',rfl⟩⟩:=vals2 r
 refine min_two_ints (I.ok.hd hc) λh' tk k=>⟨_,H,I.kept k,?_,q⟩
 by_cases hj:j<i
 ·rw[if_pos hj,if_pos hj];exact ⟨_,rfl⟩
 ·rw[if_neg hj,if_neg hj];exact ⟨_,rfl⟩
end
open PySem PySem.Spec PyProof.Rows
section
variable  {prog:BD}{w:Cb}{A:B9}{E:Bh->Bi->Prop}{s:Bi}{K:Be}{x dx C f:Addr}{mA:Str->Option Bh}{name:Str}{v:Bh}
end
theorem jq.some_of {v:V}{o:Option Bh}(r:jq (some v) o):∃u,o=some u/\RelV v u:=by
 cases o with
 | none=>exact (show False from r).elim
 | some u=>exact ⟨u,rfl,r⟩
section
variable  {P:BD}{w:Cb}{H H':Hp}{h h':Heap}{a C dx:Addr}{fs fs':List (Str×V)}
end
section
variable  {X:Cx}{pins:List (Addr×Obj)}{σ:St}{H:Hp}{s:Bi}{a C dx:Addr}{fs:List (Str×V)}{f:Str}{v:V}{A:B9}{E:Bh->Bi->Prop}
end
section
variable  {X:Cx}{o e value:Expr}{f:Str}{pos pos' tpos:Pos}{ta tv:TE}
end
section
variable  {X:Cx}{pins:List (Addr×Obj)}{σ:St}{H:Hp}{s:Bi}{A:B9}{E:Bh->Bi->Prop}{Q:Bh->Bi->Prop}{c:Bh}{b:Bool}
end
open PySem PySem.Spec PyProof.Rows
structure bL (k:Nat)(A:B9):Prop where
 hd:A.handled=none
 dp:A.depth+3*k+5<recursionLimit
 un:A.units+16*k+200<cLine
theorem bL.mono {j k:Nat}{A:B9}(r:bL k A)(h:j<=k):bL j A:=⟨r.hd,by have:=r.dp;omega,by have:=r.un;omega⟩
theorem bL.deeper {k:Nat}{A:B9}(r:bL (k+1) A)(env:Env):bL k (A.deeper env) :=
 ⟨r.hd,by have:=r.dp;show A.depth+1+3*k+5<_;omega,by have:=r.un;show A.units+3+16*k+200<_;omega⟩
theorem bL.in1 {k:Nat}{A:B9}(r:bL (k+1) A):bL k A.in1 :=
 ⟨r.hd,by have:=r.dp;show A.depth+3*k+5<_;omega,by have:=r.un;show A.units+1+16*k+200<_;omega⟩
theorem bL.depth {k:Nat}{A:B9}(r:bL k A):A.depth<recursionLimit:=by have:=r.dp;omega
theorem bL.units {k:Nat}{A:B9}(r:bL k A):A.units+64<cLine:=by have:=r.un;omega
theorem bL.zv {k:Nat}{A:B9}(r:bL k A):A.units<cLine:=by have:=r.un;omega
def tNil:TA:=λ_ H Q=>Q [] H
def AO (ta:TE)(tr:TA):TA:=λσ H Q=>ta σ H λx H1=>tr σ H1 λxs H2=>Q (x :: xs) H2
section
variable  {X:Cx}{e:Expr}{es:List Expr}{te:TE}{t:TA}{pos:Pos}
theorem ag:PA X [] tNil:=λ_ _ _ _ H Q I h=>GS ⟨[],H,I,.nil,h⟩
theorem aa (ha:PE X e te)(hr:PA X es t)(hs:Ce (e :: es) X.env=(false,eval e X.env) :: Ce es X.env:=by rfl):PA X (e :: es) (AO te t):=by
 intro pos pins s σ H Q I h
 rw[hs]
 show BL _ _ (spliced ((false,eval e X.env) :: Fd pos (Ce es X.env))) _ _ s
 refine Fw (thn (ha pins s σ H _ I h) λu s1 ⟨x,H1,I1,r1,q1⟩ =>?_)
 exact thn (hr pos pins s1 σ H1 _ I1 q1) λus s2 ⟨xs,H2,I2,r2,q2⟩=>⟨x :: xs,H2,I2,.cons r1 r2,q2⟩
def tTup (t:TA):TE:=λσ H Q=>t σ H λxs H1=>xs.length<=BJ/\∀p,H1 p=none->Q (.ref p) (upd H1 p (.tup xs))
def tLst (t:TA):TE:=λσ H Q=>t σ H λxs H1=>xs.length<=BJ/\∀p,H1 p=none->Q (.ref p) (upd H1 p (.lst xs))
theorem bh {x1}(h:PA X es t):PE X (.Tuple es x1 pos) (tTup t):=by
 intro pins s σ H Q I hq
 refine wpAny_Tuple_spliced (thn (h pos pins s σ H _ I hq) λus s1 ⟨xs,H1,I1,r,z,q⟩=>⟨by rw[<- r.length];exact z,?_⟩)
 have hf:H1 s1.heap.objs.size=none:=I1.hok.fresh (Bn _)
 refine ⟨.ref s1.heap.objs.size,upd H1 s1.heap.objs.size (.tup xs),I1.laid (t':=s1.toks) (λb u e=>Bf _ e) (Bn _) ?_,rfl,q _ hf⟩
 exact ⟨z,us,r,⟨_,Bp _ rfl,⟨rfl,rfl⟩,_,rfl⟩⟩
theorem cO (h:PA X es t):PE X (.List es pos) (tLst t):=by
 intro pins s σ H Q I hq
 refine wpAny_List_spliced (thn (h pos pins s σ H _ I hq) λus s1 ⟨xs,H1,I1,r,z,q⟩=>⟨by rw[<- r.length];exact z,?_⟩)
 have hf:H1 s1.heap.objs.size=none:=I1.hok.fresh (Bn _)
 refine ⟨.ref s1.heap.objs.size,upd H1 s1.heap.objs.size (.lst xs),I1.laid (t':=s1.toks) (λb u e=>Bf _ e) (Bn _) ?_,rfl,q _ hf⟩
 exact ⟨z,us,0,r,Bp _ rfl⟩
end
abbrev Sp:=List V->Hp->VK->XK->Prop
abbrev CXT:=List Env->Hp->Bi->XK->Bh->Bi->Prop
structure xD (P:BD)(w:Cb)(K:Be)(mg:Str->Option Bh)(base:Heap)(A:B9)(outer:List Env)(s:Bi)(H:Hp):Prop where
 frames:A.frames=some outer
 mod:Mod K mg base
 bs:∀b o,base.get? b=some o->s.heap.get? b=some o/\H b=none
 bsz:base.objs.size<=s.heap.objs.size
 funs:s.heap.FunFrames base outer
 frf:∀b∈frs outer,H b=none
 hok:HOk P w H s.heap
 bare:AllBare s.gens
def CE (outer:List Env)(P:BD)(w:Cb)(H:Hp)(s:Bi)(Q:VK)(u:Bh)(s':Bi):Prop :=
 ∃v H',s'.os=s.os/\AllBare s'.gens/\Un (frs outer) [] H H' s.heap s'.heap/\HOk P w H' s'.heap/\RelV v u/\Q v H'
def CR (CX:CXT)(outer:List Env)(P:BD)(w:Cb)(H:Hp)(s:Bi)(Q:VK)(E:XK)(r:Result)(s':Bi):Prop :=
 match r with
 | .ok (.ret u)=>CE outer P w H s Q u s'
 | .ok _=>False
 | .error e=>CX outer H s E e s'
structure bF (P:BD)(w:Cb)(K:Be)(mg:Str->Option Bh)(base:Heap)(CX:CXT)(k:Nat)(f:Addr)(fd:Cr)(ps:List Str)(sp:Sp):Prop where
 len:∀vs H Q E,sp vs H Q E->vs.length=ps.length
 run:∀(A:B9) (outer:List Env) (s:Bi) (H:Hp) (args:Args) (us:List Bh) (vs:List V) (Q:VK) (E:XK),bL k A->xD P w K mg base A outer s H->BindsTo s fd args (ps.zip us)->Vals vs us->sp vs H Q E →
  GR (B1 P w) A (.call (.ref f) args) (CR CX outer P w H s Q E) s
section
variable  {X:Cx}{pins:List (Addr×Obj)}{σ:St}{H:Hp}{s s':Bi}
theorem Inv.env0 (I:Inv X pins σ H s):xD X.prog X.w X.K X.mg X.base X.A X.stack s H :=
 ⟨I.ok.frames,I.ok.mod,I.bs,BS I.ok.bsz I.sz,I.stack,I.mY,I.hok,I.bare⟩
theorem Inv.after {Q:VK}{u:Bh}(I:Inv X pins σ H s)(h:CE X.stack X.prog X.w H s Q u s'):EP X pins σ Q u s':=by
 obtain ⟨v,H',os,bare,un,hok,r,q⟩:=h
 obtain ⟨hh,g,d,t,os'⟩:=s'
 obtain rfl:os'=s.os:=os
 exact ⟨v,H',I.call (h':=hh) (g':=g) (d':=d) (t':=t) (ch:=[]) un hok bare (λb z=>absurd z (by simp)),r,q⟩
end
def yT (sp:Sp)(dvs:List V)(E:XK)(t:TA):TE:=λσ H Q=>t σ H λvs H1=>sp (vs++dvs) H1 Q E
def Binds (K:Be)(fd:Cr)(ps:List Str)(ds:List Bh):Prop :=
 ∀(s:Bi) (us:List Bh),K.In s.heap->(us++ds).length=ps.length->BindsTo s fd ⟨us,[]⟩ (ps.zip (us++ds))
theorem Binds.all {K:Be}{fd:Cr}{ps:List Str}(h:∀us:List Bh,us.length=ps.length->bindArgs fd ⟨us,[]⟩=pure (ps.zip us)):Binds K fd ps []:=λs us _ hl=>by
 rw[Cf] at hl ⊢
 exact .of_eq (h us hl)
def Passes (CX:CXT)(X:Cx)(E:XK):Prop:=∀(pins:List (Addr×Obj)) (σ:St) (H:Hp) (s:Bi) (e:Bh) (s':Bi),Inv X pins σ H s->CX X.stack H s E e s'->X.xe e s'
section
variable  {X:Cx}{CX:CXT}{k:Nat}{f C:Addr}{fd:Cr}{ps:List Str}{sp:Sp}{dvs:List V}{ds:List Bh}{E:XK}{x m:Str}{p pos apos:Pos}{e o:Expr}{es:List Expr}{ta:TE}{t:TA}
theorem vD {pins:List (Addr×Obj)}{σ:St}{H:Hp}{s:Bi}{Q:VK}{us:List Bh}{vs:List V}(F:bF X.prog X.w X.K X.mg X.base CX k f fd ps sp)(hr:bL k X.A)(hb:Binds X.K fd ps ds)(hd:Vals dvs ds)(hx:Passes CX X E)
  (I:Inv X pins σ H s) (r:Vals vs us) (h:sp (vs++dvs) H Q E):BL (B1 X.prog X.w) X.A (call (.ref f) us) (EP X pins σ Q) X.xe s:=by
 have r2:Vals (vs++dvs) (us++ds):=r.append hd
 have hl:(us++ds).length=ps.length:=by rw[<- r2.length];exact F.len _ _ _ _ h
 refine IT (Fu (F.run X.A X.stack s H ⟨us,[]⟩ (us++ds) (vs++dvs) Q E hr I.env0 (hb s us I.kIn hl) r2 h) λr s' hq =>?_)
 cases r with
 | error e=>exact hx pins σ H s e s' I hq
 | ok fl =>
  cases fl with
  | ret u=>exact I.after hq
  | next=>exact False.elim hq
  | brk=>exact False.elim hq
  | cont=>exact False.elim hq
theorem xE (F:bF X.prog X.w X.K X.mg X.base CX k f fd ps sp)(hr:bL k X.A)(hg:Gl X x)(hm:X.mg x=some (.ref f))(hk:PySem.W.keepIn X.K (.ref f)=true)(hb:Binds X.K fd ps ds)(hd:Vals dvs ds)(hx:Passes CX X E)
  (ha:PA X (e :: es) t) (hdb:(x == ("__debug__" : Str))=false:=by decide) (he:Ce (e :: es) X.env=(false,eval e X.env) :: Ce es X.env:=by rfl) (hpl:(Fd pos (Ce es X.env)).any (·.1)=false:=by rfl) :
  PE X (.Call (.Name x p) (e :: es) [] pos) (yT sp dvs E t):=by
 intro pins s σ H Q I h
 refine DS (rY I hg hm ?_ hdb)
 refine Ii (h₀:=X.base) I.ok.mod.kin hk (thn (ha pos pins s σ H _ I h) λus s1 ⟨vs,H1,I1,r,q⟩=>⟨I1.kIn,?_⟩) he hpl
 exact vD F hr hb hd hx I1 r q
end
section
variable  {X:Cx}{CX:CXT}{k:Nat}{f C:Addr}{fd:Cr}{ps ks:List Str}{sp:Sp}{E:XK}{x m:Str}{p pos apos kpos:Pos}{e o:Expr}{es:List Expr}{kws:List Keyword}{te ta:TE}{t tk:TA}{nm:Option Str}
variable  {g:List Bh->List Bh->List Bh}{gV:List V->List V->List V}
end
structure aO (N P:List Str)(sc:Scope):Prop where
 kind:sc.kind = .function
 co:sc.isCoroutine=false
 gen:sc.isGenerator=false
 nd:N.Nodup
 pre:N.take P.length=P
 par:∀x∈P,sc.names.lookup x=some .local\/sc.names.lookup x=some .cell
 nofree:∀y∈sc.names,y.2 ≠ .free
theorem lO {kindOf:Str->Option NameKind}{x:Str}:∀{binds:List (Str×Bh)} {m:Str->Option Bh},(∀v,(x,v)∉binds)->bindL kindOf binds m x=m x
 | [],_,_=>rfl
 | (n,v) :: r,m,h=>by
  unfold bindL
  rw[lO λw hw=>h w (BG _ hw)]
  split
  ·have:x≠n:=by rintro rfl;exact h v Br
   simp[this]
  ·rfl
theorem lQ {kindOf:Str->Option NameKind}{x:Str}:∀{binds:List (Str×Bh)} {m:Str->Option Bh},(∀v,(x,v)∉binds)->bindC kindOf binds m x=m x
 | [],_,_=>rfl
 | (n,v) :: r,m,h=>by
  unfold bindC
  rw[lQ λw hw=>h w (BG _ hw)]
  split
  ·rfl
  ·have:x≠n:=by rintro rfl;exact h v Br
   simp[this]
theorem lR {kindOf:Str->Option NameKind}{x:Str}{v:Bh}:∀{P:List Str} {vs:List Bh} {i:Nat} {m:Str->Option Bh},P.Nodup->P[i]? = some x->vs[i]? = some v->kindOf x=some .local →
  bindL kindOf (P.zip vs) m x=some v
 | [],_,_,_,_,h,_,_=>by simp at h
 | _ :: _,[],_,_,_,_,h,_=>by simp at h
 | p :: P,w :: vs,0,m,nd,h1,h2,hk=>by
  simp at h1 h2;subst h1;subst h2
  show bindL kindOf ((p,w) :: P.zip vs) m p=_
  unfold bindL
  rw[lO λv hv=>(DM.mp nd).1 (Gg hv).1,if_pos hk]
  simp
 | p :: P,w :: vs,i+1,m,nd,h1,h2,hk=>by
  show bindL kindOf ((p,w) :: P.zip vs) m x=_
  unfold bindL
  exact lR (i:=i) (DM.mp nd).2 (by simpa using h1) (by simpa using h2) hk
theorem lT {kindOf:Str->Option NameKind}{x:Str}{v:Bh}:∀{P:List Str} {vs:List Bh} {i:Nat} {m:Str->Option Bh},P.Nodup->P[i]? = some x->vs[i]? = some v->kindOf x≠some .local →
  bindC kindOf (P.zip vs) m x=some v
 | [],_,_,_,_,h,_,_=>by simp at h
 | _ :: _,[],_,_,_,_,h,_=>by simp at h
 | p :: P,w :: vs,0,m,nd,h1,h2,hk=>by
  simp at h1 h2;subst h1;subst h2
  show bindC kindOf ((p,w) :: P.zip vs) m p=_
  unfold bindC
  rw[lQ λv hv=>(DM.mp nd).1 (Gg hv).1,if_neg hk]
  simp
 | p :: P,w :: vs,i+1,m,nd,h1,h2,hk=>by
  show bindC kindOf ((p,w) :: P.zip vs) m x=_
  unfold bindC
  exact lT (i:=i) (DM.mp nd).2 (by simpa using h1) (by simpa using h2) hk
def start (N:List Str)(vs:List V):St:=vs.map some++Ef (N.length-vs.length) none
def oA (CX:CXT)(P:BD)(w:Cb)(K:Be)(mg:Str->Option Bh)(base:Heap)(N:List Str)(qual:Str)(scope:Scope)(f:Addr)(cd:Bh)(A:B9)(outer:List Env)(s:Bi)(H:Hp)(E:XK):Cx where
 prog:=P
 w:=w
 K:=K
 mg:=mg
 base:=base
 A:=A.deeper (envOfC qual scope s.heap.objs.size f cd)
 N:=N
 s₀:=s
 H₀:=H
 env:=envOfC qual scope s.heap.objs.size f cd
 outer:=outer
 stack:=envOfC qual scope s.heap.objs.size f cd :: outer
 ex:=[]
 calm:=true
 fn:=λ_=>true
 pn:=[]
 xe:=λe s'=>BL (B1 P w) (A.deeper (envOfC qual scope s.heap.objs.size f cd)) (leaving (envOfC qual scope s.heap.objs.size f cd) e) (λ_ s''=>CX outer H s E e s'') (λe' s''=>CX outer H s E e' s'') s'
theorem oB {sc:Scope}{n:Nat}{x:Str}(h:sc.names.lookup x=some .cell):∃c,(cellsFrom n sc.names []).lookup x=some c:=by
 have q:=Hl sc.names n [] (.inl h)
 exact Fp.mp q
theorem ue {CX:CXT}{P:BD}{w:Cb}{K:Be}{mg:Str->Option Bh}{base:Heap}{N ps:List Str}{qual:Str}{scope:Scope}{f:Addr}{cd:Bh}{A:B9}{outer:List Env}{s s1:Bi}{H:Hp}{E:XK}{us:List Bh}{vs:List V}
  (S:aO N ps scope) (hd:A.handled=none) (e0:xD P w K mg base A outer s H) (hl:vs.length=ps.length) (r:Vals vs us)
  (x:InCallC s s.heap.objs.size (bindL (envOfC qual scope s.heap.objs.size f cd).kindOf (ps.zip us) λ_=>none) (cellsFrom (s.heap.objs.size+1) scope.names []) (bindC (envOfC qual scope s.heap.objs.size f cd).kindOf (ps.zip us) λ_=>none) s1) :
  Inv (oA CX P w K mg base N qual scope f cd A outer s H E) [] (start N vs) H s1:=by
 have hpl:ps.length<=N.length:=by have:=congrArg List.length S.pre;rw[CA] at this;omega
 obtain ⟨h1,tk,rfl,hk⟩:=x.done
 have noA:∀b:Addr,b∉(oA CX P w K mg base N qual scope f cd A outer s H E).ex:=λb z=>absurd (show b∈([]:List Addr) from z) (by simp)
 refine ⟨⟨e0.mod,S.kind,rfl,rfl,Bn _,λy z c h1 h2 =>?_,λy hy =>?_,λy c _ h =>?_,λ_=>hd,HJ e0.frames,.inr ⟨rfl,rfl⟩,λb z=>absurd z (noA b),e0.bs,e0.bsz,λb _ _=>noA b,λb z=>absurd z (noA b),e0.funs,e0.frf⟩,
  rfl,e0.bare,Un.kept hk,⟨_,x.toInCall.ns,λi y v h1 h2 h3 =>?_⟩,λy c h=>⟨_,x.cell y c h⟩,e0.hok.fresh (Bn _),λy c h =>?_,λp hp=>absurd (show p∈([]:List (Addr×Obj)) from hp) (by simp),e0.hok.kept hk,?_⟩
 ·exact name_of_addr x.apart (D2 h1) (D2 h2)
 ·have hy:scope.names.lookup y=some .cell\/scope.names.lookup y=some .free:=hy
  rcases hy with hy | hy
  ·exact oB hy
  ·exact absurd rfl (S.nofree _ (D2 hy))
 ·exact Fo (x.above y c (D2 h))
 ·have hi:i<vs.length:=by
   unfold start at h2
   by_cases hi:i<vs.length
   ·exact hi
   ·rw[DD (by simpa using hi)] at h2
    rw[List.getElem?_replicate] at h2
    split at h2 <;> cases h2
  have ha:vs[i]? = some v:=by
   unfold start at h2
   rw[DJ (by simpa using hi),BQ] at h2
   cases e:vs[i]? with
   | none=>rw[e] at h2;cases h2
   | some a=>rw[e] at h2;cases h2;rfl
  obtain ⟨u,hu,rv⟩:=r.get ha
  have hp:ps[i]? = some y:=by
   rw[<- S.pre,List.getElem?_take_of_lt (by omega)];exact h1
  have ndP:ps.Nodup:=by rw[<- S.pre];exact S.nd.sublist (CQ _ _)
  refine ⟨u,rv,?_⟩
  rcases S.par y (B4 hp) with k | k
  ·exact .inl ⟨k,lR ndP hp hu k⟩
  ·obtain ⟨c,e⟩:=oB (n:=s.heap.objs.size+1) k
   refine .inr ⟨.inl k,c,e,?_⟩
   have q:=x.cell y c e
   rw[lT ndP hp hu (by show scope.names.lookup y≠_;rw[k];decide)] at q
   exact q
 ·exact e0.hok.fresh (Fo (x.above y c (D2 h)))
 ·unfold start
  show _=N.length
  rw[Bj,Bg,List.length_replicate]
  omega
theorem yU {CX:CXT}{P:BD}{w:Cb}{K:Be}{mg:Str->Option Bh}{base:Heap}{k:Nat}{f:Addr}{name qual:Str}{params:Arguments}{body:List Stmt}{scope:Scope}{dV kV doc pm cdv ct oc:Bh}{an od:Option Addr}
  {osl:Array (Option Bh)} {N ps:List Str} {sp:Sp} (lk:K.lookup f=some ⟨oc,od,.func (PySem.W.fnOf name qual params body scope dV kV doc pm an cdv ct),osl⟩) (hcd:PySem.W.codeIn K cdv qual=true) (S:aO N ps scope)
  (len:∀vs H Q E,sp vs H Q E->vs.length=ps.length)
  (hbody:∀(A:B9) (outer:List Env) (s:Bi) (H:Hp) (vs:List V) (Q:VK) (E:XK),bL k (A.deeper (envOfC qual scope s.heap.objs.size f cdv))->sp vs H Q E →
   ∃t,PSs (oA CX P w K mg base N qual scope f cdv A outer s H E) body t/\t { nx:=λ_ H'=>Q .non H',rt:=Q } (start N vs) H) :
  bF P w K mg base CX (k+1) f (PySem.W.fnOf name qual params body scope dV kV doc pm an cdv ct) ps sp:=by
 refine ⟨len,λA outer s H args us vs Q E hr e0 hb r hsp =>?_⟩
 have hl:=len _ _ _ _ hsp
 have KX:K.In s.heap:=e0.mod.kin.keeps λb o e=>(e0.bs b o e).1
 have lim:s.heap.NoLimit:=e0.mod.nolimit.keeps λb o e=>(e0.bs b o e).1
 have hkind:∀y∈ps.zip us,scope.names.lookup y.1=some .local\/(scope.names.lookup y.1=some .cell/\((cellsFrom (s.heap.objs.size+1) scope.names []).lookup y.1).isSome=true):=λ⟨n,v⟩ hy=>by
  rcases S.par n (Gg hy).1 with q | q
  ·exact .inl q
  ·exact .inr ⟨q,Hl _ _ _ (.inl q)⟩
 refine codeAny_call_function hr.depth (KX _ _ lk) rfl S.co S.gen rfl (PySem.W.codeRec_of KX hcd) (hb _ _ _ _ ?_)
 refine wpAny_newFunctionEnv_cells S.kind hkind λenv he s1 x =>?_
 subst he
 refine ⟨lim.keeps x.toInCall.keep,codeAny_func ?_⟩
 obtain ⟨t,ht,hq⟩:=hbody A outer s H vs Q E (hr.deeper _) hsp
 have I:Inv (oA CX P w K mg base N qual scope f cdv A outer s H E) [] (start N vs) H s1:=ue S hr.hd e0 hl r x
 refine Dg (ht [] s1 (start N vs) H _ I hq) (λfl s' hs =>?_) λe s' hs=>hs
 have fin:∀{σ':St} {H':Hp} {v:V} {u:Bh},Inv (oA CX P w K mg base N qual scope f cdv A outer s H E) [] σ' H' s'->RelV v u->Q v H'->CE outer P w H s Q u s' :=
  λ{σ' H' v u} J rv q=>⟨v,H',J.os,J.bare,J.base,J.hok,rv,q⟩
 cases fl with
 | ret u =>
  obtain ⟨v,σ',H',J,rv,q⟩:=hs
  exact fin J rv q
 | next =>
  obtain ⟨σ',H',J,q⟩:=hs
  exact fin (v:=V.non) (u:=DI) J rfl q
 | brk =>
  obtain ⟨_,_,_,q⟩:=hs
  exact False.elim q
 | cont =>
  obtain ⟨_,_,_,q⟩:=hs
  exact False.elim q
open PySem PySem.Spec PyProof.Rows
section
variable  {X:Cx}{x:Str}{p pos:Pos}{e:Expr}{es:List Expr}{t:TA}{id T:String}{r:List V->Hp->VK->Prop}
def tCB (r:List V->Hp->VK->Prop)(t:TA):TE:=λσ H Q=>t σ H λvs H1=>r vs H1 Q
theorem aD (hc:cz X (.builtin id) r)(hg:Gl X x)(hm:X.mg x=none)(hv:CM x=some (.builtin id))(ha:PA X (e :: es) t)(hn:x ≠ "__name__" := by decide)(hdb:(x == ("__debug__" : Str))=false:=by decide)
  (he:Ce (e :: es) X.env=(false,eval e X.env) :: Ce es X.env:=by rfl) (hpl:(Fd pos (Ce es X.env)).any (·.1)=false:=by rfl):PE X (.Call (.Name x p) (e :: es) [] pos) (tCB r t):=by
 intro pins s σ H Q I h
 refine DS (gH I hg hm hv ?_ hn hdb)
 exact PyProof.Rows.callWith_builtin1 (thn (ha pos pins s σ H _ I h) λus s1 ⟨vs,H1,I1,r1,q1⟩=>hc pins s1 σ H1 vs us Q I1 r1 q1) he hpl
theorem a7 (hc:cz X (.type T) r)(hg:Gl X x)(hm:X.mg x=none)(hv:CM x=some (.type T))(ha:PA X (e :: es) t)(hn:x ≠ "__name__" := by decide)(hdb:(x == ("__debug__" : Str))=false:=by decide)
  (he:Ce (e :: es) X.env=(false,eval e X.env) :: Ce es X.env:=by rfl) (hpl:(Fd pos (Ce es X.env)).any (·.1)=false:=by rfl):PE X (.Call (.Name x p) (e :: es) [] pos) (tCB r t):=by
 intro pins s σ H Q I h
 refine DS (gH I hg hm hv ?_ hn hdb)
 exact Dt (thn (ha pos pins s σ H _ I h) λus s1 ⟨vs,H1,I1,r1,q1⟩=>hc pins s1 σ H1 vs us Q I1 r1 q1) he hpl
end
end L2
namespace HT
open PySem PyProof.Rows
def lexLt:List Int->List Int->Bool
 | [],[]=>false
 | [],_ :: _=>true
 | _ :: _,[]=>false
 | x :: xs,y :: ys=>if x=y then lexLt xs ys else decide (x<y)
theorem aP (x y:Int)(xs ys:List Int):lexLt (x :: xs) (y :: ys)=if x=y then lexLt xs ys else decide (x<y):=rfl
theorem lh:lexLt [] []=false:=rfl
theorem jQ (y:Int)(ys:List Int):lexLt [] (y :: ys)=true:=rfl
theorem jR (x:Int)(xs:List Int):lexLt (x :: xs) []=false:=rfl
theorem oD (A:B9)(s:Bi)(a:Int)(t:Tok)(c:Int)(u:Tok):∃e,Ex A s (.int a t) (.int c u) e/\(e=true↔a=c) :=
 ⟨(a == c),D8 a t c u,by simp⟩
theorem jS (A:B9)(s:Bi)(a:Int)(t:Tok)(c:Int)(u:Tok)(prog:BD)(w:Cb)(E:Bh->Bi->Prop)(Q:Bh->Bi->Prop)(h:Q (.bool (decide (a<c))) s) :
  BL (B1 prog w) A (richCompare .Lt (.int a t) (.int c u)) Q E s :=
 (PyProof.Rows.lt_int h:BL (B1 prog w) A (CV .Lt (.int a t) (.int c u)) Q E s)
section
open PySem.SeqAt
open PySem.AutoSeq1 (wpAny_loadPart')
open PySem.MeetsSeq PySem.MeetsSeq2 PySem.MeetsSeq3
theorem lq (l b:Addr)(items items2:Array Bh)(n n2:Nat)(dd dd2:Option Addr)(sl sl2:Array (Option Bh))(ns ms:List Int)(hi:C8 items.toList ns)(hj:C8 items2.toList ms) :
  Meets (Builtin.«tuple.__lt__» ⟨[.ref l,.ref b],[]⟩)
   (λ_ R s=>s.heap.get? l=some { cls :=.type "tuple",dict:=dd,data :=.seq items n,slots:=sl }/\s.heap.get? b=some { cls :=.type "tuple",dict:=dd2,data :=.seq items2 n2,slots:=sl2 } ∧
    R (.ok (.ret (.bool (lexLt ns ms)))) s) :=
 .of_wp λprog w A R s h=>by
  obtain ⟨hp,g,d,tk,os⟩:=s;obtain ⟨hl,hb,h⟩:=h
  have f2:=GU
  have z1:items.size=ns.length:=by rw[<- hi.length];simp
  have z2:items2.size=ms.length:=by rw[<- hj.length];simp
  wp_walk using wpAny_loadPart' hl,wpAny_loadPart' hb,wpAny_forIn_list _ (λrest b s'=>b.1=none/\s'=⟨hp,g,d,tk,os⟩/\∃(vs ws:List Bh) (ns' ms':List Int),rest=vs.zip ws ∧
   C8 vs ns'/\C8 ws ms'/\ns'.length+items2.size=ms'.length+items.size/\R (.ok (.ret (.bool (lexLt ns' ms')))) ⟨hp,g,d,tk,os⟩) _
  case turn =>
   rintro ⟨y,x⟩ rest b s' ⟨hb',rfl,vs,ws,ns',ms',hz,hvi,hwi,hlen,hR⟩
   cases hvi with
   | nil=>rw[IJ] at hz;cases hz
   | cons a t hvi' =>
    cases hwi with
    | nil=>rw[Ij] at hz;cases hz
    | cons c u hwi' =>
     rw[Du] at hz
     injection hz with hyx hrest
     injection hyx with hy hx
     subst hy hx
     rw[aP] at hR
     simp only[Bs] at hlen
     obtain ⟨e,he,hiff⟩:=oD A.in1 ⟨hp,g,d,tk,os⟩ a t c u
     refine Bd (he prog w _ _ ?_)
     cases e with
     | true =>
      rw[if_pos (hiff.mp rfl)] at hR
      wp_walk
      exact ⟨rfl,rfl,_,_,_,_,hrest,hvi',hwi',by omega,hR⟩
     | false =>
      rw[if_neg (λq=>absurd (hiff.mpr q) Bo)] at hR
      have hri:=jS A.in1 ⟨hp,g,d,tk,os⟩ a t c u prog w
      wp_walk using hri
      exact ⟨_,rfl,by simpa using hR⟩
  case fin =>
   rintro ⟨b1,b2⟩ s' ⟨hb',rfl,vs,ws,ns',ms',hz,hvi,hwi,hlen,hR⟩
   simp only at hb'
   subst hb'
   have hv:lexLt ns' ms'=decide (items.size<items2.size):=by
    cases hvi with
    | nil =>
     cases hwi with
     | nil =>
      simp only[Cq] at hlen
      rw[lh]
      exact (decide_eq_false (by omega)).symm
     | cons c u hw =>
      simp only[Cq,Bs] at hlen
      rw[jQ]
      exact (decide_eq_true (by omega)).symm
    | cons a t hv =>
     cases hwi with
     | nil =>
      simp only[Cq,Bs] at hlen
      rw[jR]
      exact (decide_eq_false (by omega)).symm
     | cons c u hw =>
      rw[Du] at hz
      cases hz
   rw[hv] at hR
   wp_walk
   exact ⟨_,rfl,by simpa [Builtin.Tuple.tupleCompareSizes] using hR⟩
  case h =>
   exact ⟨rfl,rfl,items.toList,items2.toList,ns,ms,rfl,hi,hj,by omega,h⟩
end
section
variable  {prog:BD}{w:Cb}{A:B9}{E:Bh->Bi->Prop}{s:Bi}
theorem jT {l b:Addr}{items items2:Array Bh}{ns ms:List Int}{Q:Bh->Bi->Prop}(hl:IsTup s.heap l items)(hb:IsTup s.heap b items2)(hi:C8 items.toList ns)(hj:C8 items2.toList ms)
  (hu:A.units<cLine) (h:Q (.bool (lexLt ns ms)) s):BL (B1 prog w) A (CV .Lt (.ref l) (.ref b)) Q E s:=by
 obtain ⟨⟨cls,dd,data,sl⟩,ho,hc,n,hd⟩:=id hl
 obtain ⟨⟨cls2,dd2,data2,sl2⟩,ho2,hc2,n2,hd2⟩:=id hb
 simp only at hc hd hc2 hd2
 subst hc hd hc2 hd2
 exact DE (op :=.Lt) ⟨_,ho,rfl⟩ ⟨_,ho2,rfl⟩ PySem.F.slot_tuple_lt PySem.F.entry_tuple_lt (PySem.F.args_tuple_lt_2 _ _) (lq l b items items2 n n2 dd dd2 sl sl2 ns ms hi hj)
  ⟨ho,ho2,show Value.bool (lexLt ns ms)≠Value.notImplemented/\Q (.bool (lexLt ns ms)) s from ⟨(λx=>nomatch x),h⟩⟩ hu
theorem xF {t b:Addr}{vs ws:List Bh}{Q:Bh->Bi->Prop}(ht:IsTup s.heap t vs.toArray)(hb:IsTup s.heap b ws.toArray)(hv:vs≠[])
  (h1:ws=[]->Q (.ref t) s) (h2:ws≠[]->Q (.ref s.heap.objs.size) { s with heap:=s.heap.push { cls :=.type "tuple",data :=.seq (vs++ws).toArray } })
  (hsz:vs.length+ws.length<=BJ):BL (B1 prog w) A (binaryOp .Add (.ref t) (.ref b)) Q E s:=by
 obtain ⟨⟨cls,dd,data,sl⟩,ho,hc,n,hd⟩:=id ht
 obtain ⟨⟨cls2,dd2,data2,sl2⟩,ho2,hc2,n2,hd2⟩:=id hb
 simp only at hc hd hc2 hd2
 subst hc hd hc2 hd2
 have e:vs.toArray++ws.toArray=(vs++ws).toArray:=by simp
 by_cases hw:ws=[]
 ·exact GB ⟨_,ho,rfl⟩ ⟨_,ho2,rfl⟩ F6 Hg EM Ez (Ej _ _)
   (tuple_addW1 t b vs.toArray ws.toArray n n2 dd dd2 sl sl2 (by simpa using hv) (by simp[hw])) ⟨ho,ho2,h1 hw⟩
 ·refine GB ⟨_,ho,rfl⟩ ⟨_,ho2,rfl⟩ F6 Hg EM Ez (Ej _ _)
   (tuple_addW2 t b vs.toArray ws.toArray n n2 dd dd2 sl sl2 (by simpa using hv) (by simpa using hw) (by rw[Bm,Bm];exact hsz)) ⟨ho,ho2,?_⟩
  rw[e]
  exact h2 hw
def sIx (n d:Nat):Option Int->Nat
 | none=>d
 | some v=>if v<0 then (v+(n:Int)).toNat else min v.toNat n
theorem zw (n d:Nat)(hd:d<=n)(o:Option Int):sIx n d o<=n:=by
 cases o with
 | none=>exact hd
 | some v =>
  show (if v<0 then (v+(n:Int)).toNat else min v.toNat n)<=n
  by_cases hv:v<0
  ·rw[if_pos hv];omega
  ·rw[if_neg hv];exact Nat.min_le_right _ _
theorem sq (v:Int)(n d:Nat):(if v<0 then max (v+(n:Int)) 0 else min v (n:Int))=((sIx n d (some v):Nat):Int):=by
 show (if v<0 then max (v+(n:Int)) 0 else min v (n:Int))=(((if v<0 then (v+(n:Int)).toNat else min v.toNat n):Nat):Int)
 by_cases hv:v<0
 ·simp only[if_pos hv];omega
 ·simp only[if_neg hv];omega
theorem qz (lo hi:Option Int)(n:Nat):Builtin.Slice.sliceAdjust lo hi 1 (n:Int)=(((sIx n 0 lo:Nat):Int),((sIx n n hi:Nat):Int)):=by
 have h1:¬ ((1:Int)<0):=by omega
 unfold Builtin.Slice.sliceAdjust
 simp only[h1,if_false]
 refine Ik ?_ ?_
 ·cases lo with
  | none=>rfl
  | some v=>exact sq v n 0
 ·cases hi with
  | none=>rfl
  | some v=>exact sq v n n
theorem qA (i j:Nat):Builtin.Slice.slicePlaces (i:Int) (j:Int) 1=j-i:=by
 unfold Builtin.Slice.slicePlaces
 have h1:(1:Int)>0:=by omega
 simp only[h1,if_true,Int.ediv_one]
 split <;> omega
theorem jU {v:Bh}{o:Option Int}{Q:Option Int->Bi->Prop}(p:IsPart v o)(h:Q o s):BL (B1 prog w) A (Builtin.Slice.slicePartIndex v) Q E s:=by
 cases p with
 | none=>exact GP h
 | int i t=>exact slicePart_int h
theorem dH {sl:Addr}{vl vu:Bh}{lo hi:Option Int}{n:Nat}{Q:Int×Int×Nat->Bi->Prop}(hs:s.heap.IsSliceOf sl vl vu .none)(pl:IsPart vl lo)(pu:IsPart vu hi)
  (h:Q (((sIx n 0 lo:Nat):Int),1,sIx n n hi-sIx n 0 lo) s):BL (B1 prog w) A (Builtin.Slice.sliceApplied (.ref sl) (pure (n:Int))) Q E s:=by
 obtain ⟨os,hos,hcs,hds⟩:=id hs
 unfold Builtin.Slice.sliceApplied Builtin.Slice.sliceFields
 refine Bd (Bd (C3 hos hds (x:=vl) rfl (Bd (C3 hos hds (x:=vu) rfl (Bd (C3 hos hds (x :=.none) rfl (Bk ?_)))))))
 refine Bd (GP ?_)
 show BL _ _ (if ((1:Int) == 0)=true then _ else _) _ _ s
 rw[if_neg (by decide)]
 refine Bd (jU pl (Bd (jU pu (Bd (Bk ?_)))))
 show BL _ _ (match Builtin.Slice.sliceAdjust lo hi 1 (n:Int) with | (lo,hi)=>pure (lo,(1:Int),Builtin.Slice.slicePlaces lo hi 1)) _ _ s
 rw[qz lo hi n]
 show BL _ _ (pure (((sIx n 0 lo:Nat):Int),(1:Int),Builtin.Slice.slicePlaces ((sIx n 0 lo:Nat):Int) ((sIx n n hi:Nat):Int) 1)) _ _ s
 rw[qA]
 exact Bk h
theorem vE (xs:Array Bh)(i k:Nat):((Cc k).filterMap λ(m:Nat)=>xs[((i:Int)+(m:Int)*1).toNat]?).toArray=((xs.toList.drop i).take k).toArray:=by
 have e:(λ(m:Nat)=>xs[((i:Int)+(m:Int)*1).toNat]?)=λm=>xs[i+m]? := by
  funext m
  have:((i:Int)+(m:Int)*1).toNat=i+m:=by omega
  rw[this]
 rw[e]
 have:=pick_run xs i k
 rw[List.filterMap_map] at this
 have e2:((λx=>xs[x]?) ∘ λx=>i+x)=λm=>xs[i+m]? := rfl
 rw[e2] at this
 rw[this]
theorem ib {t sl:Addr}{items:Array Bh}{vl vu:Bh}{lo hi:Option Int}{Q:Bh->Bi->Prop}(ht:IsTup s.heap t items)(hs:s.heap.IsSliceOf sl vl vu .none)(pl:IsPart vl lo)(pu:IsPart vu hi)
  (hw:¬ (sIx items.size 0 lo=0/\sIx items.size items.size hi=items.size))
  (h:Q (.ref s.heap.objs.size) { s with heap:=s.heap.push { cls :=.type "tuple",data :=.seq ((items.toList.drop (sIx items.size 0 lo)).take (sIx items.size items.size hi-sIx items.size 0 lo)).toArray } })
  (hsz:items.size<=BJ):BL (B1 prog w) A (getItem (.ref t) (.ref sl)) Q E s:=by
 have htake:sizeOk (.seq ((items.toList.drop (sIx items.size 0 lo)).take (sIx items.size items.size hi-sIx items.size 0 lo)).toArray):=by
  show ((items.toList.drop (sIx items.size 0 lo)).take (sIx items.size items.size hi-sIx items.size 0 lo)).toArray.size<=BJ
  rw[Bm,CA,DT,Bl]
  omega
 have hj:sIx items.size items.size hi<=items.size:=zw _ _ (Bn _) hi
 obtain ⟨os,hos,hcs,hds⟩:=id hs
 have hTs:s.TypeIs (.ref sl) "slice" :=⟨os,hos,hcs⟩
 unfold getItem
 try with_reducible refine CG ?_
 first | refine Bd (Bk ?_) | skip
 refine Bd (G1 ht.typeIs (by decide) ?_)
 refine Bd (Ct (name:=Str.ofString "__getitem__") ht.typeIs B3
  (Co B3 ht.typeIs entry_tuple_getitem ?_ (GC _ _)))
 show BL _ _ (Builtin.Tuple.tupleItemsOf (.ref t) >>= _) _ _ s
 refine Bd (ID ht ?_)
 refine Bd (Ec hTs ?_)
 rw[if_pos (by decide)]
 refine Bd (dH hs pl pu ?_)
 have hno:¬ ((((sIx items.size 0 lo:Nat):Int) == 0 && (1:Int) == 1 && (sIx items.size items.size hi-sIx items.size 0 lo) == items.size)=true):=by
  intro q
  rw[Cj,Cj] at q
  have q1:((sIx items.size 0 lo:Nat):Int)=0:=eq_of_beq q.1.1
  have q2:sIx items.size items.size hi-sIx items.size 0 lo=items.size:=eq_of_beq q.2
  exact hw ⟨by omega,by omega⟩
 show BL _ _ (if (((sIx items.size 0 lo:Nat):Int) == 0 && (1:Int) == 1 && (sIx items.size items.size hi-sIx items.size 0 lo) == items.size)=true then _ else _) _ _ s
 rw[if_neg hno,vE]
 first
  | exact Bd (m:=Builtin.Tuple.tupleExact _) (Ca (Bk ⟨_,rfl,Bk h⟩) htake)
  | exact Bd (m:=Builtin.Tuple.tupleExact _) (Ca (Bd (Bk (Bk ⟨_,rfl,Bk h⟩))) htake)
  | exact Bd (Bd (m:=Builtin.Tuple.tupleExact _) (Ca (Bk (Bk ⟨_,rfl,Bk h⟩)) htake))
  | exact Bd (Bd (m:=Builtin.Tuple.tupleExact _) (Ca (Bk ⟨_,rfl,Bk h⟩) htake))
end
end HT
namespace L2
open PySem PySem.Spec PyProof.Rows
abbrev TO:=St->Hp->(Option Int->Hp->Prop)->Prop
def PO (X:Cx)(e:Option Expr)(t:TO):Prop :=
 ∀(pins:List (Addr×Obj)) (s:Bi) (σ:St) (H:Hp) (Q:Option Int->Hp->Prop),Inv X pins σ H s->t σ H Q →
  BL (B1 X.prog X.w) X.A (evalPart e X.env) (λu s'=>∃o H',Inv X pins σ H' s'/\IsPart u o/\Q o H') X.xe s
def xG:TO:=λ_ H Q=>Q none H
def AQ (t:TE):TO:=λσ H Q=>t σ H λx H1=>∃i,x = .int i/\Q (some i) H1
theorem intsAre_of {ns:List Int}:∀{us:List Bh},Vals (ns.map V.int) us->C8 us ns:=by
 induction ns with
 | nil=>intro us r;rw[IX] at r;cases r;exact .nil
 | cons n ns ih =>
  intro us r
  rw[BF] at r
  cases r with
  | cons r1 r2 =>
   obtain ⟨t,e⟩:=r1
   subst e
   exact .cons n t (ih r2)
section
variable  {X:Cx}{e:Expr}{te:TE}{lo hi:Option Expr}{tl th:TO}{pos p2:Pos}
theorem jy:PO X none xG:=by
 intro pins s σ H Q I h
 rw[IE]
 exact Bk ⟨none,H,I,.none,h⟩
theorem jz (h:PE X e te):PO X (some e) (AQ te):=by
 intro pins s σ H Q I hw
 rw[evalPart_some]
 refine thn (h pins s σ H _ I hw) λu s1 ⟨x,H1,I1,r1,q1⟩ =>?_
 obtain ⟨i,rfl,q⟩:=q1
 obtain ⟨t,rfl⟩:=r1
 exact ⟨some i,H1,I1,.int i t,q⟩
def SlR (X:Cx)(r:V->Option Int->Option Int->Hp->VK->Prop):Prop :=
 ∀(pins:List (Addr×Obj)) (s:Bi) (σ:St) (H:Hp) (x:V) (v vl vu:Bh) (lo hi:Option Int) (sl:Addr) (Q:VK),Inv X pins σ H s->RelV x v->s.heap.IsSliceOf sl vl vu .none->IsPart vl lo->IsPart vu hi->r x lo hi H Q →
  ∃T id,typeLookup (.type T) "__getitem__" = pure (some (.builtin id))/\s.TypeIs v T/\BL (B1 X.prog X.w) X.A (getItem v (.ref sl)) (EP X pins σ Q) X.xe s
def tSl (r:V->Option Int->Option Int->Hp->VK->Prop)(te:TE)(tl th:TO):TE:=λσ H Q=>te σ H λx H1=>tl σ H1 λl H2=>th σ H2 λu H3=>r x l u H3 Q
theorem ic {r:V->Option Int->Option Int->Hp->VK->Prop}(hr:SlR X r)(he:PE X e te)(hl:PO X lo tl)(hu:PO X hi th):PE X (.Subscript e (.Slice lo hi none p2) pos) (tSl r te tl th):=by
 intro pins s σ H Q I h
 refine Subscript_ (thn (he pins s σ H _ I h) λv s1 ⟨x,H1,I1,r1,q1⟩ =>?_)
 refine wpAny_Slice (thn (hl pins s1 σ H1 _ I1 q1) λvl s2 ⟨l,H2,I2,pl,q2⟩=>thn (hu pins s2 σ H2 _ I2 q2) λvu s3 ⟨u,H3,I3,pu,q3⟩ =>?_)
 rw[IE]
 refine Bk ?_
 have I4:Inv X pins σ H3 { s3 with heap:=s3.heap.push { cls :=.type "slice",data :=.fields #[vl,vu,.none] } }:=I3.kept (t':=s3.toks) λb ob q=>Bf _ q
 obtain ⟨T,id,hT,ht,hg⟩:=hr pins { s3 with heap:=s3.heap.push { cls :=.type "slice",data :=.fields #[vl,vu,.none] } } σ H3 x v vl vu l u s3.heap.objs.size Q I4 r1 (Il ..) pl pu q3
 show BL (B1 X.prog X.w) X.A (subscriptTail e (.Slice lo hi none p2) v (.ref s3.heap.objs.size)) (EP X pins σ Q) X.xe { s3 with heap:=s3.heap.push { cls :=.type "slice",data :=.fields #[vl,vu,.none] } }
 exact tail_any (ops:=[.ref s3.heap.objs.size,v]) ht hT hg (by with_unfolding_all rfl)
def ie (xs:List V)(lo hi:Option Int):List V:=(xs.drop (HT.sIx xs.length 0 lo)).take (HT.sIx xs.length xs.length hi-HT.sIx xs.length 0 lo)
theorem jf (xs:List V)(lo hi:Option Int):(ie xs lo hi).length<=xs.length:=by
 unfold ie
 rw[CA,DT]
 omega
def rSlT (K:Be):V->Option Int->Option Int->Hp->VK->Prop:=λx lo hi H Q=>∃a xs,x = .ref a/\SqT K H a xs ∧
 ¬ (HT.sIx xs.length 0 lo=0/\HT.sIx xs.length xs.length hi=xs.length)/\∀p,H p=none->Q (.ref p) (upd H p (.tup (ie xs lo hi)))
theorem zx:SlR X (rSlT X.K):=by
 intro pins s σ H x v vl vu lo hi sl Q I rx hs pl pu h
 obtain ⟨a,xs,rfl,hx,hw,q⟩:=h
 cases rx
 obtain ⟨its,r,ht,hz⟩:=I.tuple hx
 have hlen:its.toArray.size=xs.length:=by rw[Bm];exact r.length.symm
 refine ⟨"tuple",_,B3.lookup,ht.typeIs,?_⟩
 refine HT.ib ht hs pl pu (by rw[hlen];exact hw) ?_ (by rw[hlen];exact hz)
 rw[hlen]
 refine ⟨.ref s.heap.objs.size,_,I.laid (t':=s.toks) (o :=.tup (ie xs lo hi)) (λb ob q=>Bf _ q) (Bn _) ?_,rfl,q _ (I.hok.fresh (Bn _))⟩
 exact ⟨BS (jf xs lo hi) hz,_,(r.drop (HT.sIx xs.length 0 lo)).take (HT.sIx xs.length xs.length hi-HT.sIx xs.length 0 lo),cN.new _ _⟩
def AR (K:Be):R2:=λx y H Q=>∃a b xs ys,x = .ref a/\y = .ref b/\SqT K H a xs/\SqT K H b ys/\xs≠[]/\xs.length+ys.length<=BJ ∧
 (ys=[]->Q (.ref a) H)/\(ys≠[]->∀p,H p=none->Q (.ref p) (upd H p (.tup (xs++ys))))
theorem Vals.ig {xs:List V}{us:List Bh}(r:Vals xs us):us=[]↔xs=[]:=by
 cases r with
 | nil=>simp
 | cons _ _=>simp
theorem sr:OpR X (binaryOp .Add) (AR X.K):=by
 intro pins s σ H x y v u Q I rx ry h
 obtain ⟨a,b,xs,ys,rfl,rfl,ha,hb,hx,hz,q1,q2⟩:=h
 cases rx
 cases ry
 obtain ⟨its,r1,p1,_⟩:=I.tuple ha
 obtain ⟨its2,r2,p2,_⟩:=I.tuple hb
 refine HT.xF p1 p2 (λz=>hx (r1.ig.mp z)) (λz=>⟨.ref a,H,I,rfl,q1 (r2.ig.mp z)⟩) (λz =>?_) (by rw[<- r1.length, <- r2.length];exact hz)
 refine ⟨.ref s.heap.objs.size,_,I.laid (t':=s.toks) (o :=.tup (xs++ys)) (λb ob q=>Bf _ q) (Bn _) ?_,rfl,q2 (λw=>z (r2.ig.mpr w)) _ (I.hok.fresh (Bn _))⟩
 exact ⟨by rw[Bj];exact hz,_,r1.append r2,cN.new _ _⟩
end
open PySem PySem.Spec PyProof.Rows
def ixN (n:Nat)(i:Int):Option Nat:=if 0<=i then (if i<n then some i.toNat else none) else if -(n:Int)<=i then some (i+n).toNat else none
def atI {α:Type}(xs:List α)(i:Int):Option α:=(ixN xs.length i).bind λj=>xs[j]?
theorem su {n:Nat}{i:Int}{j:Nat}(h:ixN n i=some j):seqIndex? i n=some j/\j<n /\ -(n:Int)<=i/\i<n:=by
 unfold ixN at h
 by_cases h0:0<=i
 ·rw[if_pos h0] at h
  by_cases h1:i<n
  ·rw[if_pos h1] at h
   have e:i.toNat=j:=BW h
   exact ⟨by rw[Ie h0 h1,e],by omega,by omega,h1⟩
  ·rw[if_neg h1] at h;cases h
 ·rw[if_neg h0] at h
  by_cases h1 : -(n:Int)<=i
  ·rw[if_pos h1] at h
   have e:(i+n).toNat=j:=BW h
   exact ⟨by rw[Ja (by omega) h1,e],by omega,h1,by omega⟩
  ·rw[if_neg h1] at h;cases h
theorem sv {α:Type}{xs:List α}{i:Int}{v:α}(h:atI xs i=some v):∃j,seqIndex? i xs.length=some j/\xs[j]? = some v/\j<xs.length /\ -(xs.length:Int)<=i/\i<xs.length:=by
 unfold atI at h
 cases e:ixN xs.length i with
 | none=>rw[e] at h;cases h
 | some j =>
  rw[e] at h
  obtain ⟨h1,h2,h3,h4⟩:=su e
  exact ⟨j,h1,h,h2,h3,h4⟩
theorem dZ {α:Type}{xs:List α}{j:Nat}{v:α}(h:xs[j]? = some v):atI xs (j:Int)=some v:=by
 have hj:j<xs.length:=(Bt.mp h).1
 have e:ixN xs.length (j:Int)=some j:=by
  unfold ixN
  rw[if_pos (by omega),if_pos (by omega)];simp
 unfold atI;rw[e];exact h
theorem oE {α:Type}(xs:List α)(v:α):atI (xs++[v]) (-1)=some v:=by
 have hl:(xs++[v]).length=xs.length+1:=by simp
 have e:ixN (xs++[v]).length (-1)=some xs.length:=by
  unfold ixN
  rw[hl,if_neg (by decide),if_pos (by omega)]
  congr 1
  omega
 unfold atI
 rw[e]
 show (xs++[v])[xs.length]? = some v
 simp
def xH (b:Expr):Prop:=∀o i,subscripted b false o i=operate [o,i] (getItem o i)
def IxR (X:Cx)(r:R2):Prop :=
 ∀(value slice:Expr) (pins:List (Addr×Obj)) (s:Bi) (σ:St) (H:Hp) (x y:V) (v u:Bh) (Q:VK),Inv X pins σ H s->RelV x v->RelV y u->r x y H Q →
  subscripted slice false v u=operate [v,u] (getItem v u)->BL (B1 X.prog X.w) X.A (subscriptTail value slice v u) (EP X pins σ Q) X.xe s
def MtR (X:Cx)(id:String)(r:V->List V->Hp->VK->Prop):Prop :=
 ∀(pins:List (Addr×Obj)) (s:Bi) (σ:St) (H:Hp) (x:V) (xs:List V) (v:Bh) (us:List Bh) (Q:VK),Inv X pins σ H s->RelV x v->Vals xs us->r x xs H Q →
  BL (B1 X.prog X.w) X.A (call (.builtin id) (v :: us)) (EP X pins σ Q) X.xe s
section
variable  {X:Cx}{a b:Expr}{ta tb:TE}{pos:Pos}
theorem ay {r:R2}(hr:IxR X r)(ha:PE X a ta)(hb:PE X b tb)(hs:xH b):PE X (.Subscript a b pos) (tOp r ta tb):=by
 intro pins s σ H Q I h
 exact Subscript_ (zq ha hb I h λv u s2 x y H2 I2 rx ry q=>hr a b pins s2 σ H2 x y v u Q I2 rx ry q (hs _ _))
def rIxL (K:Be):R2:=λx y H Q=>∃p xs i v,x = .ref p/\y = .int i/\SqL K H p xs/\atI xs i=some v/\Q v H
def AS (K:Be):R2:=λx y H Q=>∃p xs i v,x = .ref p/\y = .int i/\SqT K H p xs/\atI xs i=some v/\Q v H
theorem bN:IxR X (rIxL X.K):=by
 intro value slice pins s σ H x y v u Q I rx ry h hs
 obtain ⟨p,xs,i,z,rfl,rfl,hq,he,q⟩:=h
 cases rx
 obtain ⟨t,rfl⟩:=ry
 obtain ⟨its,r,pl,hz⟩:=I.list hq
 obtain ⟨j,h1,h2,h3,h4,h5⟩:=sv he
 obtain ⟨w,ew,rw'⟩:=r.get h2
 have hl:=r.length
 have hn:=ng
 have fin:EP X pins σ Q w s:=⟨z,H,I,rw',q⟩
 by_cases h0:0<=i
 ·have hj:i.toNat=j:=by
   rw[Ie h0 h5] at h1
   exact BW h1
  exact item_listR pl.isList h0 (by omega) (by rw[hj];simpa using ew) fin hs
 ·have hj:(i+(its.toArray.size:Int)).toNat=j:=by
   rw[Ja (by omega) h4] at h1
   rw[Bm, <- hl]
   exact BW h1
  exact Ht (x:=w) pl.isList.typeIs slot_list_getitem.lookup
   (wpAny_getItem_list_neg (Q:=λr s'=>r=w/\EP X pins σ Q r s') pl.isList (by omega) (by rw[Bm] <;> omega) (by omega) (by rw[hj];simpa using ew) ⟨rfl,fin⟩) hs
theorem aE:IxR X (AS X.K):=by
 intro value slice pins s σ H x y v u Q I rx ry h hs
 obtain ⟨p,xs,i,z,rfl,rfl,hq,he,q⟩:=h
 cases rx
 obtain ⟨t,rfl⟩:=ry
 obtain ⟨its,r,pl,hz⟩:=I.tuple hq
 obtain ⟨j,h1,h2,h3,h4,h5⟩:=sv he
 obtain ⟨w,ew,rw'⟩:=r.get h2
 have hl:=r.length
 have hn:=ng
 have fin:EP X pins σ Q w s:=⟨z,H,I,rw',q⟩
 exact Ht (x:=w) pl.typeIs slot_tuple_getitem.lookup
  (getItem_tuple (j:=j) (Q:=λr s'=>r=w/\EP X pins σ Q r s') pl (by omega) (by omega) (by rw[Bm, <- hl];exact h1) (by simpa using ew) ⟨rfl,fin⟩) hs
theorem qB (its:List Bh)(n j:Nat)(u:Bh):Cs (·.setIfInBounds j u) { cls :=.type "list",data :=.seq its.toArray n }={ cls :=.type "list",data :=.seq (its.set j u).toArray n }:=by
 simp[Cs]
theorem Inv.lst {pins:List (Addr×Obj)}{σ:St}{H:Hp}{s:Bi}{p:Addr}{xs:List V}(I:Inv X pins σ H s)(h:H p=some (.lst xs)) :
  ∃(its:List Bh) (n:Nat),Vals xs its/\s.heap.get? p=some { cls :=.type "list",data :=.seq its.toArray n }/\xs.length<=BJ:=by
 obtain ⟨z,its,n,r,e⟩:=I.hok p _ h
 exact ⟨its,n,r,e,z⟩
theorem Inv.zy {pins:List (Addr×Obj)}{σ:St}{H:Hp}{s:Bi}{p:Addr}{xs ys:List V}{its its':List Bh}{n n':Nat}{f:Obj->Obj}(I:Inv X pins σ H s)(h:H p=some (.lst xs))
  (ho:s.heap.get? p=some { cls :=.type "list",data :=.seq its.toArray n }) (hf:f { cls :=.type "list",data :=.seq its.toArray n }={ cls :=.type "list",data :=.seq its'.toArray n' }) (r:Vals ys its') (hz:ys.length<=BJ) (t:Nat) :
  Inv X pins σ (upd H p (.lst ys)) { s with heap:=s.heap.update p f,toks:=t }:=by
 have e:(s.heap.update p f).get? p=some { cls :=.type "list",data :=.seq its'.toArray n' }:=by
  rw[CB f ho (by rw[hf] <;> rfl),hf]
 refine I.write (x:=p) (e:=p) (by rw[h];trivial) (.inl rfl) (λb u hb q=>(Cm _ _ (C6 hb)).trans q) ⟨_,e⟩ ?_
 exact ⟨hz,its',n',r,e⟩
def AU:V->V->V->Hp->(Hp->Prop)->Prop:=λo i v H Q=>∃p xs k j,o = .ref p/\i = .int k/\H p=some (.lst xs)/\ixN xs.length k=some j/\Q (upd H p (.lst (xs.set j v)))
theorem set_list:AE X AU:=by
 intro pins s σ H o i v ov iv u Q I ro ri rv h
 obtain ⟨p,xs,k,j,rfl,rfl,hp,hj,q⟩:=h
 cases ro
 obtain ⟨t,rfl⟩:=ri
 obtain ⟨its,n,r,ho,hz⟩:=I.lst hp
 obtain ⟨h1,h2,h3,h4⟩:=su hj
 have hl:=r.length
 have hn:=ng
 have I':Inv X pins σ (upd H p (.lst (xs.set j v))) { s with heap:=s.heap.update p (Cs (·.setIfInBounds j u)) } :=
  I.zy hp ho (qB its n j u) (r.set rv j) (by rw[Jp];exact hz) s.toks
 by_cases h0:0<=k
 ·have hk:k.toNat=j:=by
   rw[Ie h0 h4] at h1
   exact BW h1
  exact PySem.W.ki_setAt ho h0 (by omega) (by rw[Bm, <- hl];exact h4) (by rw[hk];exact ⟨_,I',q⟩)
 ·have hk:(k+(its.toArray.size:Int)).toNat=j:=by
   rw[Ja (by omega) h3] at h1
   rw[Bm, <- hl]
   exact BW h1
  exact PySem.W.ki_setBack ho (by omega) (by rw[Bm, <- hl];exact h3) (by omega) (by rw[hk];exact ⟨_,I',q⟩)
theorem nh (lo hi:Option Int)(n:Nat):(sliceBounds lo hi none n).1=((HT.sIx n 0 lo:Nat):Int)/\(sliceBounds lo hi none n).2.1=((HT.sIx n n hi:Nat):Int)/\(sliceBounds lo hi none n).2.2=1:=by
 refine ⟨?_,?_,rfl⟩
 ·cases lo with
  | none=>simp[sliceBounds,HT.sIx]
  | some i =>
   simp only[sliceBounds,HT.sIx,Jd,show (1:Int)>0 by decide,if_true]
   by_cases h:i<0
   ·simp only[h,if_true] <;> omega
   ·simp only[h,if_false] <;> omega
 ·cases hi with
  | none=>simp[sliceBounds,HT.sIx]
  | some i =>
   simp only[sliceBounds,HT.sIx,Jd,show (1:Int)>0 by decide,if_true]
   by_cases h:i<0
   ·simp only[h,if_true] <;> omega
   ·simp only[h,if_false] <;> omega
theorem lA (its:List Bh)(lo hi:Option Int):slicePick its.toArray lo hi none=((its.drop (HT.sIx its.length 0 lo)).take (HT.sIx its.length its.length hi-HT.sIx its.length 0 lo)).toArray:=by
 obtain ⟨h1,h2,h3⟩:=nh lo hi its.toArray.size
 unfold slicePick
 rw[h1,h2,h3]
 simp only[sliceRange_one,pick_run,Bm] <;> rfl
def rSlL (K:Be):V->Option Int->Option Int->Hp->VK->Prop:=λx lo hi H Q=>∃a xs,x = .ref a/\SqL K H a xs/\∀p,H p=none->Q (.ref p) (upd H p (.lst (ie xs lo hi)))
theorem sA:SlR X (rSlL X.K):=by
 intro pins s σ H x v vl vu lo hi sl Q I rx hs pl pu h
 obtain ⟨a,xs,rfl,hx,q⟩:=h
 cases rx
 obtain ⟨its,r,ht,hz⟩:=I.list hx
 have hlen:=r.length
 refine ⟨"list",_,slot_list_getitem.lookup,ht.isList.typeIs,?_⟩
 refine wpAny_getItem_list_slice ht.isList hs pl pu .none (by simp) ?_ (by rw[Bm] <;> omega)
 rw[lA, <- hlen]
 refine ⟨.ref s.heap.objs.size,_,I.laid (t':=s.toks) (o :=.lst (ie xs lo hi)) (λb ob q=>Bf _ q) (Bn _) ?_,rfl,q _ (I.hok.fresh (Bn _))⟩
 exact ⟨BS (jf xs lo hi) hz,_,0,(r.drop (HT.sIx xs.length 0 lo)).take (HT.sIx xs.length xs.length hi-HT.sIx xs.length 0 lo),Bp _ rfl⟩
def ij:V->Bool
 | .non=>true
 | .bl _=>true
 | .int _=>true
 | .str _=>true
 | _=>false
def eqV:V->V->Bool
 | .non,.non=>true
 | .bl a,.bl b=>a == b
 | .bl a,.int b=>(if a then 1 else 0) == b
 | .int a,.bl b=>a == (if b then 1 else 0)
 | .int a,.int b=>a == b
 | .str a,.str b=>a == b
 | _,_=>false
theorem zz {A:B9}{s:Bi}{y x:V}{u v:Bh}(ry:RelV y u)(rx:RelV x v)(fy:ij y=true)(fx:ij x=true):Ex A s u v (eqV y x):=by
 cases y with
 | non =>
  cases ry
  cases x with
  | non=>cases rx;exact Fx _
  | bl b=>cases rx;exact SeqAt.EqAt.none_bool b
  | int b=>obtain ⟨t,rfl⟩:=rx;exact SeqAt.EqAt.none_int b t
  | str b=>obtain ⟨t,rfl⟩:=rx;exact SeqAt.EqAt.none_str b t
  | _=>exact absurd (show false=true from fx) Bo
 | bl a =>
  cases ry
  cases x with
  | non=>cases rx;exact SeqAt.EqAt.bool_none a
  | bl b=>cases rx;exact SeqAt.EqAt.bool_bool a b
  | int b=>obtain ⟨t,rfl⟩:=rx;exact SeqAt.EqAt.bool_int a b t
  | str b=>obtain ⟨t,rfl⟩:=rx;exact SeqAt.EqAt.bool_str a b t
  | _=>exact absurd (show false=true from fx) Bo
 | int a =>
  obtain ⟨t',rfl⟩:=ry
  cases x with
  | non=>cases rx;exact SeqAt.EqAt.int_none a t'
  | bl b=>cases rx;exact SeqAt.EqAt.int_bool a t' b
  | int b=>obtain ⟨t,rfl⟩:=rx;exact D8 a t' b t
  | str b=>obtain ⟨t,rfl⟩:=rx;exact Gy a t' b t
  | _=>exact absurd (show false=true from fx) Bo
 | str a =>
  obtain ⟨t',rfl⟩:=ry
  cases x with
  | non=>cases rx;exact SeqAt.EqAt.str_none a t'
  | bl b=>cases rx;exact SeqAt.EqAt.str_bool a t' b
  | int b=>obtain ⟨t,rfl⟩:=rx;exact Gz a t' b t
  | str b=>obtain ⟨t,rfl⟩:=rx;exact Im a t' b t
  | _=>exact absurd (show false=true from fx) Bo
 | _=>exact absurd (show false=true from fy) Bo
def eqU (x:V)(u:Bh):Bool:=match u with
 | .none=>eqV .non x
 | .bool b=>eqV (.bl b) x
 | .int i _=>eqV (.int i) x
 | .str z _=>eqV (.str z) x
 | _=>false
theorem vF {x y:V}{u:Bh}(r:RelV y u)(f:ij y=true):eqU x u=eqV y x:=by
 cases y with
 | non=>cases r;rfl
 | bl b=>cases r;rfl
 | int i=>obtain ⟨t,rfl⟩:=r;rfl
 | str z=>obtain ⟨t,rfl⟩:=r;rfl
 | _=>exact absurd (show false=true from f) Bo
theorem ik {x:V}:∀{xs:List V} {us:List Bh},Vals xs us->xs.all ij=true->us.any (eqU x)=xs.any λy=>eqV y x
 | _,_,.nil,_=>rfl
 | y :: xs,u :: us,.cons r t,f=>by
  rw[JQ,Cj] at f
  rw[E6,E6,vF r f.1,ik t f.2]
theorem fC {A:B9}{s:Bi}{x:V}{v:Bh}(rx:RelV x v)(fx:ij x=true):∀{xs:List V} {us:List Bh},Vals xs us->xs.all ij=true->∀u∈us,Ex A s u v (eqU x u)
 | _,_,.nil,_=>λu hu=>by cases hu
 | y :: xs,u :: us,.cons r t,f=>λu' hu=>by
  rw[JQ,Cj] at f
  rcases BR.mp hu with rfl | hu
  ·rw[vF r f.1];exact zz r rx f.1 fx
  ·exact fC rx fx t f.2 u' hu
def inV (x:V)(xs:List V):Bool:=xs.any λy=>eqV y x
def rIn (K:Be)(neg:Bool):R2:=λx y H Q=>∃p xs,y = .ref p/\(SqL K H p xs\/SqT K H p xs)/\ij x=true/\xs.all ij=true/\Q (.bl (if neg then !inV x xs else inV x xs)) H
theorem iP:OpR X (CV .In) (rIn X.K false):=by
 intro pins s σ H x y v u Q I rx ry h
 obtain ⟨p,xs,rfl,hq,fx,fs,q⟩:=h
 cases ry
 rcases hq with hq | hq
 ·obtain ⟨its,r,pl,hz⟩:=I.list hq
  refine Jq (eqU x) pl.isList (λw hw=>fC rx fx r fs w (by simpa using hw)) ⟨.bl _,H,I,rfl,?_⟩
  rw[show its.toArray.any (eqU x)=its.any (eqU x) by simp,ik r fs]
  exact q
 ·obtain ⟨its,r,pl,hz⟩:=I.tuple hq
  refine Je (eqU x) pl (λw hw=>fC rx fx r fs w (by simpa using hw)) ⟨.bl _,H,I,rfl,?_⟩
  rw[show its.toArray.any (eqU x)=its.any (eqU x) by simp,ik r fs]
  exact q
theorem il:OpR X (CV .NotIn) (rIn X.K true):=by
 intro pins s σ H x y v u Q I rx ry h
 obtain ⟨p,xs,rfl,hq,fx,fs,q⟩:=h
 cases ry
 rcases hq with hq | hq
 ·obtain ⟨its,r,pl,hz⟩:=I.list hq
  refine Io (eqU x) pl.isList (λw hw=>fC rx fx r fs w (by simpa using hw)) ⟨.bl _,H,I,rfl,?_⟩
  rw[show its.toArray.any (eqU x)=its.any (eqU x) by simp,ik r fs]
  exact q
 ·obtain ⟨its,r,pl,hz⟩:=I.tuple hq
  refine HW (eqU x) pl (λw hw=>fC rx fx r fs w (by simpa using hw)) ⟨.bl _,H,I,rfl,?_⟩
  rw[show its.toArray.any (eqU x)=its.any (eqU x) by simp,ik r fs]
  exact q
theorem bz:cz X (.builtin "len") (λxs H Q=>∃p ys,xs=[.ref p]/\(SqL X.K H p ys\/SqT X.K H p ys)/\Q (.int ys.length) H):=by
 intro pins s σ H xs us Q I r h
 obtain ⟨p,ys,rfl,hq,q⟩:=h
 obtain ⟨u,rfl,rx⟩:=vals1 r
 cases rx
 have hn:=ng
 rcases hq with hq | hq
 ·obtain ⟨its,r',pl,hz⟩:=I.list hq
  have hlen:=r'.length
  exact Calls.call_len_list pl.isList (by simp only[Bm] <;> omega) ⟨.int ys.length,H,I.tok _,⟨s.toks+1,by rw[Bm,hlen]⟩,q⟩
 ·obtain ⟨its,r',pl,hz⟩:=I.tuple hq
  have hlen:=r'.length
  exact len_tuple pl (by simp only[Bm] <;> omega) ⟨.int ys.length,H,I.tok _,⟨s.toks+1,by rw[Bm,hlen]⟩,q⟩
theorem bS:cz X (.type "list") (λxs H Q=>∃p ys,xs=[.ref p]/\(SqL X.K H p ys\/SqT X.K H p ys)/\∀l,H l=none->Q (.ref l) (upd H l (.lst ys))):=by
 intro pins s σ H xs us Q I r h
 obtain ⟨p,ys,rfl,hq,q⟩:=h
 obtain ⟨u,rfl,rx⟩:=vals1 r
 cases rx
 have fin:∀(its:List Bh),Vals ys its->ys.length<=BJ->∀(h':Heap) (c':Nat),(∀b o',s.heap.get? b=some o'->h'.get? b=some o') →
   h'.get? s.heap.objs.size=some { cls :=.type "list",dict:=none,data :=.seq its.toArray c',slots := #[] }->EP X pins σ Q (.ref s.heap.objs.size) { s with heap:=h' }:=λits r' hz h' c' kp e =>
  ⟨.ref s.heap.objs.size,_,I.laid (t':=s.toks) kp (Bn _) (show ba X.prog X.w _ h' _ (.lst ys) from ⟨hz,its,c',r',e⟩),rfl,q _ (I.hok.fresh (Bn _))⟩
 rcases hq with hq | hq
 ·obtain ⟨its,r',pl,hz⟩:=I.list hq
  have hlen:=r'.length
  obtain ⟨o,ho,hc,n,hd⟩:=pl.isList
  exact call_list_seq p (.inl rfl) ho hc hd (λh' c' kp e=>fin its r' hz h' c' kp e) (by simp only[Bm] <;> omega)
 ·obtain ⟨its,r',pl,hz⟩:=I.tuple hq
  have hlen:=r'.length
  obtain ⟨o,ho,hc,n,hd⟩:=pl
  exact call_list_seq p (.inr rfl) ho hc hd (λh' c' kp e=>fin its r' hz h' c' kp e) (by simp only[Bm] <;> omega)
theorem bB:cz X (.type "tuple") (λxs H Q=>∃p ys,xs=[.ref p]/\((SqL X.K H p ys/\∀l,H l=none->Q (.ref l) (upd H l (.tup ys)))\/(SqT X.K H p ys/\Q (.ref p) H))):=by
 intro pins s σ H xs us Q I r h
 obtain ⟨p,ys,rfl,h⟩:=h
 obtain ⟨u,rfl,rx⟩:=vals1 r
 cases rx
 rcases h with ⟨hq,q⟩ | ⟨hq,q⟩
 ·obtain ⟨its,r',pl,hz⟩:=I.list hq
  have hlen:=r'.length
  refine call_tuple_list pl.isList (λh' kp =>?_) (by simp only[Bm] <;> omega)
  have I1:Inv X pins σ H { s with heap:=h' }:=I.kept (t':=s.toks) kp
  have I2:Inv X pins σ (upd H h'.objs.size (.tup ys)) { s with heap:=h'.push { cls :=.type "tuple",data :=.seq its.toArray } } :=
   I1.laid (t':=s.toks) (λb o e=>Bf _ e) (Bn _) (show ba X.prog X.w _ _ _ (.tup ys) from ⟨hz,its,r',cN.new _ _⟩)
  exact ⟨.ref h'.objs.size,_,I2,rfl,q _ (I1.hok.fresh (Bn _))⟩
 ·obtain ⟨its,r',pl,hz⟩:=I.tuple hq
  exact call_tuple_same pl ⟨.ref p,H,I,rfl,q⟩
def tyV (K:Be)(T:String)(x:V)(H:Hp):Prop:=match x with
 | .str _=>T = "str"
 | .int _=>T = "int"
 | .ref p=>(T = "list" /\ ∃xs,SqL K H p xs)\/(T = "tuple" /\ ∃o,K.lookup p=some o/\o.cls = .type "tuple" /\ o.dict=none) ∨
   (T = "dict" /\ ((∃kvs,H p=some (.dK kvs))\/∃kvs,H p=some (.dT kvs)))\/(T = "set" /\ ∃S n,H p=some (.set S n))
 | _=>False
theorem zA {pins:List (Addr×Obj)}{σ:St}{H:Hp}{s:Bi}{T:String}{x:V}{v:Bh}(I:Inv X pins σ H s)(r:RelV x v)(ty:tyV X.K T x H) :
  s.TypeIs v T/\∀a,v = .ref a->∃ob,s.heap.get? a=some ob/\ob.dict=none:=by
 cases x with
 | str z =>
  obtain ⟨t,rfl⟩:=r
  cases (show T = "str" from ty)
  exact ⟨typeIs_str s z t,λ_ e=>nomatch e⟩
 | int i =>
  obtain ⟨t,rfl⟩:=r
  cases (show T = "int" from ty)
  exact ⟨typeIs_int s i t,λ_ e=>nomatch e⟩
 | ref p =>
  cases r
  rcases ty with ⟨rfl,xs,hq⟩ | ⟨rfl,o,hk,hc,hd⟩ | ⟨rfl,hk⟩ | ⟨rfl,S,n,hk⟩
  ·obtain ⟨its,_,pl,_⟩:=I.list hq
   refine ⟨pl.isList.typeIs,λa e =>?_⟩
   cases e
   obtain ⟨o,n,e,c,hd,_⟩:=pl
   exact ⟨o,e,hd⟩
  ·refine ⟨⟨o,I.kIn p o hk,hc⟩,λa e =>?_⟩
   cases e
   exact ⟨o,I.kIn _ o hk,hd⟩
  ·have z:∃o,s.heap.get? p=some o/\o.ExactDict:=by
    rcases hk with ⟨kvs,hk⟩ | ⟨kvs,hk⟩
    ·obtain ⟨_,_,_,_,o,_,_,e,ex,_⟩:=I.hok p _ hk
     exact ⟨o,e,ex⟩
    ·obtain ⟨_,_,_,_,o,_,_,e,ex,_⟩:=I.hok p _ hk
     exact ⟨o,e,ex⟩
   obtain ⟨o,e,ex⟩:=z
   refine ⟨⟨o,e,ex.1⟩,λa e2 =>?_⟩
   cases e2
   exact ⟨o,e,ex.2.1⟩
  ·obtain ⟨o,_,_,_,e,ex,_⟩:=I.hok p _ hk
   refine ⟨⟨o,e,ex.1⟩,λa e2 =>?_⟩
   cases e2
   exact ⟨o,e,ex.2.1⟩
 | _=>exact False.elim ty
def tBM (K:Be)(T:String)(r:V->List V->Hp->VK->Prop)(to:TE)(t:TA):TE:=λσ H Q=>to σ H λx H1=>tyV K T x H1/\t σ H1 λxs H2=>r x xs H2 Q
variable  {o e:Expr}{es:List Expr}{to:TE}{t:TA}{name:Str}{apos cpos:Pos}{T id:String}{r:V->List V->Hp->VK->Prop}
theorem fD (pa:PlainAttrs T)(slot:Slot T name id)(hty:typeOf (.builtin id)=pure (.type "method_descriptor"))(hm:MtR X id r)(ho:PE X o to)(ha:PA X (e :: es) t)
  (hbase:attributeBase o name X.env (eval o X.env)=eval o X.env:=by rfl)
  (hfew:((Fd cpos (Ce (e :: es) X.env)).all (λx => !x.1) && (backToKw cpos (keywordEach [] X.env)).all (λx=>x.1.isSome)
   && decide ((e :: es).length+([]:List Keyword).length+(if ([]:List Keyword).isEmpty then 0 else 1)<30))=true:=by rfl)
  (hline:(apos.endLine == cpos.line)=true:=by rfl) (hs:Ce (e :: es) X.env=(false,eval e X.env) :: Ce es X.env:=by rfl) (hplain:(Fd cpos (Ce es X.env)).any (·.1)=false:=by rfl) :
  PE X (.Call (.Attribute o name apos) (e :: es) [] cpos) (tBM X.K T r to t):=by
 intro pins s σ H Q I h
 refine Hu hbase hfew hline rfl (thn (ho pins s σ H _ I h) λv s1 ⟨x,H1,I1,r1,ty,q1⟩ =>?_)
 obtain ⟨h1,h2⟩:=zA I1 r1 ty
 refine ⟨T,id,pa,slot,hty,h1,h2,?_⟩
 have hA:=ha cpos pins s1 σ H1 _ I1 q1
 rw[hs] at hA ⊢
 refine FE (by show (false || (Fd cpos (Ce es X.env)).any (·.1))=false;rw[hplain] <;> rfl) (Ga ?_)
 exact thn hA λus s2 ⟨vs,H2,I2,r2,q2⟩=>hm pins s2 σ H2 x vs v us Q I2 r1 r2 q2
end
open PySem PySem.Spec PyProof.Rows
def MtM (X:Cx)(id:String)(r:V->List V->Hp->VK->Prop):Prop :=
 ∀(pins:List (Addr×Obj)) (s:Bi) (σ:St) (H:Hp) (x:V) (xs:List V) (v:Bh) (us:List Bh) (Q:VK),Inv X pins σ H s->RelV x v->Vals xs us->r x xs H Q →
  BL (B1 X.prog X.w) X.A (call (.builtin id) (v :: us)) (EP X pins σ Q) X.xe s
theorem Vals.one:∀{x:V} {us:List Bh},Vals [x] us->∃u,us=[u]/\RelV x u
 | _,_,.cons r .nil=>⟨_,rfl,r⟩
theorem Vals.reverse {xs:List V}{us:List Bh}(h:Vals xs us):Vals xs.reverse us.reverse:=by
 induction h with
 | nil=>exact .nil
 | cons r t ih=>rw[Dn,Dn];exact Vals.append ih (.cons r .nil)
section
variable  {X:Cx}{pins:List (Addr×Obj)}{σ:St}{H:Hp}{s:Bi}{l b:Addr}{xs ys zs:List V}
theorem Inv.AV {its its':List Bh}{n:Nat}{f:Array Bh->Array Bh}{t':Nat}(I:Inv X pins σ H s)(hH:H l=some (.lst xs))
  (e:s.heap.get? l=some { cls :=.type "list",data :=.seq its.toArray n }) (hf:f its.toArray=its'.toArray) (hv:Vals ys its') (hz:ys.length<=BJ) :
  Inv X pins σ (upd H l (.lst ys)) { s with heap:=s.heap.update l (Cs f),toks:=t' }:=by
 have q:=PySem.IsL.update e f
 rw[hf] at q
 refine I.write (x:=l) (e:=l) (by rw[hH];exact trivial) (.inl rfl) (λb' u hb hu=>(Cm s.heap (Cs f) (C6 hb)).trans hu) ⟨_,q⟩ ?_
 exact ⟨hz,its',_,hv,q⟩
theorem Inv.lnew {its:List Bh}{t':Nat}(I:Inv X pins σ H s)(hv:Vals ys its)(hz:ys.length<=BJ) :
  Inv X pins σ (upd H s.heap.objs.size (.lst ys)) { s with heap:=s.heap.push { cls :=.type "list",data :=.seq its.toArray },toks:=t' } :=
 I.laid (λ_ _ q=>Bf _ q) (Bn _) ⟨hz,its,0,hv,Bp _ rfl⟩
theorem Inv.fresh (I:Inv X pins σ H s):H s.heap.objs.size=none:=I.hok.fresh (Bn _)
theorem Inv.AW (I:Inv X pins σ H s)(hH:H l=some (.lst xs)):xs.length<=BJ/\∃(its:List Bh) (n:Nat),Vals xs its/\xs.length=its.length/\s.heap.get? l=some { cls :=.type "list",data :=.seq its.toArray n }:=by
 obtain ⟨z,its,n,r,e⟩:=I.hok l _ hH
 exact ⟨z,its,n,r,r.length,e⟩
theorem oF {n:Nat}(h:n<=BJ):Builtin.List.listTooLong n=false:=by
 unfold Builtin.List.listTooLong
 exact decide_eq_false (by omega)
end
section
variable  {X:Cx}
def xI:V->List V->Hp->VK->Prop:=λx vs H Q=>∃l xs y,x = .ref l/\vs=[y]/\H l=some (.lst xs)/\xs.length<BJ/\Q .non (upd H l (.lst (xs++[y])))
theorem cB:MtM X "list.append" xI:=by
 intro pins s σ H x vs v us Q I rx rv h
 obtain ⟨l,xs,y,rfl,rfl,hH,hz,q⟩:=h
 cases rx
 obtain ⟨u,rfl,ru⟩:=rv.one
 obtain ⟨z,its,n,r,hl,e⟩:=I.AW hH
 refine IU F.slot_list_append ⟨_,e,rfl⟩ F.entry_list_append (F.args_list_append_2 _ _) (PySem.list_append l its.toArray n u (by rw[Bm];omega)) ⟨e,?_⟩
 refine ⟨.non,_,I.AV (its':=its++[u]) hH e (by simp) (r.append (.cons ru .nil)) ?_,rfl,q⟩
 rw[Bj,BV]
 omega
end
section
variable  {prog:BD}{w:Cb}{A:B9}{E:Bh->Bi->Prop}{s:Bi}
end
section
variable  {X:Cx}
end
end L2
namespace Att
open PySem PySem.W PySem.Calls PyProof.Rows
theorem jt {P:Params}{h:Heap}:∀(ns:List Int) (vs:List Bh),WellAll P h vs (ns.map WData.int)->C8 vs ns:=by
 intro ns
 induction ns with
 | nil =>
  intro vs w
  rw[IX] at w
  cases w
  exact .nil
 | cons n ns ih =>
  intro vs w
  rw[BF] at w
  cases w with
  | cons a b =>
   cases a
   exact .cons _ _ (ih _ b)
theorem uf {l:OpenLaw}{n:Nat}(hn:l.most=some n){P:Params}{h:Heap}{args:List WData}{vals:List Bh}
  (hpre:l.row.toRowW.claim.pre args=true) (hwl:WellAll P h vals args) :
  ∃a vs ns,vals=[BN a]/\args=[WData.list (ns.map WData.int)]/\h.get? a=some { cls :=.type "list",data :=.seq vs.toArray }/\C8 vs ns/\ns.length<=n:=by
 have hsh:WShape.hasAll [] args [.list .int]=true:=(pre_splitW hpre).1
 have hc:l.pre.holds [] { args:=args }=true:=(pre_splitW hpre).2
 obtain ⟨d,r,rfl,h1,h2⟩:=hasAllW_cons hsh
 obtain rfl:=hasAllW_nil h2
 obtain ⟨xs,rfl,h3⟩:=hasW_list h1
 obtain ⟨ns,rfl⟩:=items_int h3
 have hlen:ns.length<=n:=by
  unfold OpenLaw.pre at hc
  have h4:(WTm.not (.lt (.lit (.int (n:Int))) (.len (.arg 0)))).holds [] { args:=[.list (ns.map .int)] }=true:=by
   have h4:=(holds_andW hc).1
   rw[hn] at h4
   exact h4
  have h5:=condW_of h4 (w_not (w_lt w_lit (w_len_list (w_arg rfl))))
  rw[Bg] at h5
  refine Jf λq =>?_
  have q':(n:Int)<((ns.length:Nat):Int):=by omega
  first
   | (rw[decide_eq_true q'] at h5;exact absurd h5 (by decide))
   | (simp at h5;omega)
 cases hwl with
 | cons w1 w2 =>
  cases w2
  cases w1 with
  | list ho hall=>exact ⟨_,_,ns,rfl,rfl,ho,jt ns _ hall,hlen⟩
theorem ug (l:OpenLaw)(args:List WData):l.row.toRowW.claim.post args (.bool true) args=true :=
 postW_of (r:=l.row.toRowW) (X:=(true == true))
  (show WShape.has [] (.bool true) .bool=true by first | rfl | decide | simp[WShape.has,WShape.arms,WShape.armsAll])
  (show (WTm.eq .res (.lit (.bool true))).value [] { args:=args,res:=some (.bool true),after:=args }=some (.bool (true == true)) from w_eq_bool (w_res rfl) w_lit) rfl
theorem oG {l:OpenLaw}{n:Nat}{q:BD}{loose:List Str}{XP:(Str->Option Bh)->Heap->Prop}{YP:Cb->Heap->Prop}{d:DefRec}
  (hn:l.most=some n) (hdf:d.params.defaults=[])
  (call:∀(w:Cb) (s₀ s₁:Bi) (mg mb:Str->Option Bh) (fa:Addr) (o:Obj) (pm cd doc:Bh) (a:Addr) (vs:List Bh) (ns:List Int),
   Ground q loose [] XP w s₀ mg mb s₁.heap->YP w s₁.heap →
   s₁.heap.get? fa=some o->o.data = .func (docDef d.name d.params d.body d.scope pm cd doc)->s₁.heap.CodeRec cd d.name->mg d.name=some (.ref fa) →
   s₁.heap.get? a=some { cls :=.type "list",data :=.seq vs.toArray }->C8 vs ns->ns.length<=n->s₁.gens = #[] →
   GR (B1 l.prog w) callerA (.call (.ref fa) ⟨[.ref a],[]⟩) (λr s'=>r = .ok (.ret (.bool true))/\OldK s₁.heap s'.heap/\s'.os=s₁.os/\AllBare s'.gens) s₁) :
  WalkO q loose XP YP l.row.toRowW d [] (λf vs=>PySem.call f vs):=by
 intro w s₀ s₁ mg mb G Y fa o pm cd doc dV kV ho hd hcd hD hmg hg args vals as hpre hlay hrd hwl hlo
 obtain rfl:dV = .none:=Dflts.none hD hdf
 obtain rfl:kV = .none:=Dflts.noKw hD
 obtain ⟨a,vs,ns,rfl,rfl,hobj,hints,hlen⟩:=uf hn hpre hwl
 refine enter_call (Fu (call w s₀ s₁ mg mb fa o pm cd doc a vs ns G Y ho (fd_plain hd) hcd hmg hobj hints hlen hg) λr s' hq =>?_)
 obtain ⟨rfl,h2,h3,h4⟩:=hq
 exact ⟨.inl ⟨.bool true,.bool true,[],rfl,λ_=>rfl,.bool true,ug l _,λ_=>⟨List.Pairwise.nil,λ_ hm=>(nomatch hm)⟩⟩,h2,h3,h4⟩
section
variable  {prog:BD}{w:Cb}{A:B9}{E:Bh->Bi->Prop}{s:Bi}{K:Frag}
def ledger (h:Heap)(L d:Addr):List (Addr×Obj):=(Cc h.objs.size).filterMap λa=>if a=L\/a=d then none else (h.get? a).map λo=>(a,o)
end
end Att
namespace L2
open PySem PySem.Spec PyProof.Rows
theorem iQ:∀{vs:List Bh} {ns:List Int},C8 vs ns->Vals (ns.map V.int) vs
 | _,_,.nil =>.nil
 | _,_,.cons n t h =>.cons ⟨t,rfl⟩ (iQ h)
open PySem PySem.Spec PyProof.Rows
open PySem PySem.Spec PyProof.Rows
def bU (s:Stmt):Arguments:=match s with
 | .FunctionDef _ a _ _ _ _ _ _ _ _=>a
 | _=>{ posonlyargs:=[],args:=[],vararg:=none,kwonlyargs:=[],kw_defaults:=[],kwarg:=none,defaults:=[] }
def bO (s:Stmt):List Stmt:=match s with
 | .FunctionDef _ _ b _ _ _ _ _ _ _=>b
 | _=>[]
def aq (s:Stmt):Scope:=match s with
 | .FunctionDef _ _ _ _ _ _ sc _ _ _=>sc
 | _=>{ kind :=.function,names:=[],isGenerator:=false,isCoroutine:=false }
abbrev CX0:CXT:=λ_ _ _ _ _ _=>False
abbrev E0:XK:=λ_ _ _=>False
theorem yV {X:Cx}:Passes CX0 X E0:=λ_ _ _ _ _ _ _ h=>h.elim
structure Fun (K:Be)(x qual:Str)(st:Stmt)(f:Addr)(fd:Cr):Prop where
 ex:∃(oc:Bh) (od:Option Addr) (kV doc pm:Bh) (an:Option Addr) (cdv ct:Bh) (osl:Array (Option Bh)),
  fd=PySem.W.fnOf x qual (bU st) (bO st) (aq st) .none kV doc pm an cdv ct/\K.lookup f=some ⟨oc,od,.func fd,osl⟩/\PySem.W.codeIn K cdv qual=true
 kp:PySem.W.keepIn K (.ref f)=true
section
variable  {P:BD}{w:Cb}{K:Be}{mg:Str->Option Bh}{base:Heap}
theorem Fun.ok {x qual:Str}{st:Stmt}{f:Addr}{fd:Cr}{N ps:List Str}{k:Nat}{sp:Sp}(F:Fun K x qual st f fd)(S:aO N ps (aq st))(len:∀vs H Q E,sp vs H Q E->vs.length=ps.length)
  (hbody:∀(cdv:Bh) (A:B9) (outer:List Env) (s:Bi) (H:Hp) (vs:List V) (Q:VK) (E:XK),bL k (A.deeper (envOfC qual (aq st) s.heap.objs.size f cdv))->sp vs H Q E →
   ∃t,PSs (oA CX0 P w K mg base N qual (aq st) f cdv A outer s H E).nox (bO st) t/\t { nx:=λ_ H'=>Q .non H',rt:=Q } (start N vs) H):bF P w K mg base CX0 (k+1) f fd ps sp:=by
 obtain ⟨oc,od,kV,doc,pm,an,cdv,ct,osl,rfl,lk,hcd⟩:=F.ex
 refine yU lk hcd S len λA outer s H vs Q E hr hsp =>?_
 obtain ⟨t,h,q⟩:=hbody cdv A outer s H vs Q E hr hsp
 exact ⟨t,h.nox,q⟩
theorem Fun.binds {x qual:Str}{st:Stmt}{f:Addr}{fd:Cr}{ps:List Str}(F:Fun K x qual st f fd)
  (h:∀(kV doc pm:Bh) (an:Option Addr) (cdv ct:Bh) (us:List Bh),us.length=ps.length->bindArgs (PySem.W.fnOf x qual (bU st) (bO st) (aq st) .none kV doc pm an cdv ct) ⟨us,[]⟩=pure (ps.zip us)):Binds K fd ps []:=by
 obtain ⟨oc,od,kV,doc,pm,an,cdv,ct,osl,rfl,lk,hcd⟩:=F.ex
 exact .all (h kV doc pm an cdv ct)
theorem qC {x qual:Str}{st:Stmt}{f:Addr}{oc:Bh}{od an:Option Addr}{osl:Array (Option Bh)}{kV doc pm cdv ct:Bh}(l:K.lookup f=some ⟨oc,od,.func (PySem.W.fnOf x qual (bU st) (bO st) (aq st) .none kV doc pm an cdv ct),osl⟩)
  (c:PySem.W.codeIn K cdv qual=true) (k:PySem.W.keepIn K (.ref f)=true):Fun K x qual st f (PySem.W.fnOf x qual (bU st) (bO st) (aq st) .none kV doc pm an cdv ct):=⟨⟨oc,od,kV,doc,pm,an,cdv,ct,osl,rfl,l,c⟩,k⟩
end
theorem AX {A:B9}{k:Nat}(hr:bL k A):A.units+1<cLine:=Cn (Fm (by decide:1<=64) _) hr.units
theorem uh {n:Nat}(h:n<=1000):n<BJ:=Cn h (by decide)
section
variable  {X:Cx}
theorem pv (i:Nat){x:Str}{pos:Pos}(hN:X.N[i]? = some x:=by rfl)(hv:Vis X.env.scope x:=by first | exact Or.inl rfl | exact Or.inr (Or.inl rfl) | exact Or.inr (Or.inr rfl))(hd:(x == ("__debug__" : Str))=false:=by decide)
  (hcd:(x == ("__classdict__" : Str))=false:=by decide):PE X (.Name x pos) (Ay i):=zi hN hv hd hcd
end
theorem bC {A B:Prop}(h:B):if false=true then A else B:=by
 rw[if_neg Bo]
 exact h
theorem cQ {A B:Prop}(h:A):if true=true then A else B:=by
 rw[if_pos rfl]
 exact h
theorem xJ {c A B:Prop}[Decidable c](h1:c->A)(h2:¬ c->B):if c then A else B:=by
 by_cases h:c
 ·rw[if_pos h]
  exact h1 h
 ·rw[if_neg h]
  exact h2 h
def ax (H H':Hp):Prop:=∀b o,H b=some o->H' b=some o
theorem ax.refl (H:Hp):ax H H:=λ_ _ h=>h
theorem ax.trans {H H1 H2:Hp}(a:ax H H1)(b:ax H1 H2):ax H H2:=λc o h=>b c o (a c o h)
end L2
set_option maxHeartbeats 4000000
namespace L2
open PySem PySem.Spec PyProof.Rows
def oH (on:List (Str×NameKind))(N:List Str)(sc:Scope)(N':List Str)(ix:List (Option Nat)):Bool :=
 decide (sc.kind = .function) &&
 sc.names.all (λy=>match y.2 with
  | .local=>decide (sc.names.lookup y.1=some .local)
  | .cell=>false
  | .free=>decide (on.lookup y.1=some .cell) || decide (on.lookup y.1=some .free)
  | _=>true) &&
 decide (ix.length=N'.length) &&
 (ix.zip N').all (λp=>match p.1 with
  | none=>true
  | some j=>decide (N[j]? = some p.2) && decide (sc.names.lookup p.2=some .free))
theorem cF {ns:List (Str×NameKind)}{y:Str}{k:NameKind}(h:ns.lookup y=some k):(y,k)∈ns:=D2 h
structure d8 (on:List (Str×NameKind))(N:List Str)(sc:Scope)(N':List Str)(ix:List (Option Nat)):Prop where
 kind:sc.kind = .function
 locs:∀y∈sc.names,y.2 = .local->sc.names.lookup y.1=some .local
 nocell:∀y∈sc.names,y.2 ≠ .cell
 frees:∀y∈sc.names,y.2 = .free->on.lookup y.1=some .cell\/on.lookup y.1=some .free
 len:ix.length=N'.length
 slot:∀(i j:Nat) (y:Str),ix[i]? = some (some j)->N'[i]? = some y->N[j]? = some y/\sc.names.lookup y=some .free
theorem d8.of {on:List (Str×NameKind)}{N:List Str}{sc:Scope}{N':List Str}{ix:List (Option Nat)}(h:oH on N sc N' ix=true):d8 on N sc N' ix:=by
 unfold oH at h
 rw[Cj,Cj,Cj] at h
 obtain ⟨⟨⟨h1,h2⟩,h3⟩,h4⟩:=h
 rw[D5] at h2 h4
 refine ⟨of_decide_eq_true h1,λy hy e =>?_,λy hy e =>?_,λy hy e =>?_,of_decide_eq_true h3,λi j y e1 e2 =>?_⟩
 ·have q:=h2 y hy
  rw[e] at q
  exact of_decide_eq_true q
 ·have q:=h2 y hy
  rw[e] at q
  cases q
 ·have q:=h2 y hy
  rw[e] at q
  exact ((Ek _ _).mp q).imp of_decide_eq_true of_decide_eq_true
 ·have q:=h4 (some j,y) (B4 (i:=i) (by rw[GG];exact ⟨e1,e2⟩))
  dsimp only at q
  rw[Cj] at q
  exact ⟨of_decide_eq_true q.1,of_decide_eq_true q.2⟩
theorem jg {α β:Type}(f:α -> β -> β)(b:α -> β -> Sem (ForInStep β)):∀(l:List α) (c:β),(∀x∈l,∀d,b x d=pure (.yield (f x d)))->forIn l c b=pure (l.foldl (λd x=>f x d) c)
 | [],c,_=>rfl
 | x :: l,c,h=>by
  rw[List.forIn_cons,h x Br,pure_bind]
  exact jg f b l (f x c) λy hy=>h y (BG _ hy)
def aG (env:Env)(l:List (Str×NameKind))(c:List (Str×Addr)):List (Str×Addr) :=
 l.foldl (λd y=>if y.2 = .free then (y.1,(env.cells.lookup y.1).getD 0) :: d else d) c
theorem jV {sc:Scope}{env:Env}(h:∀y∈sc.names,y.2 = .free->∃c,env.cells.lookup y.1=some c):closureFor sc env=pure (aG env sc.names []):=by
 simp only[closureFor]
 unfold aG
 rw[jg (λy d=>if y.2 = .free then (y.1,(env.cells.lookup y.1).getD 0) :: d else d)]
 ·rfl
 ·rintro ⟨n,k⟩ hy d
  by_cases hk:k = .free
  ·subst hk
   obtain ⟨c,e⟩:=h _ hy rfl
   have e':env.cells.lookup n=some c:=e
   simp only[beq_self_eq_true,if_true,cellOf,e',Option.getD_some]
   rfl
  ·have hb:(k == NameKind.free)=false:=by simpa using hk
   simp only[hb,CK,if_false,hk]
theorem cp {env:Env}{y:Str}{c:Addr}:∀(l:List (Str×NameKind)) (d:List (Str×Addr)),(∀z∈l,z.2 = .free->∃c,env.cells.lookup z.1=some c)->(aG env l d).lookup y=some c →
  d.lookup y=some c\/env.cells.lookup y=some c
 | [],d,_,h =>.inl h
 | (n,k) :: l,d,hf,h=>by
  have h':(aG env l (if k = .free then (n,(env.cells.lookup n).getD 0) :: d else d)).lookup y=some c:=h
  have ih:=cp l _ (λz hz=>hf z (BG _ hz)) h'
  by_cases hk:k = .free
  ·subst hk
   rw[if_pos rfl] at ih
   rcases ih with q | q
   ·rw[EH] at q
    cases hx:(y == n) with
    | true =>
     rw[hx] at q
     obtain ⟨c',e⟩:=hf (n,.free) Br rfl
     have e':env.cells.lookup n=some c':=e
     have q':some ((env.cells.lookup n).getD 0)=some c:=q
     rw[e'] at q'
     have en:y=n:=eq_of_beq hx
     rw[en,e']
     exact .inr q'
    | false =>
     rw[hx] at q
     exact .inl q
   ·exact .inr q
  ·rw[if_neg hk] at ih
   exact ih
theorem cq {env:Env}{y:Str}:∀(l:List (Str×NameKind)) (d:List (Str×Addr)),((y,NameKind.free)∈l\/∃c,d.lookup y=some c)->∃c,(aG env l d).lookup y=some c
 | [],d,h=>by
  rcases h with h | h
  ·cases h
  ·exact h
 | (n,k) :: l,d,h=>by
  show ∃c,(aG env l (if k = .free then (n,(env.cells.lookup n).getD 0) :: d else d)).lookup y=some c
  refine cq l _ ?_
  have old:(∃c,d.lookup y=some c)->∃c,(if k = .free then (n,(env.cells.lookup n).getD 0) :: d else d).lookup y=some c:=λ⟨c,e⟩=>by
   by_cases hk:k = .free
   ·rw[if_pos hk,EH]
    cases hx:(y == n) with
    | true=>exact ⟨_,rfl⟩
    | false=>exact ⟨c,e⟩
   ·rw[if_neg hk];exact ⟨c,e⟩
  rcases h with h | h
  ·rcases BR.mp h with q | q
   ·cases q
    rw[if_pos rfl,EH,beq_self_eq_true]
    exact .inr ⟨_,rfl⟩
   ·exact .inl q
  ·exact .inr (old h)
theorem jW {c:Str->NameKind->Bool}{y:Str}:∀l:List (Str×NameKind),(l.map λz=>if c z.1 z.2=true then (z.1,NameKind.cell) else (z.1,z.2)).lookup y=(l.lookup y).map λk=>if c y k=true then NameKind.cell else k
 | []=>rfl
 | (n,k) :: l=>by
  have ih:=jW (c:=c) (y:=y) l
  rw[BF]
  have e:(if c n k=true then (n,NameKind.cell) else (n,k))=(n,if c n k=true then NameKind.cell else k):=by split <;> rfl
  show List.lookup y ((if c n k=true then (n,NameKind.cell) else (n,k)) :: _)=_
  rw[e,EH,EH]
  cases hx:(y == n) with
  | true =>
   have en:y=n:=eq_of_beq hx
   subst en
   rfl
  | false=>exact ih
def blk (X:Cx)(sc:Scope)(cl:List (Str×Addr))(C:Addr)(N':List Str)(s:Bi)(H:Hp)(fp:List Addr):Cx :=
 { X with N:=N',s₀:=s,H₀:=H,env:=compEnvC sc cl C X.env,outer:=X.stack,ex:=fp,fn:=λ_=>false,pn:=[],xe:=λ_ _=>False }
def PF (X:Cx)(ifs:List Expr)(t:TT):Prop :=
  ∀(pins:List (Addr×Obj)) (s:Bi) (σ:St) (H:Hp) (Q:Bool->Hp->Prop),Inv X pins σ H s->t σ H Q →
    BL (B1 X.prog X.w) X.A (forIn ifs true λc r=>if r=true then do let ok ← isTrue c X.env (eval c X.env);pure (ForInStep.yield ok) else pure (ForInStep.yield r)) (TP X pins σ Q) X.xe s
theorem fE {X:Cx}:PF X [] (λ_ H Q=>Q true H):=λ_ _ _ H _ I h=>wpAny_tests_nil ⟨H,I,h⟩
theorem d9 {X:Cx}{c:Expr}{t:TT}(h:PT X c t):PF X [c] t:=λpins s σ H Q I q=>wpAny_tests_one (h pins s σ H Q I q)
def inner (ix:List (Option Nat))(σ:St):St:=ix.map λo=>match o with | none=>none | some j=>(σ[j]?).join
def gD (J:It)(g:TG)(tc:TT)(te:TE)(τ:St)(Q:VK)(H1:Hp):Prop:=∃W:Nat->Nat->St->List V->Hp->Prop,(∃m,W 0 m τ [] H1)/\∀i m τ ys H,W i m τ ys H →
 (J.stop i H/\ys.length<=BJ/\∀l,H l=none->Q (.ref l) (upd H l (.lst ys))) ∨
 (J.go i H/\∀x H',J.yld i H x H'->g x τ H' λτ2 H2=>tc τ2 H2 λb H3=>if b=true then te τ2 H3 λy H4=>ys.length<BJ/\∃m',m'<m/\W (i+1) m' τ2 (ys++[y]) H4 else ∃m',m'<m/\W (i+1) m' τ2 ys H3)
def vG (ix:List (Option Nat))(wi:TI)(g:TG)(tc:TT)(te:TE):TE:=λσ H Q=>wi σ H λJ H1=>gD J g tc te (inner ix σ) Q H1
section
variable  {X:Cx}{sc:Scope}{N':List Str}{ix:List (Option Nat)}{pins:List (Addr×Obj)}{σ:St}{H:Hp}{s:Bi}
theorem zB (I:Inv X pins σ H s)(K:d8 X.env.scope.names X.N sc N' ix){C:Addr}{fp:List Addr}(hC:s.heap.objs.size<=C)(f:∀b∈fp,jO X pins H b)(fl:∀b∈fp,b<s.heap.objs.size) :
  (blk X sc (aG X.env sc.names []) C N' s H fp).Ok:=by
 have hcl:∀y∈sc.names,y.2 = .free->∃c,X.env.cells.lookup y.1=some c:=λy hy e=>I.ok.has y.1 (K.frees y hy e)
 have up:∀y c,(aG X.env sc.names []).lookup y=some c->X.env.cells.lookup y=some c:=λy c e=>by
  rcases cp sc.names [] hcl e with q | q
  ·cases q
  ·exact q
 have nfs:∀b∈fp,b∉frs X.stack:=λb hb z=>by
  rcases BR.mp (I.mX b z) with q | q
  ·exact (f b hb).2.1 q
  ·exact (f b hb).2.2.1 q
 refine ⟨I.ok.mod,K.kind,I.ok.glob,I.ok.blt,hC,λy z c h1 h2=>I.ok.inj y z c (up _ _ h1) (up _ _ h2),λy hy =>?_,(λy c h=>nomatch h),I.ok.hd,I.ok.frames,.inl rfl,λb hb =>?_,λb o e=>I.bs b o e,BS I.ok.bsz I.sz,λb o e hb =>?_,nfs,I.stack,I.mY⟩
 ·have hy':(relabel sc X.env).names.lookup y=some .cell\/(relabel sc X.env).names.lookup y=some .free:=hy
  have em:=jW (c:=λn k=>k == .free && X.env.scope.kind == .function && X.env.kindOf n == some .cell) (y:=y) sc.names
  have em':(relabel sc X.env).names.lookup y=_:=em
  rw[em'] at hy'
  cases hq:sc.names.lookup y with
  | none=>rw[hq] at hy';rcases hy' with q | q <;> cases q
  | some k =>
   have km:=cF hq
   have hk:k = .free:=by
    rw[hq] at hy'
    simp only[Em,Option.some.injEq] at hy'
    by_cases hc:(k == .free && X.env.scope.kind == .function && X.env.kindOf y == some .cell)=true
    ·rw[Cj,Cj] at hc
     exact by simpa using hc.1.1
    ·rw[if_neg hc] at hy'
     rcases hy' with q | q
     ·exact absurd q (K.nocell _ km)
     ·exact q
   subst hk
   exact cq sc.names [] (.inl km)
 ·exact ⟨BI (BE (fl b hb) hC),λy c e=>(f b hb).2.2.2.2.1 y c (up y c e)⟩
 ·rcases (f b hb).2.2.2.1 with q | q
  ·exact I.ok.noex b o e q
  ·exact absurd (BE (Bq e) (BS I.ok.bsz q)) (CN _)
theorem xK (I:Inv X pins σ H s)(K:d8 X.env.scope.names X.N sc N' ix){C:Addr}{fp:List Addr}(hC:s.heap.objs.size<=C)(f:∀b∈fp,jO X pins H b)(fl:∀b∈fp,b<s.heap.objs.size)
  {h1:Heap} {t:Nat} {m:Str->Option Bh} (k:∀b o,s.heap.get? b=some o->h1.get? b=some o) (ns:h1.Ns C m) :
  Inv (blk X sc (aG X.env sc.names []) C N' s H fp) [] (inner ix σ) H { s with heap:=h1,toks:=t }:=by
 have hcl:∀y∈sc.names,y.2 = .free->∃c,X.env.cells.lookup y.1=some c:=λy hy e=>I.ok.has y.1 (K.frees y hy e)
 have up:∀y c,(aG X.env sc.names []).lookup y=some c->X.env.cells.lookup y=some c:=λy c e=>by
  rcases cp sc.names [] hcl e with q | q
  ·cases q
  ·exact q
 refine ⟨zB I K hC f fl,rfl,I.bare,Un.kept k,⟨m,ns,λi y v e1 e2 e3 =>?_⟩,λy c e =>?_,I.hok.fresh hC,λy c e=>I.freeC y c (up y c e),(λp hp=>nomatch hp),I.hok.kept k,?_⟩
 ·have e2':(ix.map λo=>match o with | none=>none | some j=>(σ[j]?).join)[i]? = some (some v):=e2
  rw[BQ] at e2'
  cases hi:ix[i]? with
  | none=>rw[hi] at e2';cases e2'
  | some o =>
   cases o with
   | none=>rw[hi] at e2';cases e2'
   | some j =>
    rw[hi] at e2'
    have e4:(σ[j]?).join=some v:=BW e2'
    have e5:σ[j]? = some (some v):=by
     cases hj:σ[j]? with
     | none=>rw[hj] at e4;cases e4
     | some z=>rw[hj] at e4;rw[show z=some v from e4]
    obtain ⟨n1,n2⟩:=K.slot i j y hi e1
    have mem:=cF n2
    have kc:X.env.kindOf y=some .cell\/X.env.kindOf y=some .free:=K.frees _ mem rfl
    obtain ⟨m',_,hl⟩:=I.loc
    obtain ⟨u,r,l⟩:=hl j y v n1 e5 (.inr kc)
    refine ⟨u,r,?_⟩
    rcases l with ⟨q,_⟩ | ⟨_,c,q,z⟩
    ·rcases kc with kc | kc <;> (rw[kc] at q;cases q)
    ·obtain ⟨c',hc'⟩:=cq (env:=X.env) (y:=y) sc.names [] (.inl mem)
     have:=up y c' hc'
     rw[q] at this
     cases this
     refine .inr ⟨?_,c,hc',z.keeps k⟩
     have em:=jW (c:=λn k=>k == .free && X.env.scope.kind == .function && X.env.kindOf n == some .cell) (y:=y) sc.names
     have em':(relabel sc X.env).names.lookup y=_:=em
     rcases kc with kc | kc
     ·left
      show (relabel sc X.env).names.lookup y=some .cell
      rw[em',n2]
      simp only[Em,kc,I.ok.kind]
      rfl
     ·right
      show (relabel sc X.env).names.lookup y=some .free
      rw[em',n2]
      simp only[Em,kc,I.ok.kind]
      rfl
 ·obtain ⟨v,z⟩:=I.cell y c (up y c e)
  exact ⟨v,z.keeps k⟩
 ·show (ix.map _).length=N'.length
  rw[Bg]
  exact K.len
end
open PySem PySem.Spec PyProof.Rows
theorem qD {prog:BD}{w:Cb}{A:B9}{R:Result->Bi->Prop}{s:Bi}{elt target iter:Expr}{ifs:List Expr}{sc:Scope}{pos:Pos}{it acc:Bh}{env:Env}(J:Nat->Bi->Prop)
    (turn:∀n s,J n s->BL (B1 prog w) A (pyNext it) (λr s1=>match r with
      | none=>R (.ok .next) s1
      | some v=>BL (B1 prog w) A (letOwnedTupleGo target it v) (λ_ s2=>BL (B1 prog w) A (assign target env v) (λ_ s3 =>
          BL (B1 prog w) A (forIn ifs true λc r=>if r=true then do let ok ← isTrue c env (eval c env);pure (ForInStep.yield ok) else pure (ForInStep.yield r)) (λok s4 =>
            if ok=true then BL (B1 prog w) A (eval elt env) (λx s5=>BL (B1 prog w) A (call (.builtin "list.append") [acc,x]) (λ_ s6=>∃m,m<n/\J m s6) (λ_ _=>False) s5) (λ_ _=>False) s4
            else ∃m,m<n/\J m s4) (λ_ _=>False) s3) (λ_ _=>False) s2) (λ_ _=>False) s1) (λ_ _=>False) s)
    (n:Nat) (h:J n s):GR (B1 prog w) A (.compLoop (.ListComp elt [⟨target,iter,ifs,0⟩] sc pos) 0 it acc env) R s:=by
  refine codeAny_loop rfl J (λk t q =>?_) n h
  show BL _ A (Sem.onRaise (compTurn (.ListComp elt [⟨target,iter,ifs,0⟩] sc pos) 0 it acc env) (λx=>do noteFrame x env;theTreesLotGoes x)) _ _ t
  refine wpAny_noted ?_
  rw[compTurn_list]
  have no:∀{E:Bh->Bi->Prop} (x:Bh) (t:Bi),False->E x t:=λ_ _ z=>z.elim
  refine Bd (He (Bd (Dg (turn k t q) (λr s1 h1 =>?_) no)))
  cases r with
  | none=>exact Bk h1
  | some v =>
    refine Bd (Dg h1 (λ_ s2 h2=>Bd (Dg h2 (λ_ s3 h3=>Bd (Dg h3 (λok s4 h4 =>?_) no)) no)) no)
    cases ok with
    | false=>exact Bk ⟨rfl,h4⟩
    | true=>exact Bd (Bd (Dg h4 (λx s5 h5=>Bd (Dg h5 (λ_ s6 h6=>Bk (Bk ⟨rfl,h6⟩)) no)) no))
section
variable  {X:Cx}
def xM (X:Cx)(pins:List (Addr×Obj))(σ:St)(Q:VK)(use:Option (Bh->Sem Unit))(Q2:Bh->Bi->Prop):Prop :=
 ∀(s4:Bi) (H3:Hp) (acc C:Addr) (ys:List V) (oC:Obj),Inv X (pins++[(C,oC)]) σ (upd H3 acc (.lst ys)) s4->(∃m,s4.heap.Ns C m)->X.s₀.heap.objs.size<=C->(∀x c,X.env.cells.lookup x=some c->c≠C)->(∀p∈X.pn++pins,p.1≠C)->Q (.ref acc) (upd H3 acc (.lst ys)) →
  compPost (B1 X.prog X.w) X.A X.xe use Q2 (.ref acc) C (.ok .next) s4
theorem lU {elt target iter:Expr}{ifs:List Expr}{sc:Scope}{pos ps:Pos}{wi:TI}{g:TG}{tc:TT}{te:TE}{N':List Str}{ix:List (Option Nat)}{use:Option (Bh->Sem Unit)}{Q2:Bh->Bi->Prop}
  {pins:List (Addr×Obj)} {s:Bi} {σ:St} {H:Hp} {Q:VK}
  (hcalm:X.calm=true) (hi:PI X target iter wi) (hk:oH X.env.scope.names X.N sc N' ix=true)
  (hg:∀cl C s H fp,PG (blk X sc cl C N' s H fp) target g) (hc:∀cl C s H fp,PF (blk X sc cl C N' s H fp) ifs tc) (he:∀cl C s H fp,PE (blk X sc cl C N' s H fp) elt te)
  (hs:∀x,foldedSetIterable iter X.env x=pure x) (fin:xM X pins σ Q use Q2) (I:Inv X pins σ H s) (h:vG ix wi g tc te σ H Q) :
  BL (B1 X.prog X.w) X.A (comprehension (.ListComp elt [⟨target,iter,ifs,0⟩] sc pos) sc X.env ps (newList []) false (eval iter X.env) use) Q2 X.xe s:=by
 have K:=d8.of hk
 have hcl:∀y∈sc.names,y.2 = .free->∃c,X.env.cells.lookup y.1=some c:=λy hy e=>I.ok.has y.1 (K.frees y hy e)
 refine wpAny_comprehension_free rfl hs (jV hcl) K.kind K.locs (thn (hi pins s σ H _ I h) λv s1 h1=>thn h1 λitv s2 h2 =>?_)
 obtain ⟨it,fp,tn,J,H2,e,I2,T,st2,f2,W,⟨m0,w0⟩,turn⟩:=h2
 subst e
 refine Ca (HN K.nocell (by intro y hy;simp at hy) (λh1 ns1 sb1 =>?_) K.kind)
 dsimp only at ns1 sb1 ⊢
 generalize hP:s2.heap.push { cls :=.type "list",dict:=none,data :=.seq ([]:List Bh).toArray }=G at ns1 sb1 ⊢
 have sG:G.objs.size=s2.heap.objs.size+1:=by rw[<- hP,EK]
 have fl:∀b∈fp,b<s2.heap.objs.size:=λb hb=>by
  obtain ⟨o,e,_⟩:=T.obj _ _ st2 b hb
  exact Bq e
 have hC:s2.heap.objs.size<=G.objs.size:=by rw[sG];exact FH _
 have aC:s2.heap.objs.size≠G.objs.size:=by rw[sG];exact BI (D6 _)
 have old:∀b o,s2.heap.get? b=some o->h1.get? b=some o:=λb o e=>by
  have lt:=Bq e
  have ne:b≠G.objs.size:=BI (BE lt hC)
  rw[sb1.2 b ne]
  exact Bf _ (hP ▸ Bf _ e)
 have accO:h1.PlainList s2.heap.objs.size #[]:=⟨_,by
  rw[sb1.2 _ aC]
  exact Bf _ (hP ▸ Bp _ rfl)⟩
 have IB:=xK (t:=s2.toks+([]:List (Str×Bh)).length) I2 K hC f2 fl old ns1
 have up:∀y c,(aG X.env sc.names []).lookup y=some c->X.env.cells.lookup y=some c:=λy c e=>by
  rcases cp sc.names [] hcl e with q | q
  ·cases q
  ·exact q
 have accNotCell:∀y c,(aG X.env sc.names []).lookup y=some c->c≠s2.heap.objs.size:=λy c e z=>by
  obtain ⟨v,q⟩:=I2.cell y c (up y c e)
  exact absurd q.lt (by rw[z];exact CN _)
 have accFs:s2.heap.objs.size∉frs X.stack:=λz=>by
  rcases BR.mp (I2.mX _ z) with q | q
  ·exact absurd I2.lt (by rw[<- q];exact CN _)
  ·exact I2.xA (Bn _) q
 have accFp:s2.heap.objs.size∉fp:=λz=>absurd (fl _ z) (CN _)
 have stat:∀{H':Hp} {ob:Obj},(∀b∈fp,H' b=none)->∀b∈fp,jO (blk X sc (aG X.env sc.names []) G.objs.size N' s2 H2 fp) [(s2.heap.objs.size,ob)] H' b:=λ{H' ob} hn b hb=>by
  refine ⟨hn b hb,BI (BE (fl b hb) hC),IB.ok.exfs b hb,.inl hb,λy c e=>(f2 b hb).2.2.2.2.1 y c (up y c e),λp hp z =>?_⟩
  have ep:p=(s2.heap.objs.size,ob):=by simpa [blk] using hp
  subst ep
  exact accFp (by rw[show s2.heap.objs.size=b from z];exact hb)
 have accPin:∀{pl:List (Addr×Obj)} {σ':St} {H':Hp} {s':Bi} {its:Array Bh} {n:Nat},Inv (blk X sc (aG X.env sc.names []) G.objs.size N' s2 H2 fp) pl σ' H' s'->s'.heap.get? s2.heap.objs.size=some { cls :=.type "list",data :=.seq its n } →
   H' s2.heap.objs.size=none->Inv (blk X sc (aG X.env sc.names []) G.objs.size N' s2 H2 fp) [(s2.heap.objs.size,{ cls :=.type "list",data :=.seq its n })] σ' H' s':=λ{pl σ' H' s' its n} J' e nn=>J'.dW λp hp=>by
  have ep:p=(s2.heap.objs.size,({ cls :=.type "list",data :=.seq its n }:Obj)):=by simpa [blk] using hp
  subst ep
  exact ⟨e,nn,aC,accFs,λv z=>nomatch z⟩
 have loop:GR (B1 X.prog X.w) X.A (.compLoop (.ListComp elt [⟨target,iter,ifs,0⟩] sc pos) 0 (.ref it) (.ref s2.heap.objs.size) (compEnvC sc (aG X.env sc.names []) G.objs.size X.env))
   (compPost (B1 X.prog X.w) X.A X.xe use Q2 (.ref s2.heap.objs.size) G.objs.size) { s2 with heap:=h1,toks:=s2.toks+([]:List (Str×Bh)).length }:=by
  refine qD (λn s'=>∃i ys its nn σ' H',Inv (blk X sc (aG X.env sc.names []) G.objs.size N' s2 H2 fp) [(s2.heap.objs.size,{ cls :=.type "list",data :=.seq its nn })] σ' H' s'/\Vals ys its.toList/\tn i s'.heap/\(∀b∈fp,H' b=none)/\W i n σ' ys H')
   (λn s3 h3 =>?_) m0 ?_
  ·obtain ⟨i,ys,its,nn,σ3,H3,I3,r3,st3,fr3,w3⟩:=h3
   obtain ⟨e3,a3,_,_,_⟩:=I3.pin (s2.heap.objs.size,{ cls :=.type "list",data :=.seq its nn }) (by simp[blk])
   rcases turn i n σ3 ys H3 w3 with ⟨stop,zl,q3⟩ | ⟨go,step⟩
   ·refine thn (T.done (blk X sc (aG X.env sc.names []) G.objs.size N' s2 H2 fp) rfl rfl rfl hcalm i _ s3 σ3 H3 _ I3 (stat fr3) st3 stop) λr s4 ⟨hr,I4⟩ =>?_
    subst hr
    obtain ⟨e4,a4,_,_,_⟩:=I4.pin (s2.heap.objs.size,{ cls :=.type "list",data :=.seq its nn }) (by simp[blk])
    obtain ⟨m4,n4,_⟩:=I4.loc
    obtain ⟨oC,es4,ep4,c4,d4,r4⟩:=id n4
    have ltA:∀b o,s2.heap.get? b=some o->b≠s2.heap.objs.size:=λb o e=>BI (Bq e)
    have B:=I4.base
    have hok:HOk X.prog X.w (upd H3 s2.heap.objs.size (.lst ys)) s4.heap:=λb o e=>by
     by_cases hb:b=s2.heap.objs.size
     ·subst hb
      rw[af] at e
      cases e
      exact ⟨zl,its.toList,nn,r3,e4⟩
     ·rw[ao hb] at e
      refine (I4.hok b o e).jL (λc u hc q=>q) (λc q =>?_) (λc xs q =>?_)
      ·rw[ao (aA q a4)];exact q
      ·rw[ao (aA q a4)];exact q
    have I5:Inv X pins σ (upd H3 s2.heap.objs.size (.lst ys)) s4:=by
     refine I2.yS (ch:=fp) I4.os ⟨λb o e n hb hx=>B.keep b o e n hb hx,λb o e n hb hx=>B.slot b o e n hb hx,λb o e n hx =>?_,λb o e hx=>B.there b o e hx,λb xs e =>?_,λb o u e =>?_,λb ps e =>?_⟩ hok I4.bare (λb hb =>?_)
     ·rw[ao (ltA b o e)];exact B.free b o e n hx
     ·have q:=B.tups b xs e
      rw[ao (aA q a4)];exact q
     ·have q:=B.frzs b o u e
      rw[ao (aA q a4)];exact q
     ·obtain ⟨more,q⟩:=B.tbls b ps e
      exact ⟨more,by rw[ao (aA q a4)];exact q⟩
     ·obtain ⟨g0,g1,g2,g3,g4,g5⟩:=f2 b hb
      exact ⟨g3,g1,g4,g5⟩
    have cL:G.objs.size≠X.env.locals:=EU (BE I2.lt hC)
    have I6:Inv X (pins++[(G.objs.size,oC)]) σ (upd H3 s2.heap.objs.size (.lst ys)) s4:=I5.dW λp hp=>by
     rcases BC.mp hp with q | q
     ·exact I5.pin p (BO _ q)
     ·have ep:p=(G.objs.size,oC):=by simpa using q
      subst ep
      exact ⟨c4,by rw[ao (C6 aC)];exact I4.free,cL,I2.xA hC,λv z=>by rw[d4] at z;cases z⟩
    refine fin s4 H3 s2.heap.objs.size G.objs.size ys oC I6 ⟨m4,n4⟩ (BS I2.sz hC) (λy c e z =>?_) (λp hp z =>?_) (q3 _ a4)
    ·obtain ⟨v,q⟩:=I2.cell y c e
     exact absurd (BE q.lt hC) (by rw[z];exact CN _)
    ·exact absurd (BE (Bq (I2.pin p hp).1) hC) (by rw[z];exact CN _)
   ·refine thn (T.item (blk X sc (aG X.env sc.names []) G.objs.size N' s2 H2 fp) rfl rfl rfl hcalm i _ s3 σ3 H3 _ I3 (stat fr3) st3 go) λr s4 ⟨u,hr,h4⟩ =>?_
    subst hr
    refine thn h4 λ_ s5 ⟨x,H5,I5,r5,y5,st5,fr5⟩ =>?_
    have I5':=I5.pinned (stat fr5) (T.obj _ _ st5)
    refine thn (hg _ _ _ _ _ _ s5 σ3 H5 x u _ I5' r5 (step x H5 y5)) λ_ s6 ⟨σ6,H6,I6,q6⟩ =>?_
    refine thn (hc _ _ _ _ _ _ s6 σ6 H6 _ I6 q6) λok s7 ⟨H7,I7,q7⟩ =>?_
    have back:∀{σ7:St} {H7:Hp} {s7:Bi},Inv (blk X sc (aG X.env sc.names []) G.objs.size N' s2 H2 fp) ([(s2.heap.objs.size,{ cls :=.type "list",data :=.seq its nn })]++gK fp s5.heap) σ7 H7 s7->tn (i+1) s7.heap/\∀b∈fp,H7 b=none:=λJ7 =>
     ⟨T.keep _ _ _ st5 λb hb o e=>(J7.pin (b,o) (BO _ (BO _ (cZ hb e)))).1,λb hb=>by
      obtain ⟨o,e,d⟩:=T.obj _ _ st5 b hb
      exact (J7.pin (b,o) (BO _ (BO _ (cZ hb e)))).2.1⟩
    cases ok with
    | false =>
     rw[if_neg (by decide)] at q7
     obtain ⟨m',lm,w7⟩:=q7
     show ∃m,m<n/\_
     exact ⟨m',lm,i+1,ys,its,nn,σ6,H7,I7.dG,r3,(back I7).1,(back I7).2,w7⟩
    | true =>
     rw[if_pos rfl] at q7
     refine thn (he _ _ _ _ _ _ s7 σ6 H7 _ I7 q7) λz s8 ⟨y,H8,I8,r8,lz,m',lm,w8⟩ =>?_
     obtain ⟨e8,a8,_,_,_⟩:=I8.pin (s2.heap.objs.size,{ cls :=.type "list",data :=.seq its nn }) (by simp[blk])
     have sz:its.size<=BJ:=by
      have l:ys.length=its.size:=r3.length.trans Bl
      rw[<- l]
      exact Fo lz
     refine wpAny_list_append_plain ⟨nn,e8⟩ (λh' pl' sb' =>?_) sz
     obtain ⟨n9,e9⟩:=pl'
     have I8p:Inv (blk X sc (aG X.env sc.names []) G.objs.size N' s2 H2 fp) (gK fp s5.heap) σ6 H8 s8:=I8.dW λp hp=>I8.pin p (BO _ (BO _ hp))
     have I9:=I8p.turned (it:=s2.heap.objs.size) (h':=h') (t':=s8.toks) (λb o ne e=>by rw[sb'.2 b ne];exact e) a8 aC (.inr (Bn _)) (λy c e=>accNotCell y c e) (λp hp z=>by
      have hp':p∈gK fp s5.heap:=by simpa [blk] using hp
      exact accFp (by rw[<- z];exact (lN hp').1))
     have b9:tn (i+1) h'/\∀b∈fp,H8 b=none :=
      ⟨T.keep _ _ _ st5 λb hb o e=>(I9.pin (b,o) (BO _ (cZ hb e))).1,(back I8).2⟩
     exact ⟨m',lm,i+1,ys++[y],its.push z,n9,σ6,H8,accPin I9 e9 a8,by rw[En];exact r3.append (.cons r8 .nil),b9.1,b9.2,w8⟩
  ·obtain ⟨n0,e0⟩:=accO
   exact ⟨0,[], #[],n0,_,H2,accPin IB e0 (I2.hok.fresh (Bn _)),.nil,T.keep _ _ _ st2 λb hb o e=>old b o e,λb hb=>(f2 b hb).1,w0⟩
 exact codeAny_compStart_list loop (T.self _ 0 _ _ _ (T.keep _ _ _ st2 λb hb o e=>old b o e) loop)
theorem bV {elt target iter:Expr}{ifs:List Expr}{sc:Scope}{pos:Pos}{wi:TI}{g:TG}{tc:TT}{te:TE}(N':List Str)(ix:List (Option Nat))
  (hcalm:X.calm=true) (hi:PI X target iter wi) (hk:oH X.env.scope.names X.N sc N' ix=true)
  (hg:∀cl C s H fp,PG (blk X sc cl C N' s H fp) target g) (hc:∀cl C s H fp,PF (blk X sc cl C N' s H fp) ifs tc) (he:∀cl C s H fp,PE (blk X sc cl C N' s H fp) elt te)
  (hs:∀x,foldedSetIterable iter X.env x=pure x:=by intro _;rfl):PE X (.ListComp elt [⟨target,iter,ifs,0⟩] sc pos) (vG ix wi g tc te):=by
 intro pins s σ H Q I h
 rw[eval_ListComp]
 refine lU hcalm hi hk hg hc he hs (λs4 H3 acc C ys oC I4 ns hC hc hp q =>?_) I h
 obtain ⟨m,ns⟩:=ns
 refine ⟨m,ns,λh' sb=>⟨.ref acc,_,?_,rfl,q⟩⟩
 obtain ⟨_,n0,n1,n2,_⟩:=I4.pin (C,oC) (by simp)
 exact (I4.dG).turned (it:=C) (h':=h') (t':=s4.toks) (λb o ne e=>by rw[sb.2 b ne];exact e) n0 n1 (.inr hC) hc hp
theorem de {elt target iter:Expr}{ifs:List Expr}{sc:Scope}{pos pos' spos:Pos}{wi:TI}{g:TG}{tc:TT}{te:TE}{i:Nat}{x:Str}(N':List Str)(ix:List (Option Nat))
    (hcalm:X.calm=true) (hN:X.N.Nodup) (hx:X.N[i]? = some x) (hl:X.env.scope.names.lookup x=some .local)
    (hi:PI X target iter wi) (hk:oH X.env.scope.names X.N sc N' ix=true)
    (hg:∀cl C s H fp,PG (blk X sc cl C N' s H fp) target g) (hc:∀cl C s H fp,PF (blk X sc cl C N' s H fp) ifs tc) (he:∀cl C s H fp,PE (blk X sc cl C N' s H fp) elt te)
    (hsw:swapsWith (.ListComp elt [⟨target,iter,ifs,0⟩] sc pos) (some (.Name x pos')) spos.line X.env=pure true:=by rfl)
    (hs:∀x,foldedSetIterable iter X.env x=pure x:=by intro _;rfl):PS X (.Assign [.Name x pos'] (.ListComp elt [⟨target,iter,ifs,0⟩] sc pos) spos) (zp (vG ix wi g tc te) (fj i)):=by
  intro pins s σ H D I h
  rw[exec_Assign_Name_used _ _ _ _ hsw]
  refine Bd (He (Bd ?_))
  show BL _ X.A (do let _ ← comprehension (.ListComp elt [⟨target,iter,ifs,0⟩] sc pos) sc X.env _ (newList []) false (eval iter X.env) (some (assign (.Name x pos') X.env))) _ _ s
  refine Bd (Dg (lU (Q:=λv H1=>D.nx (σ.set i (some v)) H1) (Q2:=λ_ s'=>SP X pins D .next s') hcalm hi hk hg hc he hs (λs4 H3 acc C ys oC I4 ns hC hc hp q =>?_) I h) (λ_ s' q=>Bk (Bk q)) λ_ _ e=>e)
  obtain ⟨m,ns⟩:=ns
  obtain ⟨e0,n0,n1,n2,_⟩:=I4.pin (C,oC) (by simp)
  show BL _ X.A (assign (.Name x pos') X.env (.ref acc)) _ _ s4
  refine thn ((aB (i:=i) hN hx (.inl hl) (.inr hl)) (pins++[(C,oC)]) s4 σ _ (.ref acc) (.ref acc) _ I4 rfl q) λ_ s5 ⟨σ5,H5,I5,q5⟩ =>?_
  obtain ⟨e5,k0,k1,k2,_⟩:=I5.pin (C,oC) (by simp)
  obtain ⟨o',es',ep',c',r'⟩:=ns
  have e':=e0.symm.trans c'
  cases e'
  refine ⟨m,⟨_,es',ep',e5,r'⟩,λh' sb=>⟨σ5,H5,?_,q5⟩⟩
  exact (I5.dG).turned (it:=C) (h':=h') (t':=s5.toks) (λb o ne e=>by rw[sb.2 b ne];exact e) k0 k1 (.inr hC) hc hp
end
open PySem PySem.Spec PyProof.Rows
section
variable  {X:Cx}
def AY (K:Be):R2:=λx y H Q=>∃l b xs zs,x = .ref l/\y = .ref b/\SqL K H l xs/\SqL K H b zs/\xs.length+zs.length<=BJ/\∀p,H p=none->Q (.ref p) (upd H p (.lst (xs++zs)))
theorem f7:OpR X (binaryOp .Add) (AY X.K):=by
 intro pins s σ H x y v u Q I rx ry h
 obtain ⟨l,b,xs,zs,rfl,rfl,hH,hB,hz,q⟩:=h
 cases rx
 cases ry
 obtain ⟨its,r,e,z⟩:=I.list hH
 obtain ⟨its2,r2,e2,z2⟩:=I.list hB
 obtain ⟨⟨c1,d1,da1,sl1⟩,n,e,k1,k2,k3⟩:=e
 obtain ⟨⟨c2,d2,da2,sl2⟩,n2,e2,g1,g2,g3⟩:=e2
 simp only at k1 k3 g1 g3
 subst k1 k3 g1 g3
 have l1:=r.length
 have l2:=r2.length
 have ea:its.toArray++its2.toArray=(its++its2).toArray:=by simp
 refine GB ⟨_,e,rfl⟩ ⟨_,e2,rfl⟩ noFill_list_add seq_list_add PySem.F.slot_list_add PySem.F.entry_list_add
  (PySem.F.args_list_add_2 _ _) (list_addW l b its.toArray its2.toArray n n2 d1 d2 sl1 sl2 (by rw[Bm,Bm];omega)) ⟨e,e2,?_⟩
 rw[ea]
 exact ⟨.ref _,_,I.lnew (t':=s.toks) (r.append r2) (by rw[Bj];omega),rfl,q _ I.fresh⟩
end
def jX (k:Nat)(tc:TT)(te:TE)(τ:St)(Pv:Nat->List V->Hp->Prop)(i:Nat)(x:V)(ys:List V)(H:Hp):Prop :=
 ∀(R1:V->Hp->Prop) (R0:Hp->Prop),(∀y H4,Pv (i+1) (ys++[y]) H4->R1 y H4)->(∀H3,Pv (i+1) ys H3->R0 H3)->tc (τ.set k (some x)) H λb H3=>if b=true then te (τ.set k (some x)) H3 R1 else R0 H3
theorem jY {K:Be}{a:Addr}{xs:List V}{k:Nat}{tc:TT}{te:TE}{τ:St}{H:Hp}{Q:VK}(Pv:Nat->List V->Hp->Prop)(h0:Pv 0 [] H)(hz:xs.length<=BJ)
  (hl:∀i ys H,i<=xs.length->Pv i ys H->SqL K H a xs) (hs:∀i x ys H,xs[i]? = some x->ys.length<=i->Pv i ys H->jX k tc te τ Pv i x ys H)
  (hd:∀ys H,ys.length<=xs.length->Pv xs.length ys H->∀l,H l=none->Q (.ref l) (upd H l (.lst ys))) :
  gD (Itl K a) (fj k) tc te τ Q H:=by
 refine ⟨λi m σ ys H=>m=xs.length-i/\i<=xs.length/\(∀x,σ.set k (some x)=τ.set k (some x))/\ys.length<=i/\Pv i ys H,⟨xs.length,by simp,BU _,λ_=>rfl,Bn _,h0⟩,?_⟩
 rintro i m σ ys H ⟨rfl,hi,hτ,hy,p⟩
 have q:=hl i ys H hi p
 by_cases hlt:i<xs.length
 ·refine .inr ⟨⟨xs,xs[i],q,by simp[hlt]⟩,λx H' y =>?_⟩
  obtain ⟨e,y⟩:=y
  subst e
  show tc (σ.set k (some x)) _ _
  rw[hτ x]
  have hσ:∀z,(τ.set k (some x)).set k (some z)=τ.set k (some z):=λz=>by rw[Hv]
  refine hs i x ys _ (y xs q) hy p _ _ (λy4 H4 p4=>⟨by omega,xs.length-(i+1),by omega,rfl,hlt,hσ,by rw[Bj,BV];omega,p4⟩) λH3 p3=>⟨xs.length-(i+1),by omega,rfl,hlt,hσ,by omega,p3⟩
 ·have e:i=xs.length:=by omega
  subst e
  exact .inl ⟨⟨xs,q,Bn _⟩,by omega,hd ys H hy p⟩
theorem iR {K:Be}{a:Addr}{xs:List V}{k:Nat}{tc:TT}{te:TE}{τ:St}{H:Hp}{Q:VK}(Pv:Nat->List V->Hp->Prop)(h0:Pv 0 [] H)(hz:xs.length<=BJ)
  (hl:∀i ys H,i<=xs.length->Pv i ys H->SqT K H a xs) (hs:∀i x ys H,xs[i]? = some x->ys.length<=i->Pv i ys H->jX k tc te τ Pv i x ys H)
  (hd:∀ys H,ys.length<=xs.length->Pv xs.length ys H->∀l,H l=none->Q (.ref l) (upd H l (.lst ys))) :
  gD (Itt K a) (fj k) tc te τ Q H:=by
 refine ⟨λi m σ ys H=>m=xs.length-i/\i<=xs.length/\(∀x,σ.set k (some x)=τ.set k (some x))/\ys.length<=i/\Pv i ys H,⟨xs.length,by simp,BU _,λ_=>rfl,Bn _,h0⟩,?_⟩
 rintro i m σ ys H ⟨rfl,hi,hτ,hy,p⟩
 have q:=hl i ys H hi p
 by_cases hlt:i<xs.length
 ·refine .inr ⟨⟨xs,xs[i],q,by simp[hlt]⟩,λx H' y =>?_⟩
  obtain ⟨e,y⟩:=y
  subst e
  show tc (σ.set k (some x)) _ _
  rw[hτ x]
  have hσ:∀z,(τ.set k (some x)).set k (some z)=τ.set k (some z):=λz=>by rw[Hv]
  refine hs i x ys _ (y xs q) hy p _ _ (λy4 H4 p4=>⟨by omega,xs.length-(i+1),by omega,rfl,hlt,hσ,by rw[Bj,BV];omega,p4⟩) λH3 p3=>⟨xs.length-(i+1),by omega,rfl,hlt,hσ,by omega,p3⟩
 ·have e:i=xs.length:=by omega
  subst e
  exact .inl ⟨⟨xs,q,Bn _⟩,by omega,hd ys H hy p⟩
theorem oI {lo:Int}{n:Nat}{k:Nat}{tc:TT}{te:TE}{τ:St}{H:Hp}{Q:VK}(Pv:Nat->List V->Hp->Prop)(h0:Pv 0 [] H)(hz:n<=BJ)
  (hs:∀i ys H,i<n->ys.length<=i->Pv i ys H->jX k tc te τ Pv i (.int (lo+i)) ys H)
  (hd:∀ys H,ys.length<=n->Pv n ys H->∀l,H l=none->Q (.ref l) (upd H l (.lst ys))) :
  gD (Itr lo n) (fj k) tc te τ Q H:=by
 refine ⟨λi m σ ys H=>m=n-i/\i<=n/\(∀x,σ.set k (some x)=τ.set k (some x))/\ys.length<=i/\Pv i ys H,⟨n,by simp,BU _,λ_=>rfl,Bn _,h0⟩,?_⟩
 rintro i m σ ys H ⟨rfl,hi,hτ,hy,p⟩
 by_cases hlt:i<n
 ·refine .inr ⟨hlt,λx H' y =>?_⟩
  obtain ⟨e,y⟩:=y
  subst e y
  show tc (σ.set k (some (.int (lo+i)))) _ _
  rw[hτ]
  have hσ:∀z,(τ.set k (some (.int (lo+i)))).set k (some z)=τ.set k (some z):=λz=>by rw[Hv]
  refine hs i ys _ hlt hy p _ _ (λy4 H4 p4=>⟨by omega,n-(i+1),by omega,rfl,hlt,hσ,by rw[Bj,BV];omega,p4⟩) λH3 p3=>⟨n-(i+1),by omega,rfl,hlt,hσ,by omega,p3⟩
 ·have e:i=n:=by omega
  subst e
  exact .inl ⟨Bn _,by omega,hd ys H hy p⟩
structure Cal (P:BD)(w:Cb)(K:Be)(mg:Str->Option Bh)(base:Heap)(k:Nat)(x:Str)(ps:List Str)(sp:Sp):Prop where
 ex:∃f fd,bF P w K mg base CX0 k f fd ps sp/\mg x=some (.ref f)/\PySem.W.keepIn K (.ref f)=true/\Binds K fd ps []
theorem aH {X:Cx}{j k:Nat}{x:Str}{ps:List Str}{sp:Sp}{e:Expr}{es:List Expr}{t:TA}{p pos:Pos}(C:Cal X.prog X.w X.K X.mg X.base k x ps sp)(hr:bL j X.A)(hj:k<=j)(hg:Gl X x)(ha:PA X (e :: es) t)
  (hdb:(x == ("__debug__" : Str))=false:=by decide) (he:Ce (e :: es) X.env=(false,eval e X.env) :: Ce es X.env:=by rfl) (hpl:(Fd pos (Ce es X.env)).any (·.1)=false:=by rfl) :
  PE X (.Call (.Name x p) (e :: es) [] pos) (yT sp [] E0 t):=by
 obtain ⟨f,fd,F,m,kp,b⟩:=C.ex
 exact xE F (hr.mono hj) hg m kp b .nil yV ha hdb he hpl
theorem ae {H:Hp}{p:Addr}(h:H p=none)(o:HO):ax H (upd H p o):=λb u q=>by rw[ao (aA q h)];exact q
theorem small {n:Nat}(h:n<=1000):n<=BJ:=Fo (uh h)
open PySem PySem.Spec PyProof.Rows
section
variable  {X:Cx}
theorem jh {its:List Bh}{bs:List Bool}(h:Vals (bs.map V.bl) its){prog:BD}{w:Cb}{A:B9}:TruthOf prog w A (λi v=>its.toArray[i]? = some v) (λi=>bs.getD i false):=by
 intro i v s Q E hv q
 have l:=h.length
 rw[Bg] at l
 have hi:i<its.length:=by
  rw[Ck] at hv
  exact (Bt.mp hv).1
 have e:(bs.map V.bl)[i]? = some (.bl (bs.getD i false)):=by
  rw[BQ,B8,BA (by omega)]
  rfl
 obtain ⟨u,e1,e2⟩:=h.get e
 rw[Ck,e1] at hv
 have ev:u=v:=BW hv
 subst ev
 cases (show u=Value.bool _ from e2)
 exact C7 q
theorem all_range (bs:List Bool):((Cc bs.length).all λi=>bs.getD i false)=bs.all id:=by
 rw[CO,D5,D5]
 constructor
 ·intro h x hx
  obtain ⟨i,e⟩:=Cv.mp hx
  have hi:i<bs.length:=(Bt.mp e).1
  have q:=h i (Cu.mpr hi)
  rw[B8,e] at q
  exact q
 ·intro h i hi
  have hi':=Cu.mp hi
  rw[B8,BA hi']
  exact h _ (EI hi')
theorem oJ (hc:X.calm=true):cz X (.builtin "all") (λxs H Q=>∃(p:Addr) (bs:List Bool),xs=[.ref p]/\SqL X.K H p (bs.map V.bl)/\Q (.bl (bs.all id)) H):=by
 intro pins s σ H xs us Q I r h
 obtain ⟨p,bs,rfl,hs,q⟩:=h
 obtain ⟨u,rfl,ru⟩:=vals1 r
 cases (show u=BN p from ru)
 obtain ⟨its,rv,pl,hz⟩:=I.list hs
 have l:=rv.length
 rw[Bg] at l
 have hpl:p<s.heap.objs.size:=by obtain ⟨o,_,e,_⟩:=pl;exact Bq e
 refine call_all_walk (FL pl.isList ?_)
 have hd:X.A.in1.handled=none:=I.ok.hd hc
 refine ⟨s.heap.objs.size,_,_,_,_,_,_,rfl,JO hd s.heap.objs.size p (BI hpl) its.toArray,⟨⟨_,Bp _ rfl,rfl,rfl⟩,?_⟩,jh rv,λh' tk k =>?_⟩
 ·exact pl.isList.at λo e=>Bf _ e
 ·have e:((Cc its.toArray.size).all λi=>bs.getD i false)=bs.all id:=by rw[Bm, <- l,all_range]
  rw[e]
  refine ⟨.bl (bs.all id),H,I.kept (t':=tk) (λb o eb=>k b o ?_ (Bf _ eb)),rfl,q⟩
  intro hb
  have:b=s.heap.objs.size:=by simpa using hb
  exact absurd (Bq eb) (by rw[this];exact CN _)
def eA (K:Be)(H:Hp):Nat->V->V->Prop
 | 0,x,y=>(∃i,x = .int i/\y = .int i)\/∃a,x = .ref a/\y = .ref a
 | n+1,x,y=>(∃i,x = .int i/\y = .int i)\/(∃a,x = .ref a/\y = .ref a)\/∃a b xs ys,x = .ref a/\y = .ref b/\((SqT K H a xs/\SqT K H b ys)\/(SqL K H a xs/\SqL K H b ys))/\Paired (eA K H n) xs ys
theorem lV {α β:Type}{F:α -> β -> Prop}:∀{l:List α} {m:List β} {i:Nat} {x:α} {y:β},Paired F l m->l[i]? = some x->m[i]? = some y->F x y
 | _,_,0,_,_,.cons h _,e1,e2=>by simp at e1 e2;subst e1 e2;exact h
 | _,_,i+1,_,_,.cons _ t,e1,e2=>lV (i:=i) t (by simpa using e1) (by simpa using e2)
 | _,_,_,_,_,.nil,e1,_=>by simp at e1
theorem all_true (n:Nat):((Cc n).all λ_=>true)=true:=by simp
theorem eB {K:Be}{H:Hp}{n:Nat}{s:Bi}{A:B9}{xs ys:List V}{us vs:List Bh}(p:Paired (eA K H n) xs ys)(r1:Vals xs us)(r2:Vals ys vs)
  (ih:∀x y u v,eA K H n x y->RelV x u->RelV y v->Ex A s u v true):∀j (h1:j<us.toArray.size) (h2:j<vs.toArray.size),Ex A s us.toArray[j] vs.toArray[j] true:=λj h1 h2=>by
 rw[Bm] at h1 h2
 have l1:=r1.length
 have l2:=r2.length
 have e1:xs[j]? = some xs[j]:=BA (by omega)
 have e2:ys[j]? = some ys[j]:=BA (by omega)
 obtain ⟨u,g1,q1⟩:=r1.get e1
 obtain ⟨v,g2,q2⟩:=r2.get e2
 have f1:us.toArray[j]=u:=by simp[Bt] at g1;obtain ⟨_,g⟩:=g1;simpa using g
 have f2:vs.toArray[j]=v:=by simp[Bt] at g2;obtain ⟨_,g⟩:=g2;simpa using g
 rw[f1,f2]
 exact ih _ _ u v (lV p e1 e2) q1 q2
theorem lX {pins:List (Addr×Obj)}{σ:St}{H:Hp}{s:Bi}(I:Inv X pins σ H s):∀(n:Nat) (A:B9) (x y:V) (u v:Bh),A.units+n<cLine->eA X.K H n x y->RelV x u->RelV y v->Ex A s u v true
 | 0,A,x,y,u,v,_,h,ru,rv=>by
  rcases h with ⟨i,rfl,rfl⟩ | ⟨a,rfl,rfl⟩
  ·obtain ⟨t,rfl⟩:=(show ∃t,u=Ds i t from ru)
   obtain ⟨t',rfl⟩:=(show ∃t,v=Ds i t from rv)
   have:=D8 (A:=A) (s:=s) i t i t'
   rw[beq_self_eq_true] at this
   exact this
  ·cases (show u=BN a from ru)
   cases (show v=BN a from rv)
   exact Fx _
 | n+1,A,x,y,u,v,hA,h,ru,rv=>by
  rcases h with ⟨i,rfl,rfl⟩ | ⟨a,rfl,rfl⟩ | ⟨a,b,xs,ys,rfl,rfl,hs,p⟩
  ·obtain ⟨t,rfl⟩:=(show ∃t,u=Ds i t from ru)
   obtain ⟨t',rfl⟩:=(show ∃t,v=Ds i t from rv)
   have:=D8 (A:=A) (s:=s) i t i t'
   rw[beq_self_eq_true] at this
   exact this
  ·cases (show u=BN a from ru)
   cases (show v=BN a from rv)
   exact Fx _
  ·cases (show u=BN a from ru)
   cases (show v=BN b from rv)
   by_cases hab:a=b
   ·subst hab;exact Fx _
   refine Ip hab ?_
   have ih:∀x y u v,eA X.K H n x y->RelV x u->RelV y v->Ex A.in1 s u v true:=λx y u v h1 h2 h3=>lX I n A.in1 x y u v (by show A.units+1+n<cLine;omega) h1 h2 h3
   have pl:=Fv p
   rcases hs with ⟨h1,h2⟩ | ⟨h1,h2⟩
   ·obtain ⟨its,r1,p1,_⟩:=I.tuple h1
    obtain ⟨its2,r2,p2,_⟩:=I.tuple h2
    have q:=IK (e:=λ_=>true) (show s.heap.IsTuple a its.toArray from p1) (show s.heap.IsTuple b its2.toArray from p2) (by omega) (eB p r1 r2 ih)
    have ez:its.toArray.size=its2.toArray.size:=by rw[Bm,Bm, <- r1.length, <- r2.length,pl]
    rw[all_true,ez,beq_self_eq_true] at q
    exact q
   ·obtain ⟨its,r1,p1,_⟩:=I.list h1
    obtain ⟨its2,r2,p2,_⟩:=I.list h2
    have q:=SeqAt.RcAt.lists (e:=λ_=>true) p1.isList p2.isList (by rw[Bm,Bm, <- r1.length, <- r2.length,pl]) (by omega) (eB p r1 r2 ih)
    rw[all_true] at q
    exact q
theorem zC {k:Nat}(hr:bL k X.A):OpR X (CV .NotEq) (λx y H Q=>∃a b xs ys,x = .ref a/\y = .ref b/\SqL X.K H a xs/\SqL X.K H b ys/\((xs.length≠ys.length/\Q (.bl true) H)\/(Paired (eA X.K H 20) xs ys/\Q (.bl false) H))):=by
 intro pins s σ H x y v u Q I rx ry h
 obtain ⟨a,b,xs,ys,rfl,rfl,h1,h2,h3⟩:=h
 cases (show v=BN a from rx)
 cases (show u=BN b from ry)
 obtain ⟨its,r1,⟨⟨c1,d1,da1,sl1⟩,n1,e1,k1,_,k3⟩,_⟩:=I.list h1
 obtain ⟨its2,r2,⟨⟨c2,d2,da2,sl2⟩,n2,e2,g1,_,g3⟩,_⟩:=I.list h2
 simp only at k1 k3 g1 g3
 subst k1 k3 g1 g3
 have l1:=r1.length
 have l2:=r2.length
 have hu:=hr.un
 have hu1:X.A.units<cLine:=by omega
 rcases h3 with ⟨ne,q⟩ | ⟨p,q⟩
 ·refine DE (op :=.NotEq) ⟨_,e1,rfl⟩ ⟨_,e2,rfl⟩ GH Gh (FV _ _) (G4 a b its.toArray its2.toArray n1 n2 d1 d2 sl1 sl2 (by simp;omega)) ⟨e1,e2,?_⟩ hu1
  exact ⟨(λz=>nomatch z),⟨.bl true,H,I,rfl,q⟩⟩
 ·have pl:=Fv p
  refine DE (op :=.NotEq) ⟨_,e1,rfl⟩ ⟨_,e2,rfl⟩ GH Gh (FV _ _) (Jr a b its.toArray its2.toArray n1 n2 d1 d2 sl1 sl2 (by rw[Bm,Bm];omega) (λ_=>true)) ⟨e1,e2,?_,?_⟩ hu1
  ·exact eB p r1 r2 λx y u v h1 h2 h3=>lX I 20 _ x y u v (by show X.A.units+1+_<cLine;omega) h1 h2 h3
  ·rw[all_true]
   exact ⟨(λz=>nomatch z),⟨.bl false,H,I,rfl,q⟩⟩
end
open PySem PySem.Spec PyProof.Rows
open PySem PySem.Spec PyProof.Rows
section
variable  {X:Cx}{K:Be}
theorem bq (h:X.K=K:=by rfl):IxR X (AS K):=by subst h;exact aE
end
open PySem PySem.Spec PyProof.Rows
theorem Inv.jZ {X:Cx}{pins:List (Addr×Obj)}{σ:St}{H:Hp}{s:Bi}{h':Heap}{t':Nat}{ch:List Addr}{T:Addr}{o:HO}(I:Inv X pins σ H s)(f:∀b∈ch,jO X pins H b)
  (k:∀b ob,b∉ch->s.heap.get? b=some ob->h'.get? b=some ob) (th:∀b∈ch,∃ob,h'.get? b=some ob) (hT:s.heap.objs.size<=T) (new:ba X.prog X.w (upd H T o) h' T o):Inv X pins σ (upd H T o) { s with heap:=h',toks:=t' }:=by
 have hn:H T=none:=I.hok.fresh hT
 have nT:∀b ob,s.heap.get? b=some ob->b≠T:=λb ob e=>BI (BE (Bq e) hT)
 refine I.step (g':=s.gens) (d':=s.drawn) (ch:=ch) (λb hb =>?_) (λb ob _ _ hc e _=>k b ob hc e) (λb ob _ _ hc e _=>⟨ob.slots,k b ob hc e⟩) (λb ob _ e n=>by rw[ao (nT b ob e)];exact n)
  (λb ob hc e=>⟨ob,k b ob hc e⟩) (λb xs e=>by rw[ao (aA e hn)];exact e) (λb ob u e=>by rw[ao (aA e hn)];exact e) (λb ps e=>⟨#[],by rw[ao (aA e hn),e];simp⟩) (λm hm =>?_) (λb u e =>?_) I.bare
 ·obtain ⟨g0,g1,g2,g3,g4,g5⟩:=f b hb
  exact ⟨g3,g1,g4,g5⟩
 ·obtain ⟨ob,es,ep,ho,r⟩:=hm
  exact ⟨ob,es,ep,k _ ob (λz=>(f _ z).2.1 rfl) ho,r⟩
 ·by_cases hb:b=T
  ·subst hb
   rw[af] at e
   cases e
   exact new
  ·rw[ao hb] at e
   refine (I.hok b u e).jL (λc v hc q=>k c v ?_ q) (λc q=>by rw[ao (aA q hn)];exact q) λc xs q=>by rw[ao (aA q hn)];exact q
   intro z
   have n0:=(f c z).1
   rcases hc with hc | hc
   ·rw[hc,e] at n0;cases n0
   ·rw[hc] at n0;cases n0
def Ite (K:Be)(a:Addr):It :=
 ⟨λi H=>∃xs v,SqL K H a xs/\xs[i]? = some v,λi H x H'=>∃T v,H T=none/\x = .ref T/\H'=upd H T (.tup [.int i,v])/\∀xs,SqL K H a xs->xs[i]? = some v,λi H=>∃xs,SqL K H a xs/\xs.length<=i⟩
theorem ui {P:BD}{w:Cb}{K:Be}{elts:List Expr}{k:Nat}{pos:Pos}(a e it:Addr)(hne:e≠it):Turn P w K (.Tuple elts k pos) (Ite K a) [e,it] e (λi h=>(∃old,IsEnum h e it i old)/\h.IsListIter it a i) where
 mem:=by simp
 obj:=λi h ⟨⟨old,h1⟩,h2⟩ b hb=>by
  rcases BR.mp hb with q | q
  ·subst q
   exact ⟨_,h1,λv z=>nomatch z⟩
  ·have q':b=it:=by simpa using q
   subst q'
   obtain ⟨o,ho,_,hd⟩:=h2
   exact ⟨o,ho,λv z=>by rw[hd] at z;cases z⟩
 keep:=λi h h' ⟨⟨old,h1⟩,h2⟩ kp=>⟨⟨old,kp e (by simp) _ h1⟩,h2.at λo x=>kp it (by simp) o x⟩
 item:=λX eP eW eK hcalm i pins s σ H E I f ⟨⟨old,h1⟩,h2⟩ go=>by
  subst eP eW eK
  obtain ⟨xs,v,hs,hv⟩:=go
  obtain ⟨its,r,pl,hz⟩:=I.list hs
  obtain ⟨u,eu,ru⟩:=r.get hv
  refine wpAny_pyNext_enum_item h1 h2 pl.isList (x:=u) (by rw[Ck];exact eu) hne λh' o1 o2 o3 o4 kp =>?_
  refine ⟨_,rfl,?_⟩
  refine Gx o1 λh2' e2 sb =>?_
  have eT:e≠s.heap.objs.size:=BI (Bq h1)
  have kp2:∀b ob,b∉[e,it]->s.heap.get? b=some ob->h2'.get? b=some ob:=λb ob hb eb=>by
   have n1:b≠e:=λz=>hb (by simp[z])
   have n2:b≠it:=λz=>hb (by simp[z])
   rw[sb.2 b n1]
   exact kp b ob n1 n2 eb
  have li:h2'.IsListIter it a (i+1):=o2.at λob eb=>by rw[sb.2 it (C6 hne)];exact eb
  have tp:h2'.get? s.heap.objs.size=some { cls :=.type "tuple",data :=.seq #[.int i s.toks,u] }:=by rw[sb.2 _ (C6 eT)];exact o3
  refine ⟨.ref s.heap.objs.size,upd H s.heap.objs.size (.tup [.int i,v]),I.jZ (ch:=[e,it]) f kp2 (λb hb =>?_) (Bn _) ?_,rfl,⟨s.heap.objs.size,v,I.hok.fresh (Bn _),rfl,rfl,λys hy =>?_⟩,⟨⟨_,e2⟩,li⟩,λb hb =>?_⟩
  ·rcases BR.mp hb with q | q
   ·subst q;exact ⟨_,e2⟩
   ·have q':b=it:=by simpa using q
    subst q'
    obtain ⟨ob,ho,_⟩:=li
    exact ⟨ob,ho⟩
  ·refine ⟨(by show 2<=BJ;decide),[.int i s.toks,u],.cons ⟨_,rfl⟩ (.cons ru .nil),_,tp,⟨rfl,rfl⟩,_,rfl⟩
  ·rw[I.oz hy hs];exact hv
  ·have ne:b≠s.heap.objs.size:=by
    rcases BR.mp hb with q | q
    ·rw[q];exact eT
    ·have q':b=it:=by simpa using q
     rw[q']
     obtain ⟨ob,ho,_⟩:=h2
     exact BI (Bq ho)
   rw[ao ne]
   exact (f b hb).1
 done:=λX eP eW eK hcalm i pins s σ H E I f ⟨⟨old,h1⟩,h2⟩ stop=>by
  subst eP eW eK
  obtain ⟨xs,hs,hl⟩:=stop
  obtain ⟨its,r,pl,hz⟩:=I.list hs
  have l:=r.length
  refine wpAny_pyNext_enum_end (I.ok.hd hcalm) h1 h2 pl.isList (by rw[Ck];exact GI.mpr (by omega)) λh' ex=>⟨rfl,?_⟩
  obtain ⟨g0,g1,g2,g3,g4,g5⟩:=f it (by simp)
  exact I.turned (it:=it) (h':=h') (t':=s.toks) (λb o ne eb=>ex b o ne eb) g0 g1 g3 g4 g5
 self:=λA i s Q E ⟨⟨old,h1⟩,_⟩ q=>by
  refine FN ⟨_,h1,rfl⟩ EV (Co EV ⟨_,h1,rfl⟩ Hm ?_ (G5 _))
  show BL _ _ (ret (.ref e)) _ _ s
  exact Bk ⟨_,rfl, "enumerate",_,⟨_,h1,rfl⟩,EW.lookup,q⟩
open PySem PySem.Spec PyProof.Rows
open PySem.AutoSeq1 (wpAny_loadPart')
section
variable  {prog:BD}{w:Cb}{A:B9}{E:Bh->Bi->Prop}{s:Bi}
theorem qE {it t:Addr}{i:Nat}{items:Array Bh}{x:Bh}{Q:Bh->Bi->Prop}(hi:s.heap.IsTupleIter it t i)(hl:s.heap.IsTuple t items)(hx:items[i]? = some x)
  (q:∀h',h'.IsTupleIter it t (i+1)->Heap.SameBut it s.heap h'->Q x { s with heap:=h' }):BL (B1 prog w) A (Builtin.SmallTypes.nextOf (.ref it)) Q E s:=by
 obtain ⟨o,eo,oc,od⟩:=id hi
 obtain ⟨ol,el,_,nl,dl⟩:=hl
 unfold Builtin.SmallTypes.nextOf
 refine Bd (Ct (name:=Str.ofString "__next__") hi.typeIs D4 (Co D4 hi.typeIs Gi ?_ (Ge _)))
 show BL _ _ (field (.ref it) 0 >>= _) _ _ s;refine Bd (C3 eo od (x :=.ref t) rfl ?_)
 show BL _ _ (if (BN t == DI)=true then _ else _) _ _ s;rw[if_neg (show ¬ ((BN t == DI)=true) from Bo)]
 show BL _ _ (field (.ref it) 1 >>= _) _ _ s;refine Bd (C3 eo od (x :=.int i 0) rfl ?_)
 show BL _ _ (seqItems? (.ref t) >>= _) _ _ s;refine Bd (FO el dl ?_)
 simp only[FI,hx];refine Bd (FP eo od (by simp) (Bk ⟨x,rfl,Bk (q _ ?_ (EA ..))⟩))
 exact ⟨_,CB _ eo (FR (D9 od _)),(IL ..).trans oc,by rw[D9 od];simp[DX]⟩
theorem fF {it t:Addr}{i:Nat}{items:Array Bh}{Q:Bh->Bi->Prop}(hh:A.handled=none)(hi:s.heap.IsTupleIter it t i)(hl:s.heap.IsTuple t items)(hx:items[i]? = none)
  (q:∀h' e,Heap.ExtBut it s.heap h'->(∃o,h'.get? e=some o/\o.cls = .type "StopIteration")->E (.ref e) { s with heap:=h' }):BL (B1 prog w) A (Builtin.SmallTypes.nextOf (.ref it)) Q E s:=by
 obtain ⟨o,eo,oc,od⟩:=id hi
 obtain ⟨ol,el,_,nl,dl⟩:=hl
 unfold Builtin.SmallTypes.nextOf
 refine Bd (Ct (name:=Str.ofString "__next__") hi.typeIs D4 (Co D4 hi.typeIs Gi ?_ (Ge _)))
 show BL _ _ (field (.ref it) 0 >>= _) _ _ s;refine Bd (C3 eo od (x :=.ref t) rfl ?_)
 show BL _ _ (if (BN t == DI)=true then _ else _) _ _ s;rw[if_neg (show ¬ ((BN t == DI)=true) from Bo)]
 show BL _ _ (field (.ref it) 1 >>= _) _ _ s;refine Bd (C3 eo od (x :=.int i 0) rfl ?_)
 show BL _ _ (seqItems? (.ref t) >>= _) _ _ s;refine Bd (FO el dl ?_)
 simp only[FI,hx];refine Bd (D0 (Bd (FP eo od (by simp) ?_)))
 show BL _ _ (newExc (.type "StopIteration") [] >>= _) _ _ _;refine Bd ?_
 simp only[newExc,newTuple];refine Bd (Ca ?_ (by size_fits))
 refine Bd (m:=firstArgMember _ _) (DH (a:=DI) (by first | rfl | (simp only[firstArgMember];rfl)) ?_);refine Ca ?_ (by size_fits)
 simp only[raiseNew];refine Bd (wpAny_handled ?_)
 first | (rw[show A.in1.handled=none from hh]) | (rw[hh])
 refine Bd (Bk (wpAny_throw ?_));exact q _ _ (((EA ..).extBut.push _).push _) ⟨_,Bp _ rfl,rfl⟩
theorem uj (hh:A.handled=none)(it l:Addr)(hne:l≠it)(items:Array Bh) :
  Draws prog w A it [it,l] items.size (λi v=>items[i]? = some v) (λi h=>h.IsTupleIter it l i/\h.IsTuple l items) where
 live:=λ_ _ st=>by obtain ⟨o,ho,_⟩:=st.1;exact ⟨o,ho⟩
 frame:=λ_ _ _ st hk=>⟨st.1.at λo e=>hk it (by simp) o e,by obtain ⟨o,e,r⟩:=st.2;exact ⟨o,hk l (by simp) o e,r⟩⟩
 item:=λi s Q E hi st hQ=>by
  refine qE st.1 st.2 (x:=items[i]) (by simp[hi]) λh' hit' hs' =>?_
  obtain ⟨o,e,r⟩:=st.2
  exact hQ _ h' s.toks (by simp[hi]) ⟨hit',o,by rw[hs'.2 l hne];exact e,r⟩ hs'
 done:=λs Q E st hE=>fF hh st.1 st.2 (by simp) hE
theorem ni (l:Addr)(items:Array Bh)(n:Nat)(dct:Option Addr)(sl:Array (Option Bh)) :
  Meets (Builtin.«enumerate.__new__» ⟨[.type "enumerate",.ref l],[]⟩) (λ_ R s=>s.heap.get? l=some { cls :=.type "tuple",dict:=dct,data :=.seq items n,slots:=sl } ∧
   R (.ok (.ret (.ref (s.heap.push { cls :=.type "tuple_iterator",data :=.fields #[.ref l,.int 0 0] }).objs.size)))
    { s with heap:=(s.heap.push { cls :=.type "tuple_iterator",data :=.fields #[.ref l,.int 0 0] }).push { cls :=.type "enumerate",data :=.fields #[.none,.bool false,.ref s.heap.objs.size,DX 0,.none,.none] } }) :=
 .of_wp λprog w A R s h=>by
  obtain ⟨hp,g,d,tk,os⟩:=s;obtain ⟨hl,h⟩:=h
  have hsub:=sub_enumerate
  have hT:Heap.IsTuple (Shared.heap ⟨hp,g,d,tk,os⟩) l items:=⟨_,hl,rfl,n,rfl⟩
  wp_walk using wpAny_loadPart' hl
  refine wpAny_stack_any λst=>Bk ?_
  split
  ·rename_i c _ _ _ _ _
   cases (c == Ew "enumerate") <;> (wp_walk using wpAny_loadPart' hl,ET hT;exact ⟨_,rfl,h⟩)
  ·wp_walk using wpAny_loadPart' hl,ET hT;exact ⟨_,rfl,h⟩
theorem lB {l:Addr}{items:Array Bh}{Q:Bh->Bi->Prop}(hL:s.heap.IsTuple l items)
  (h:∀h',IsEnum h' (s.heap.objs.size+1) s.heap.objs.size 0 .none->h'.IsTupleIter s.heap.objs.size l 0->h'.objs.size=s.heap.objs.size+2->(∀b o,s.heap.get? b=some o->h'.get? b=some o)->Q (.ref (s.heap.objs.size+1)) { s with heap:=h' }) :
  BL (B1 prog w) A (call (.type "enumerate") [.ref l]) Q E s:=by
 obtain ⟨⟨c,dct,dt,sl⟩,hl,hc,n,hd⟩:=hL
 replace hc:c = .type "tuple" := hc
 replace hd:dt = .seq items n:=hd
 subst hc hd
 refine HE F.called_enumerate (by decide) (F.typeCall_enumerate_1 _) (F.newCall_enumerate_1 _) (λobj=>F.args_object_init_2 obj _) F.entry_enumerate_new (ni l items n dct sl) ⟨hl,?_⟩
 have hz:(s.heap.push { cls :=.type "tuple_iterator",data :=.fields #[.ref l,.int 0 0] }).objs.size=s.heap.objs.size+1:=EK ..
 show _/\_
 rw[hz]
 have he:IsEnum ((s.heap.push { cls :=.type "tuple_iterator",data :=.fields #[.ref l,.int 0 0] }).push { cls :=.type "enumerate",data :=.fields #[.none,.bool false,.ref s.heap.objs.size,DX 0,.none,.none] }) (s.heap.objs.size+1) s.heap.objs.size 0 .none:=by
  have:=Bp (s.heap.push { cls :=.type "tuple_iterator",data :=.fields #[.ref l,.int 0 0] }) (o:={ cls :=.type "enumerate",data :=.fields #[.none,.bool false,.ref s.heap.objs.size,DX 0,.none,.none] }) rfl
  rw[hz] at this;exact this
 exact ⟨⟨_,he,rfl⟩,h _ he ⟨_,Bf _ (Bp _ rfl),rfl,rfl⟩ (by rw[EK,hz]) λb o x=>Bf _ (Bf _ x)⟩
end
theorem eC {prog:BD}{w:Cb}{A:B9}{E:Bh->Bi->Prop}{s:Bi}{e it t:Addr}{i:Nat}{items:Array Bh}{old:Bh}{Q:Option Bh->Bi->Prop}(hh:A.in1.handled=none)(he:IsEnum s.heap e it i old)(hi:s.heap.IsTupleIter it t i)
  (hl:s.heap.IsTuple t items) (hx:items[i]? = none) (q:∀h',Heap.ExtBut it s.heap h'->Q none { s with heap:=h' }):BL (B1 prog w) A (pyNext (.ref e)) Q E s:=by
 have hT:s.TypeIs (.ref e) "enumerate" :=⟨_,he,rfl⟩
 unfold pyNext
 refine Bd (DC (Ct (name:=Str.ofString "__next__") hT EW (Co EW hT F.entry_enumerate_next ?_ (F.args_enumerate_next_1 _))))
 show BL _ _ (field (.ref e) 2 >>= _) _ _ _;refine Bd (C3 he rfl (x :=.ref it) rfl ?_)
 refine Bd (fF hh hi hl hx λh' x he' hx' =>?_)
 obtain ⟨o,ho,hc⟩:=hx'
 refine Bd (Fl (T := "StopIteration") (b:=true) ⟨o,ho,hc⟩ HV ?_);exact Bk (q _ he')
def ItE (K:Be)(a:Addr):It :=
 ⟨λi H=>∃xs v,SqT K H a xs/\xs[i]? = some v,λi H x H'=>∃T v,H T=none/\x = .ref T/\H'=upd H T (.tup [.int i,v])/\∀xs,SqT K H a xs->xs[i]? = some v,λi H=>∃xs,SqT K H a xs/\xs.length<=i⟩
theorem qF {P:BD}{w:Cb}{K:Be}{elts:List Expr}{k:Nat}{pos:Pos}(a e it:Addr)(hne:e≠it)(hai:a≠it)(hae:a≠e):Turn P w K (.Tuple elts k pos) (ItE K a) [e,it] e (λi h=>(∃old,IsEnum h e it i old)/\h.IsTupleIter it a i) where
 mem:=by simp
 obj:=λi h ⟨⟨old,h1⟩,h2⟩ b hb=>by
  rcases BR.mp hb with q | q
  ·subst q
   exact ⟨_,h1,λv z=>nomatch z⟩
  ·have q':b=it:=by simpa using q
   subst q'
   obtain ⟨o,ho,_,hd⟩:=h2
   exact ⟨o,ho,λv z=>by rw[hd] at z;cases z⟩
 keep:=λi h h' ⟨⟨old,h1⟩,h2⟩ kp=>⟨⟨old,kp e (by simp) _ h1⟩,h2.at λo x=>kp it (by simp) o x⟩
 item:=λX eP eW eK hcalm i pins s σ H E I f ⟨⟨old,h1⟩,h2⟩ go=>by
  subst eP eW eK
  obtain ⟨xs,v,hs,hv⟩:=go
  obtain ⟨its,r,pl,hz⟩:=I.tuple hs
  obtain ⟨u,eu,ru⟩:=r.get hv
  have hi:i<its.toArray.size:=by rw[Bm];exact (Bt.mp eu).1
  have hd:X.A.in1.handled=none:=I.ok.hd hcalm
  refine wpAny_pyNext_enum_itemD (uj hd it a hai its.toArray) h1 ⟨h2,(show s.heap.IsTuple a its.toArray from pl)⟩ hi hne (by simp[hne,C6 hae]) λx h' tk px o1 o2 o3 o4 kp =>?_
  rw[Ck,eu] at px
  have px':u=x:=BW px
  subst px'
  refine ⟨_,rfl,?_⟩
  refine Gx o1 λh2' e2 sb =>?_
  have eT:e≠s.heap.objs.size:=BI (Bq h1)
  have kp2:∀b ob,b∉[e,it]->s.heap.get? b=some ob->h2'.get? b=some ob:=λb ob hb eb=>by
   have n1:b≠e:=λz=>hb (by simp[z])
   have n2:b≠it:=λz=>hb (by simp[z])
   rw[sb.2 b n1]
   exact kp b ob n1 n2 eb
  have li:h2'.IsTupleIter it a (i+1):=o2.1.at λob eb=>by rw[sb.2 it (C6 hne)];exact eb
  have tp:h2'.get? s.heap.objs.size=some { cls :=.type "tuple",data :=.seq #[.int i tk,u] }:=by rw[sb.2 _ (C6 eT)];exact o3
  refine ⟨.ref s.heap.objs.size,upd H s.heap.objs.size (.tup [.int i,v]),I.jZ (ch:=[e,it]) f kp2 (λb hb =>?_) (Bn _) ?_,rfl,⟨s.heap.objs.size,v,I.hok.fresh (Bn _),rfl,rfl,λys hy =>?_⟩,⟨⟨_,e2⟩,li⟩,λb hb =>?_⟩
  ·rcases BR.mp hb with q | q
   ·subst q;exact ⟨_,e2⟩
   ·have q':b=it:=by simpa using q
    subst q'
    obtain ⟨ob,ho,_⟩:=li
    exact ⟨ob,ho⟩
  ·refine ⟨(by show 2<=BJ;decide),[.int i tk,u],.cons ⟨_,rfl⟩ (.cons ru .nil),_,tp,⟨rfl,rfl⟩,_,rfl⟩
  ·rw[I.iN hy hs];exact hv
  ·have ne:b≠s.heap.objs.size:=by
    rcases BR.mp hb with q | q
    ·rw[q];exact eT
    ·have q':b=it:=by simpa using q
     rw[q']
     obtain ⟨ob,ho,_⟩:=h2
     exact BI (Bq ho)
   rw[ao ne]
   exact (f b hb).1
 done:=λX eP eW eK hcalm i pins s σ H E I f ⟨⟨old,h1⟩,h2⟩ stop=>by
  subst eP eW eK
  obtain ⟨xs,hs,hl⟩:=stop
  obtain ⟨its,r,pl,hz⟩:=I.tuple hs
  have l:=r.length
  have hd:X.A.in1.handled=none:=I.ok.hd hcalm
  refine eC (A:=X.A) hd h1 h2 (show s.heap.IsTuple a its.toArray from pl) (by rw[Ck];exact GI.mpr (by omega)) λh' ex=>⟨rfl,?_⟩
  obtain ⟨g0,g1,g2,g3,g4,g5⟩:=f it (by simp)
  exact I.turned (it:=it) (h':=h') (t':=s.toks) (λb o ne eb=>ex b o ne eb) g0 g1 g3 g4 g5
 self:=λA i s Q E ⟨⟨old,h1⟩,_⟩ q=>by
  refine FN ⟨_,h1,rfl⟩ EV (Co EV ⟨_,h1,rfl⟩ Hm ?_ (G5 _))
  show BL _ _ (ret (.ref e)) _ _ s
  exact Bk ⟨_,rfl, "enumerate",_,⟨_,h1,rfl⟩,EW.lookup,q⟩
open PySem PySem.Spec PyProof.Rows
def AZ (K:Be)(ta:TA):TI:=λσ H R=>ta σ H λvs H1=>∃a,vs=[.ref a]/\(((∃xs,SqL K H1 a xs)/\R (Ite K a) H1)\/((∃xs,SqT K H1 a xs)/\R (ItE K a) H1))
section
variable  {X:Cx}
theorem sC {a:Expr}{ta:TA}{p pos pos':Pos}{elts:List Expr}{k:Nat}(hg:Gl X "enumerate")(hm:X.mg "enumerate" = none)(ha:PA X [a] ta)(hs:Ce [a] X.env=[(false,eval a X.env)]:=by rfl) :
  PI X (.Tuple elts k pos') (.Call (.Name "enumerate" p) [a] [] pos) (AZ X.K ta):=by
 intro pins s σ H R I h
 refine Call_ (gH I hg hm boot_enumerate (Dt (thn (ha pos pins s σ H _ I h) λus s1 ⟨vs,H1,I1,r1,q1⟩ =>?_) hs rfl))
 obtain ⟨l,e,q1⟩:=q1
 subst e
 obtain ⟨u,rfl,ru⟩:=vals1 r1
 cases (show u=BN l from ru)
 have fp:∀b∈[s1.heap.objs.size+1,s1.heap.objs.size],jO X pins H1 b:=λb hb=>by
  have ge:s1.heap.objs.size<=b:=by
   rcases BR.mp hb with q | q
   ·rw[q];exact FH _
   ·have q':b=s1.heap.objs.size:=by simpa using q
    rw[q'];exact Bn _
  exact I1.vv ge (I1.hok.fresh ge)
 have ne:s1.heap.objs.size+1≠s1.heap.objs.size:=EU (D6 _)
 rcases q1 with ⟨⟨xs,hq⟩,q⟩ | ⟨⟨xs,hq⟩,q⟩
 ·obtain ⟨its,rv,pl,hz⟩:=I1.list hq
  refine call_enumerate_list pl.isList λh' he li _ kp =>?_
  have T:=ui (P:=X.prog) (w:=X.w) (K:=X.K) (elts:=elts) (k:=k) (pos:=pos') l _ _ ne
  refine T.self _ 0 _ _ _ ⟨⟨_,he⟩,li⟩ ?_
  exact ⟨_,_,_,_,H1,rfl,I1.kept (t':=s1.toks) kp,T,⟨⟨_,he⟩,li⟩,fp,q⟩
 ·obtain ⟨its,rv,pl,hz⟩:=I1.tuple hq
  have lt:l<s1.heap.objs.size:=by obtain ⟨o,e,_⟩:=pl;exact Bq e
  refine lB (show s1.heap.IsTuple l its.toArray from pl) λh' he li _ kp =>?_
  have T:=qF (P:=X.prog) (w:=X.w) (K:=X.K) (elts:=elts) (k:=k) (pos:=pos') l _ _ ne (BI lt) (BI (CH lt))
  refine T.self _ 0 _ _ _ ⟨⟨_,he⟩,li⟩ ?_
  exact ⟨_,_,_,_,H1,rfl,I1.kept (t':=s1.toks) kp,T,⟨⟨_,he⟩,li⟩,fp,q⟩
end
def ForW (J:It)(g:TG)(tb:TS)(D:Ends)(σ:St)(H:Hp):Prop:=∃W:Nat->Nat->St->Hp->Prop,(∃m,W 0 m σ H)/\∀i m σ H,W i m σ H →
 (J.stop i H/\D.nx σ H)\/(J.go i H/\∃N:St->Hp->Prop,(∀σ' H',N σ' H'->∃m',m'<m/\W (i+1) m' σ' H')/\∀x H',J.yld i H x H'->g x σ H' λσ2 H2=>tb { D with nx:=N,ct:=N,bk:=D.nx } σ2 H2)
theorem lY {K:Be}{a:Addr}{xs:List V}{g:TG}{tb:TS}{D:Ends}{σ:St}{H:Hp}(Pv:Nat->St->Hp->Prop)(h0:Pv 0 σ H)(hl:∀i σ H,i<=xs.length->Pv i σ H->SqL K H a xs)
  (hs:∀i x σ H T,xs[i]? = some x->H T=none->Pv i σ H->g (.ref T) σ (upd H T (.tup [.int i,x])) λσ2 H2=>tb { D with nx:=Pv (i+1),ct:=Pv (i+1),bk:=D.nx } σ2 H2) (hd:∀σ H,Pv xs.length σ H->D.nx σ H):ForW (Ite K a) g tb D σ H:=by
 refine ⟨λi m σ H=>m=xs.length-i/\i<=xs.length/\Pv i σ H,⟨xs.length,by simp,BU _,h0⟩,?_⟩
 rintro i m σ H ⟨rfl,hi,p⟩
 have q:=hl i σ H hi p
 by_cases hlt:i<xs.length
 ·refine .inr ⟨⟨xs,xs[i],q,by simp[hlt]⟩,Pv (i+1),λσ' H' p'=>⟨xs.length-(i+1),by omega,rfl,hlt,p'⟩,λx H' y =>?_⟩
  obtain ⟨T,v,hT,ex,eH,hv⟩:=y
  subst ex eH
  exact hs i v σ H T (hv xs q) hT p
 ·have e:i=xs.length:=by omega
  subst e
  exact .inl ⟨⟨xs,q,Bn _⟩,hd σ H p⟩
end L2
namespace Srt
open PySem PyProof.Rows
def gal:Bool->BH->Array BH->Nat->Nat->Nat->StateT B7 Sem (Option Nat):=sortPriv% PySem.Builtin.gallop
def mLo:Array BH->Array BH->StateT B7 Sem (Array BH):=sortPriv% PySem.Builtin.mergeLo
def mHi:Array BH->Array BH->StateT B7 Sem (Array BH):=sortPriv% PySem.Builtin.mergeHi
def mAt:Nat->StateT B7 Sem Bool:=sortPriv% PySem.Builtin.mergeAt
def yW:StateT B7 Sem Unit:=sortPriv% PySem.Builtin.sortRuns
def zD:Nat->Nat->StateT B7 Sem (Option Nat):=sortPriv% PySem.Builtin.countRun
def vH:Nat->Nat->Nat->StateT B7 Sem Bool:=sortPriv% PySem.Builtin.binarySort
theorem zE (lf:Bool)(ky:BH)(ar:Array BH)(bs n ht:Nat):gal lf ky ar bs n ht=(do
    let far (i:Nat):StateT B7 Sem (Option Bool):=do
      let z ← elem' ar (bs+i)
      if lf then lt' z ky else return (← lt' ky z).map (!·)
    let mut la:=0;let mut of:=1
    let mut lo:=0;let mut hi:=0
    let some rt ← far ht | return none
    if rt then
      let mx:=n-ht
      for _ in [0:n] do
        if of≥mx then break
        let some mo ← far (ht+of)
          | return none
        if !mo then break
        la:=of;of:=2*of+1
      lo:=ht+la+1;hi:=ht+min of mx
    else
      let mx:=ht+1
      for _ in [0:n] do
        if of≥mx then break
        let some fd ← far (ht-of)
          | return none
        if fd then break
        la:=of;of:=2*of+1
      lo:=ht+1-min of mx;hi:=ht-la
    for _ in [0:n] do
      if lo≥hi then break
      let md:=lo+(hi-lo)/2
      let some mo ← far md | return none
      if mo then lo:=md+1 else hi:=md
    return some hi):=rfl
section
variable  {prog:BD}{w:Cb}{A:B9}{E:Bh->Bi->Prop}{s:Bi}
theorem vI {lf:Bool}{ky:BH}{ar:Array BH}{bs n ht:Nat}{st:B7}{Q:Option Nat->B7->Prop}(p:Nat->Bool)
    (hf:∀i,i<n->∀(Q:Option Bool->B7->Prop),Q (some (p i)) st->wpS (B1 prog w) A E s (do let z ← elem' ar (bs+i);if lf then lt' z ky else return (← lt' ky z).map (!·)) Q st)
    (hp:∀i j,i<=j->j<n->p j=true->p i=true) (hh:ht<n)
    (h:∀k,k<=n->(∀i,i<k->p i=true)->(∀i,k<=i->i<n->p i=false)->Q (some k) st):wpS (B1 prog w) A E s (gal lf ky ar bs n ht) Q st:=by
  rw[zE]
  dsimp only
  refine Bx (hf ht hh _ ?_)
  dsimp only
  cases hr:p ht with
  | true =>
    rw[if_pos rfl]
    refine Bx (DK (CL (I:=λx c st'=>st=st'/\∃la of,c=(none,la,of)/\la<of/\x+1<=of/\ht+la<n/\p (ht+la)=true)
      (Q:=λc st'=>st=st'/\∃la of,c=(none,la,of)/\la<of/\ht+la<n/\p (ht+la)=true/\(n-ht<=of\/(ht+of<n/\p (ht+of)=false))) ?step ?fin ⟨rfl,0,1,rfl,by omega,by omega,by omega,by simpa using hr⟩) ?post)
    case fin =>
      rintro c st' ⟨rfl,la,of,rfl,b1,b2,b3,b4⟩
      exact ⟨rfl,la,of,rfl,b1,b3,b4,.inl (by omega)⟩
    case step =>
      rintro x c st' _ hx ⟨rfl,la,of,rfl,b1,b2,b3,b4⟩
      dsimp only
      by_cases hge:of≥n-ht
      · rw[if_pos hge]
        exact BK ⟨rfl,la,of,rfl,b1,b3,b4,.inl hge⟩
      · rw[if_neg hge]
        refine Bx (hf _ (by omega) _ ?_)
        dsimp only
        cases hm:p (ht+of) with
        | true =>
          simp only[G6,CK,if_false]
          exact BK ⟨rfl,of,2*of+1,rfl,by omega,by omega,by omega,hm⟩
        | false =>
          simp only[Bool.not_false,if_true]
          exact BK ⟨rfl,la,of,rfl,b1,b3,b4,.inr ⟨by omega,hm⟩⟩
    case post =>
      rintro c st' ⟨rfl,la,of,rfl,b1,b3,b4,b5⟩
      have h1:(ht+la+1)<=(ht+min of (n-ht)):=by omega
      have h2:(ht+min of (n-ht))<=n:=by omega
      have h3:∀i,i<(ht+la+1)->p i=true:=λi hi=>hp i (ht+la) (by omega) b3 b4
      have h4:∀i,(ht+min of (n-ht))<=i->i<n->p i=false:=λi hi hn=>by
        rcases b5 with b5 | ⟨b5,b6⟩
        · omega
        · cases hpi:p i with
          | false=>rfl
          | true=>rw[hp (ht+of) i (by omega) hn hpi] at b6;cases b6
      dsimp only
      refine Bx (DK (CL (I:=λx c st'=>st=st'/\∃lo hi,c=(none,lo,hi)/\lo<=hi/\hi<=n/\hi-lo<=n-x/\(∀i,i<lo->p i=true)/\(∀i,hi<=i->i<n->p i=false))
        (Q:=λc st'=>st=st'/\∃k,c=(none,k,k)/\k<=n/\(∀i,i<k->p i=true)/\(∀i,k<=i->i<n->p i=false)) ?step ?fin ⟨rfl,(ht+la+1),(ht+min of (n-ht)),rfl,h1,h2,by omega,h3,h4⟩) ?post)
      case fin =>
        rintro c st' ⟨rfl,lo,hi,rfl,a1,a2,a3,a4,a5⟩
        have e:lo=hi:=by omega
        subst e
        exact ⟨rfl,lo,rfl,a2,a4,a5⟩
      case post =>
        rintro c st' ⟨rfl,k,rfl,a2,a4,a5⟩
        exact BK (h k a2 a4 a5)
      case step =>
        rintro x c st' _ hx ⟨rfl,lo,hi,rfl,a1,a2,a3,a4,a5⟩
        dsimp only
        by_cases hge:lo≥hi
        · rw[if_pos hge]
          have e:lo=hi:=by omega
          subst e
          exact BK ⟨rfl,lo,rfl,a2,a4,a5⟩
        · rw[if_neg hge]
          refine Bx (hf _ (by omega) _ ?_)
          dsimp only
          cases hm:p (lo+(hi-lo)/2) with
          | true =>
            rw[if_pos rfl]
            exact BK ⟨rfl,_,_,rfl,by omega,a2,by omega,λi hi'=>hp i _ (by omega) (by omega) hm,a5⟩
          | false =>
            rw[if_neg (by simp)]
            refine BK ⟨rfl,_,_,rfl,by omega,by omega,by omega,a4,λi hi' hn =>?_⟩
            cases hpi:p i with
            | false=>rfl
            | true=>rw[hp _ i hi' hn hpi] at hm;cases hm
  | false =>
    rw[if_neg (by simp)]
    refine Bx (DK (CL (I:=λx c st'=>st=st'/\∃la of,c=(none,la,of)/\la<of/\x+1<=of/\la<=ht/\p (ht-la)=false)
      (Q:=λc st'=>st=st'/\∃la of,c=(none,la,of)/\la<of/\la<=ht/\p (ht-la)=false/\(ht+1<=of\/(of<=ht/\p (ht-of)=true))) ?step ?fin ⟨rfl,0,1,rfl,by omega,by omega,by omega,by simpa using hr⟩) ?post)
    case fin =>
      rintro c st' ⟨rfl,la,of,rfl,b1,b2,b3,b4⟩
      exact ⟨rfl,la,of,rfl,b1,b3,b4,.inl (by omega)⟩
    case step =>
      rintro x c st' _ hx ⟨rfl,la,of,rfl,b1,b2,b3,b4⟩
      dsimp only
      by_cases hge:of≥ht+1
      · rw[if_pos hge]
        exact BK ⟨rfl,la,of,rfl,b1,b3,b4,.inl hge⟩
      · rw[if_neg hge]
        refine Bx (hf _ (by omega) _ ?_)
        dsimp only
        cases hm:p (ht-of) with
        | true =>
          rw[if_pos rfl]
          exact BK ⟨rfl,la,of,rfl,b1,b3,b4,.inr ⟨by omega,hm⟩⟩
        | false =>
          rw[if_neg (by simp)]
          exact BK ⟨rfl,of,2*of+1,rfl,by omega,by omega,by omega,hm⟩
    case post =>
      rintro c st' ⟨rfl,la,of,rfl,b1,b3,b4,b5⟩
      have h1:(ht+1-min of (ht+1))<=(ht-la):=by omega
      have h2:(ht-la)<=n:=by omega
      have h3:∀i,i<(ht+1-min of (ht+1))->p i=true:=λi hi=>by
        rcases b5 with b5 | ⟨b5,b6⟩
        · omega
        · exact hp i (ht-of) (by omega) (by omega) b6
      have h4:∀i,(ht-la)<=i->i<n->p i=false:=λi hi hn=>by
        cases hpi:p i with
        | false=>rfl
        | true=>rw[hp (ht-la) i hi hn hpi] at b4;cases b4
      dsimp only
      refine Bx (DK (CL (I:=λx c st'=>st=st'/\∃lo hi,c=(none,lo,hi)/\lo<=hi/\hi<=n/\hi-lo<=n-x/\(∀i,i<lo->p i=true)/\(∀i,hi<=i->i<n->p i=false))
        (Q:=λc st'=>st=st'/\∃k,c=(none,k,k)/\k<=n/\(∀i,i<k->p i=true)/\(∀i,k<=i->i<n->p i=false)) ?step ?fin ⟨rfl,(ht+1-min of (ht+1)),(ht-la),rfl,h1,h2,by omega,h3,h4⟩) ?post)
      case fin =>
        rintro c st' ⟨rfl,lo,hi,rfl,a1,a2,a3,a4,a5⟩
        have e:lo=hi:=by omega
        subst e
        exact ⟨rfl,lo,rfl,a2,a4,a5⟩
      case post =>
        rintro c st' ⟨rfl,k,rfl,a2,a4,a5⟩
        exact BK (h k a2 a4 a5)
      case step =>
        rintro x c st' _ hx ⟨rfl,lo,hi,rfl,a1,a2,a3,a4,a5⟩
        dsimp only
        by_cases hge:lo≥hi
        · rw[if_pos hge]
          have e:lo=hi:=by omega
          subst e
          exact BK ⟨rfl,lo,rfl,a2,a4,a5⟩
        · rw[if_neg hge]
          refine Bx (hf _ (by omega) _ ?_)
          dsimp only
          cases hm:p (lo+(hi-lo)/2) with
          | true =>
            rw[if_pos rfl]
            exact BK ⟨rfl,_,_,rfl,by omega,a2,by omega,λi hi'=>hp i _ (by omega) (by omega) hm,a5⟩
          | false =>
            rw[if_neg (by simp)]
            refine BK ⟨rfl,_,_,rfl,by omega,by omega,by omega,a4,λi hi' hn =>?_⟩
            cases hpi:p i with
            | false=>rfl
            | true=>rw[hp _ i hi' hn hpi] at hm;cases hm
end
open PySem PyProof.Rows
structure Cmp (prog:BD)(w:Cb)(A:B9)(s:Bi)(O:Gd)(key:BH->O.α)(U:BH->Prop)(κ:SortKind):Prop where
 lt:∀(E:Bh->Bi->Prop) (st:B7) (x y:BH) (Q:Option Bool->B7->Prop),kindOf st=κ -> U x->U y->Q (some (O.blt (key x) (key y))) st->wpS (B1 prog w) A E s (lt' x y) Q st
section
variable  {prog:BD}{w:Cb}{A:B9}{E:Bh->Bi->Prop}{s:Bi}{O:Gd}{key:BH->O.α}{U:BH->Prop}{κ:SortKind}
theorem aV {ar:Array BH}{i:Nat}{z:BH}{st:B7}{Q:BH->B7->Prop}(h:ar[i]? = some z)(hq:Q z st):wpS (B1 prog w) A E s (elem' ar i) Q st:=by
 rw[elem'_eq,h]
 exact BK hq
theorem zF (C:Cmp prog w A s O key U κ){ky:BH}{ar:Array BH}{bs n ht:Nat}{st:B7}{Q:Option Nat->B7->Prop}(g:Nat->BH)(hk:kindOf st=κ)(uk:U ky)
  (hg:∀i,i<n->ar[bs+i]? = some (g i)) (hu:∀i,i<n->U (g i)) (hs:∀i j,i<=j->j<n->O.kle (key (g i)) (key (g j))) (hh:ht<n)
  (h:∀k,k<=n->(∀i,i<k->O.kle (key (g i)) (key ky))->(∀i,k<=i->i<n->O.klt (key ky) (key (g i)))->Q (some k) st):wpS (B1 prog w) A E s (gal false ky ar bs n ht) Q st:=by
 refine vI (λi => !O.blt (key ky) (key (g i))) (λi hi R hr =>?_) (λi j hij hj hp =>?_) hh (λk hk' h1 h2=>h k hk' (λi hi =>?_) λi hi hn =>?_)
 ·refine Bx (aV (hg i hi) ?_)
  rw[if_neg (by simp)]
  exact Bx (C.lt _ st ky (g i) _ hk uk (hu i hi) (BK hr))
 ·have a1:O.blt (key ky) (key (g j))=false:=by simpa using hp
  have a2:O.kle (key (g i)) (key ky):=Cd (hs i j hij hj) a1
  have a3:O.blt (key ky) (key (g i))=false:=a2
  simp[a3]
 ·have a1:=h1 i hi
  exact (by simpa using a1:O.blt (key ky) (key (g i))=false)
 ·have a1:=h2 i hi hn
  exact (by simpa using a1:O.blt (key ky) (key (g i))=true)
theorem zG (C:Cmp prog w A s O key U κ){ky:BH}{ar:Array BH}{bs n ht:Nat}{st:B7}{Q:Option Nat->B7->Prop}(g:Nat->BH)(hk:kindOf st=κ)(uk:U ky)
  (hg:∀i,i<n->ar[bs+i]? = some (g i)) (hu:∀i,i<n->U (g i)) (hs:∀i j,i<=j->j<n->O.kle (key (g i)) (key (g j))) (hh:ht<n)
  (h:∀k,k<=n->(∀i,i<k->O.klt (key (g i)) (key ky))->(∀i,k<=i->i<n->O.kle (key ky) (key (g i)))->Q (some k) st):wpS (B1 prog w) A E s (gal true ky ar bs n ht) Q st:=by
 refine vI (λi=>O.blt (key (g i)) (key ky)) (λi hi R hr =>?_) (λi j hij hj hp =>?_) hh (λk hk' h1 h2=>h k hk' (λi hi=>h1 i hi) λi hi hn=>h2 i hi hn)
 ·refine Bx (aV (hg i hi) ?_)
  rw[if_pos rfl]
  exact C.lt _ st (g i) ky _ hk (hu i hi) uk hr
 ·exact KeyOrd.klt_of_kle_of_klt (hs i j hij hj) hp
end
open PySem PyProof.Rows
section
variable  {O:Gd}(key:BH->O.α)
def Le (p q:BH):Prop:=O.kle (key p) (key q)
structure MW (a b o:Array BH)(x y:Nat):Prop where
 hx:x<=a.size
 hy:y<=b.size
 perm:(o.toList++(a.toList.drop x++b.toList.drop y)).Perm (a.toList++b.toList)
 sorted:o.toList.Pairwise (Le key)
 below:∀p∈o.toList,∀z∈a.toList.drop x++b.toList.drop y,Le key p z
def dB (a b r:Array BH):Prop:=r.toList.Perm (a.toList++b.toList)/\r.toList.Pairwise (Le key)
variable  {key}
theorem MW.fin {a b o:Array BH}{x y:Nat}(m:MW key a b o x y){t:List BH}{r:Array BH}(hr:r.toList=o.toList++t)(ht:t.Perm (a.toList.drop x++b.toList.drop y))(hs:t.Pairwise (Le key)):dB key a b r:=by
 unfold dB
 rw[hr]
 exact ⟨(Dp _ ht).trans m.perm,CU.mpr ⟨m.sorted,hs,λp hp q hq=>m.below p hp q (ht.mem_iff.mp hq)⟩⟩
theorem MW.take {a b o:Array BH}{x y x' y':Nat}(m:MW key a b o x y){t:List BH}{r:Array BH}(hr:r.toList=o.toList++t)(hx:x'<=a.size)(hy:y'<=b.size)
  (ht:(t++(a.toList.drop x'++b.toList.drop y')).Perm (a.toList.drop x++b.toList.drop y)) (hs:t.Pairwise (Le key)) (hb:∀p∈t,∀z∈a.toList.drop x'++b.toList.drop y',Le key p z):MW key a b r x' y':=by
 have sub:∀z,z∈t\/z∈a.toList.drop x'++b.toList.drop y'->z∈a.toList.drop x++b.toList.drop y:=λz hz=>ht.mem_iff.mp (BC.mpr hz)
 refine ⟨hx,hy,?_,?_,?_⟩
 ·rw[hr,BZ]
  exact (Dp _ ht).trans m.perm
 ·rw[hr]
  exact CU.mpr ⟨m.sorted,hs,λp hp q hq=>m.below p hp q (sub q (.inl hq))⟩
 ·rw[hr]
  intro p hp z hz
  rcases BC.mp hp with h | h
  ·exact m.below p h z (sub z (.inr hz))
  ·exact hb p h z hz
theorem drop_cons {α:Type}{l:List α}{i:Nat}{z:α}(h:l[i]? = some z):l.drop i=z :: l.drop (i+1):=by
 obtain ⟨hi,e⟩:=Bt.mp h
 rw[List.drop_eq_getElem_cons hi,e]
theorem drop_take {α:Type}(l:List α)(i k:Nat):l.drop i=(l.drop i).take k++l.drop (i+k):=by
 rw[<- JH,Dq]
theorem aI {a:Array BH}{i:Nat}{z:BH}(h:a[i]? = some z):a.toList[i]? = some z:=by rw[Bv];exact h
theorem MW.ji {a b o:Array BH}{x y:Nat}{z:BH}(m:MW key a b o x y)(h:a[x]? = some z)(ha:a.toList.Pairwise (Le key))(hb:∀t∈b.toList.drop y,Le key z t):MW key a b (o.push z) (x+1) y:=by
 have e:=drop_cons (aI h)
 have hx:x<a.size:=(C9.mp h).1
 have pa:(z :: a.toList.drop (x+1)).Pairwise (Le key):=by rw[<- e];exact ha.sublist (CI _ _)
 refine m.take (t:=[z]) (by rw[En]) hx m.hy (by rw[e];exact Fe _) (Dv _ _) λp hp t ht =>?_
 have ep:p=z:=by simpa using hp
 subst ep
 rcases BC.mp ht with q | q
 ·exact (DR.mp pa).1 t q
 ·exact hb t q
theorem MW.lZ {a b o:Array BH}{x y:Nat}{z:BH}(m:MW key a b o x y)(h:b[y]? = some z)(hb:b.toList.Pairwise (Le key))(ha:∀t∈a.toList.drop x,Le key z t):MW key a b (o.push z) x (y+1):=by
 have e:=drop_cons (aI h)
 have hy:y<b.size:=(C9.mp h).1
 have pb:(z :: b.toList.drop (y+1)).Pairwise (Le key):=by rw[<- e];exact hb.sublist (CI _ _)
 refine m.take (t:=[z]) (by rw[En]) m.hx hy (by rw[e,List.singleton_append];exact Jg.symm) (Dv _ _) λp hp t ht =>?_
 have ep:p=z:=by simpa using hp
 subst ep
 rcases BC.mp ht with q | q
 ·exact ha t q
 ·exact (DR.mp pb).1 t q
theorem ext_toList (a:Array BH)(x k:Nat):(a.extract x (x+k)).toList=(a.toList.drop x).take k:=by
 rw[DU,Dh,Dw]
theorem f9 (a:Array BH)(x:Nat):(a.extract x a.size).toList=a.toList.drop x:=by
 rw[DU,Dh]
 exact B5 (by rw[DT,Bl];exact Bn _)
theorem aJ {l:List BH}(h:l.Pairwise (Le key)){i j:Nat}{p q:BH}(hi:l[i]? = some p)(hj:l[j]? = some q)(hij:i<=j):Le key p q:=by
 by_cases e:i=j
 ·subst e
  rw[hi] at hj
  cases hj
  exact Dx _
 ·obtain ⟨h1,e1⟩:=Bt.mp hi
  obtain ⟨h2,e2⟩:=Bt.mp hj
  have:=Ff.mp h i j h1 h2 (by omega)
  rw[e1,e2] at this
  exact this
theorem aT {l:List BH}{i:Nat}{t:BH}(h:t∈l.drop i):∃j,i<=j/\l[j]? = some t:=by
 obtain ⟨n,e⟩:=Cv.mp h
 rw[ER] at e
 exact ⟨i+n,by omega,e⟩
theorem jj {l:List BH}{i k:Nat}{t:BH}(h:t∈(l.drop i).take k):∃j,j<k/\l[i+j]? = some t:=by
 obtain ⟨n,e⟩:=Cv.mp h
 rw[Dy] at e
 split at e
 ·rw[ER] at e
  exact ⟨n,by omega,e⟩
 ·cases e
theorem MW.vJ {a b o:Array BH}{x y k:Nat}(m:MW key a b o x y)(hk:x+k<=a.size)(ha:a.toList.Pairwise (Le key))(hb:∀j p,j<k->a.toList[x+j]? = some p->∀t∈b.toList.drop y,Le key p t):MW key a b (o++a.extract x (x+k)) (x+k) y:=by
 refine m.take (t:=(a.toList.drop x).take k) (by rw[B6,ext_toList]) hk m.hy ?_ ?_ λp hp t ht =>?_
 ·rw[<- BZ, <- drop_take]
 ·exact ha.sublist ((CQ _ _).trans (CI _ _))
 ·obtain ⟨j,hj,e⟩:=jj hp
  rcases BC.mp ht with q | q
  ·obtain ⟨i,hi,e2⟩:=aT q
   exact aJ ha e e2 (by omega)
  ·exact hb j p hj e t q
theorem MW.vK {a b o:Array BH}{x y k:Nat}(m:MW key a b o x y)(hk:y+k<=b.size)(hb:b.toList.Pairwise (Le key))(ha:∀j p,j<k->b.toList[y+j]? = some p->∀t∈a.toList.drop x,Le key p t):MW key a b (o++b.extract y (y+k)) x (y+k):=by
 refine m.take (t:=(b.toList.drop y).take k) (by rw[B6,ext_toList]) m.hx hk ?_ ?_ λp hp t ht =>?_
 ·rw[drop_take b.toList y k]
  have e:((b.toList.drop y).take k++b.toList.drop (y+k)).take k=(b.toList.drop y).take k:=by rw[<- drop_take]
  rw[e]
  refine (List.perm_append_comm_assoc _ _ _)
 ·exact hb.sublist ((CQ _ _).trans (CI _ _))
 ·obtain ⟨j,hj,e⟩:=jj hp
  rcases BC.mp ht with q | q
  ·exact ha j p hj e t q
  ·obtain ⟨i,hi,e2⟩:=aT q
   exact aJ hb e e2 (by omega)
theorem MW.um {a b o:Array BH}{x y:Nat}(m:MW key a b o x y)(ha:a.toList.Pairwise (Le key))(hy:y=b.size):dB key a b (o++a.extract x a.size++b.extract y b.size):=by
 subst hy
 have e:b.toList.drop b.size=[]:=Hn (by rw[Bl];exact Bn _)
 refine m.fin (t:=a.toList.drop x) (by rw[B6,B6,f9,f9,e,Cf]) (by rw[e,Cf]) (ha.sublist (CI _ _))
theorem MW.uo {a b o:Array BH}{x y:Nat}(m:MW key a b o x y)(hb:b.toList.Pairwise (Le key))(hx:x=a.size):dB key a b (o++a.extract x a.size++b.extract y b.size):=by
 subst hx
 have e:a.toList.drop a.size=[]:=Hn (by rw[Bl];exact Bn _)
 refine m.fin (t:=b.toList.drop y) (by rw[B6,B6,f9,f9,e,Cf]) (by rw[e,Fy]) (hb.sublist (CI _ _))
theorem MW.last {a b o:Array BH}{x y:Nat}(m:MW key a b o x y)(ha:a.toList.Pairwise (Le key))(hb:b.toList.Pairwise (Le key))(hx:x+1=a.size)(hl:∀p q,p∈b.toList->a[a.size-1]? = some q->Le key p q):dB key a b (o++b.extract y b.size++a.extract x a.size):=by
 refine m.fin (t:=b.toList.drop y++a.toList.drop x) (by rw[B6,B6,f9,f9,BZ]) EX ?_
 refine CU.mpr ⟨hb.sublist (CI _ _),ha.sublist (CI _ _),λp hp q hq=>hl p q (Eh hp) ?_⟩
 obtain ⟨i,hi,e⟩:=aT hq
 rw[Bv] at e
 have hi2:i<a.size:=(C9.mp e).1
 rw[show a.size-1=i by omega]
 exact e
theorem MW.size {a b o:Array BH}{x y:Nat}(m:MW key a b o x y):o.size+(a.size-x)+(b.size-y)=a.size+b.size:=by
 have e:=m.perm.length_eq
 simp only[Bj,DT,Bl] at e
 omega
end
structure Sm (st st':B7):Prop where
 k:kindOf st'=kindOf st
 a:BM st'=BM st
 p:B2 st'=B2 st
 f:failedOf st'=failedOf st
theorem Sm.refl (st:B7):Sm st st:=⟨rfl,rfl,rfl,rfl⟩
theorem Sm.mg {st st':B7}(h:Sm st st')(n:Nat):Sm st (SortSt.mk' (kindOf st') (BM st') (B2 st') n (failedOf st')):=⟨h.k,h.a,h.p,h.f⟩
open PySem PyProof.Rows
section
variable  {prog:BD}{w:Cb}{A:B9}{E:Bh->Bi->Prop}{s:Bi}{O:Gd}{key:BH->O.α}{U:BH->Prop}{κ:SortKind}
theorem aY {a:Array BH}{i:Nat}(h:i<a.size):∃z,a[i]? = some z:=⟨a[i],by simp[h]⟩
theorem bG {a:Array BH}{i:Nat}{z:BH}(h:a[i]? = some z):z∈a.toList:=Cv.mpr ⟨i,by rw[Bv];exact h⟩
theorem ltq {x n:Nat}(h:x<=n)(c:¬ (x == n)=true):x<n:=Iq h λz=>c (beq_iff_eq.mpr z)
abbrev LoC:=Option (Array BH)×Array BH×Nat×Nat×Nat×Nat×Nat
def xN (a b o:Array BH)(x y mg ac bc:Nat):StateT B7 Sem (ForInStep LoC):=do
  let z ← elem' a x
  if (x+1+1 == a.size)=true then pure (.done (some (o.push z++b.extract y b.size++a.extract (x+1) a.size),o.push z,x+1,y,mg,ac,bc))
  else if (decide (ac<7) && decide (bc<7))=true then pure (.done (none,o.push z,x+1,y,mg,ac,bc))
  else pure (.yield (none,o.push z,x+1,y,mg,ac,bc))
def xO (a b o:Array BH)(x y mg ac bc:Nat):StateT B7 Sem (ForInStep LoC):=do
  let z ← elem' b y
  if (y+1 == b.size)=true then pure (.done (some (o.push z++a.extract x a.size++b.extract (y+1) b.size),o.push z,x,y+1,mg,ac,bc))
  else do
    let z2 ← elem' a x
    let __x ← gal true z2 b (y+1) (b.size-(y+1)) 0
    match __x with
    | some k =>
      if k>0 then
        if (y+1+k == b.size)=true then pure (.done (some (o.push z++b.extract (y+1) (y+1+k)++a.extract x a.size++b.extract (y+1+k) b.size),o.push z++b.extract (y+1) (y+1+k),x,y+1+k,mg,ac,k))
        else xN a b (o.push z++b.extract (y+1) (y+1+k)) x (y+1+k) mg ac k
      else xN a b (o.push z) x (y+1) mg ac k
    | _=>pure (.done (some (o.push z++a.extract x a.size++b.extract (y+1) b.size),o.push z,x,y+1,mg,ac,bc))
def uq (a b p:Array BH)(x y ac bc mg:Nat):StateT B7 Sem (ForInStep LoC):=do
  modify (λs=>SortSt.mk' (kindOf s) (BM s) (B2 s) mg (failedOf s))
  let z ← elem' b y
  let __x ← gal false z a x (a.size-x) 0
  match __x with
  | some k =>
    if k>0 then
      if (x+k+1 == a.size)=true then pure (.done (some (p++a.extract x (x+k)++b.extract y b.size++a.extract (x+k) a.size),p++a.extract x (x+k),x+k,y,mg,k,bc))
      else if (x+k == a.size)=true then pure (.done (some (p++a.extract x (x+k)++a.extract (x+k) a.size++b.extract y b.size),p++a.extract x (x+k),x+k,y,mg,k,bc))
      else xO a b (p++a.extract x (x+k)) (x+k) y mg k bc
    else xO a b p x y mg k bc
  | _=>pure (.done (some (p++a.extract x a.size++b.extract y b.size),p,x,y,mg,ac,bc))
def LoQ (key:BH->O.α)(a b:Array BH)(st:B7)(n:Nat)(r:ForInStep LoC)(st':B7):Prop:=match r with
 | .done c=>Sm st st'/\((∃r p x y mg ac bc,c=(some r,p,x,y,mg,ac,bc)/\dB key a b r)\/∃p x y mg ac bc,c=(none,p,x,y,mg,ac,bc)/\MW key a b p x y/\x+1<a.size/\y<b.size/\n<=p.size)
 | .yield c=>Sm st st'/\∃p x y mg ac bc,c=(none,p,x,y,mg,ac,bc)/\MW key a b p x y/\x+1<a.size/\y<b.size/\n<=p.size
theorem LoQ.out {a b:Array BH}{st st':B7}{n:Nat}{r:Array BH}{c:Array BH×Nat×Nat×Nat×Nat×Nat}(sm:Sm st st')(f:dB key a b r):LoQ key a b st n (.done (some r,c)) st':=by
 obtain ⟨p,x,y,mg,ac,bc⟩:=c
 exact ⟨sm,.inl ⟨_,_,_,_,_,_,_,rfl,f⟩⟩
theorem sD {a b:Array BH}{st st':B7}(ha:a.toList.Pairwise (Le key))(hb:b.toList.Pairwise (Le key))(hl:∀p q,p∈b.toList->a[a.size-1]? = some q->Le key p q)
  {o:Array BH} {x y mg ac bc n:Nat} {za:BH} (sm:Sm st st') (ea:a[x]? = some za) (m4:MW key a b (o.push za) (x+1) y) (hx:x+1<a.size) (hy:y<b.size) (hn:n<=o.size):wpS (B1 prog w) A E s (xN a b o x y mg ac bc) (LoQ key a b st n) st':=by
 unfold xN
 refine Bx (aV ea ?_)
 by_cases d5:(x+1+1 == a.size)=true
 ·rw[if_pos d5]
  exact BK (LoQ.out sm (m4.last ha hb (beq_iff_eq.mp d5) hl))
 rw[if_neg d5]
 have hx2:x+1+1<a.size:=ltq hx d5
 have hn':n<=(o.push za).size:=by rw[Eo];exact FJ hn
 split
 ·exact BK ⟨sm,.inr ⟨_,_,_,_,_,_,rfl,m4,hx2,hy,hn'⟩⟩
 ·exact BK ⟨sm,_,_,_,_,_,_,rfl,m4,hx2,hy,hn'⟩
theorem sE (C:Cmp prog w A s O key U κ){a b:Array BH}{st st':B7}(hκ:kindOf st=κ)(ua:∀p∈a.toList,U p)(ub:∀p∈b.toList,U p)
  (ha:a.toList.Pairwise (Le key)) (hb:b.toList.Pairwise (Le key)) (hl:∀p q,p∈b.toList->a[a.size-1]? = some q->Le key p q)
  {o:Array BH} {x y mg ac bc n:Nat} {zb:BH} (sm:Sm st st') (eb:b[y]? = some zb) (mk:MW key a b o x y) (bl:∀t∈a.toList.drop x,Le key zb t) (hx1:x+1<a.size) (hy:y<b.size) (hn:n<=o.size):wpS (B1 prog w) A E s (xO a b o x y mg ac bc) (LoQ key a b st n) st':=by
 unfold xO
 refine Bx (aV eb ?_)
 have m2:=mk.lZ eb hb bl
 by_cases d3:(y+1 == b.size)=true
 ·rw[if_pos d3]
  exact BK (LoQ.out sm (m2.um ha (beq_iff_eq.mp d3)))
 rw[if_neg d3]
 have hy1:y+1<b.size:=ltq hy d3
 have hxa:x<a.size:=E7 hx1
 obtain ⟨za,ea⟩:=aY hxa
 refine Bx (aV ea ?_)
 refine Bx (zG C (λi=>(b[y+1+i]?).getD za) (sm.k.trans hκ) (ua _ (bG ea)) (λi hi =>?_) (λi hi =>?_) (λi j hij hj =>?_) (IM hy1) λk1 hk1 g1 g2 =>?_)
 ·obtain ⟨z,e⟩:=aY (show y+1+i<b.size by omega)
  rw[e];rfl
 ·obtain ⟨z,e⟩:=aY (show y+1+i<b.size by omega)
  rw[e];exact ub _ (bG e)
 ·obtain ⟨z,e⟩:=aY (show y+1+i<b.size by omega)
  obtain ⟨z',e'⟩:=aY (show y+1+j<b.size by omega)
  rw[e,e'];exact aJ hb (aI e) (aI e') (Fm hij _)
 dsimp only at g1 g2 ⊢
 have tb:∀j q,j<k1->b.toList[y+1+j]? = some q->∀t∈a.toList.drop x,Le key q t:=λj q hj e t ht=>by
  have z:=g1 j hj
  rw[Bv] at e
  rw[e] at z
  obtain ⟨n,hn,e2⟩:=aT ht
  exact Cd (CS z) (aJ ha (aI ea) e2 hn)
 have hk1':y+1+k1<=b.size:=by omega
 have m3:=m2.vK (k:=k1) hk1' hb tb
 have bl2:∀t∈b.toList.drop (y+1+k1),Le key za t:=λt ht=>by
  obtain ⟨n,hn,e2⟩:=aT ht
  rw[Bv] at e2
  have hn2:n<b.size:=(C9.mp e2).1
  have z:=g2 (n-(y+1)) (by omega) (by omega)
  rw[show y+1+(n-(y+1))=n by omega,e2] at z
  exact z
 have hn1:n<=(o.push zb).size:=by rw[Eo];exact FJ hn
 by_cases k2:k1>0
 ·rw[if_pos k2]
  by_cases d4:(y+1+k1 == b.size)=true
  ·rw[if_pos d4]
   exact BK (LoQ.out sm (m3.um ha (beq_iff_eq.mp d4)))
  rw[if_neg d4]
  exact sD ha hb hl sm ea (m3.ji ea ha bl2) hx1 (ltq hk1' d4) (BS hn1 (by rw[Ep];exact EJ _ _))
 ·rw[if_neg k2]
  obtain rfl:k1=0:=EN k2
  exact sD ha hb hl sm ea (m2.ji ea ha bl2) hx1 hy1 hn1
theorem sH (C:Cmp prog w A s O key U κ){a b:Array BH}{st st':B7}(hκ:kindOf st=κ)(ua:∀p∈a.toList,U p)(ub:∀p∈b.toList,U p)
  (ha:a.toList.Pairwise (Le key)) (hb:b.toList.Pairwise (Le key)) (hl:∀p q,p∈b.toList->a[a.size-1]? = some q->Le key p q)
  {p:Array BH} {x y ac bc n:Nat} (mg:Nat) (sm:Sm st st') (m:MW key a b p x y) (hx:x+1<a.size) (hy:y<b.size) (hn:n<=p.size):wpS (B1 prog w) A E s (uq a b p x y ac bc mg) (LoQ key a b st n) st':=by
 unfold uq
 obtain ⟨zb,eb⟩:=aY hy
 refine Bx (D1 ?_)
 refine Bx (aV eb ?_)
 refine Bx (zF C (λi=>(a[x+i]?).getD zb) ((sm.mg _).k.trans hκ) (ub _ (bG eb)) (λi hi =>?_) (λi hi =>?_) (λi j hij hj =>?_) (IM (E7 hx)) λk hk h1 h2 =>?_)
 ·obtain ⟨z,e⟩:=aY (show x+i<a.size by omega)
  rw[e];rfl
 ·obtain ⟨z,e⟩:=aY (show x+i<a.size by omega)
  rw[e];exact ua _ (bG e)
 ·obtain ⟨z,e⟩:=aY (show x+i<a.size by omega)
  obtain ⟨z',e'⟩:=aY (show x+j<a.size by omega)
  rw[e,e'];exact aJ ha (aI e) (aI e') (Fm hij _)
 dsimp only at h1 h2 ⊢
 have ta:∀j q,j<k->a.toList[x+j]? = some q->∀t∈b.toList.drop y,Le key q t:=λj q hj e t ht=>by
  have z:=h1 j hj
  rw[Bv] at e
  rw[e] at z
  obtain ⟨n,hn,e2⟩:=aT ht
  exact Cd (show O.kle (key q) (key zb) from z) (aJ hb (aI eb) e2 hn)
 have hk':x+k<=a.size:=by omega
 have mk:=m.vJ (k:=k) hk' ha ta
 have bl:∀t∈a.toList.drop (x+k),Le key zb t:=λt ht=>by
  obtain ⟨n,hn,e2⟩:=aT ht
  rw[Bv] at e2
  have hn2:n<a.size:=(C9.mp e2).1
  have z:=h2 (n-x) (by omega) (by omega)
  rw[show x+(n-x)=n by omega,e2] at z
  exact CS z
 by_cases k0:k>0
 ·rw[if_pos k0]
  by_cases d1:(x+k+1 == a.size)=true
  ·rw[if_pos d1]
   exact BK (LoQ.out (sm.mg _) (mk.last ha hb (beq_iff_eq.mp d1) hl))
  rw[if_neg d1]
  by_cases d2:(x+k == a.size)=true
  ·rw[if_pos d2]
   exact BK (LoQ.out (sm.mg _) (mk.uo hb (beq_iff_eq.mp d2)))
  rw[if_neg d2]
  exact sE C hκ ua ub ha hb hl (sm.mg _) eb mk bl (ltq (ltq hk' d2) d1) hy (BS hn (by rw[Ep];exact EJ _ _))
 ·rw[if_neg k0]
  obtain rfl:k=0:=EN k0
  exact sE C hκ ua ub ha hb hl (sm.mg _) eb m bl hx hy hn
theorem xP (C:Cmp prog w A s O key U κ){a b:Array BH}{st st':B7}(hκ:kindOf st=κ)(ua:∀p∈a.toList,U p)(ub:∀p∈b.toList,U p)
  (ha:a.toList.Pairwise (Le key)) (hb:b.toList.Pairwise (Le key)) (hl:∀p q,p∈b.toList->a[a.size-1]? = some q->Le key p q)
  {p:Array BH} {x y ac bc n mg:Nat} (sm:Sm st st') (m:MW key a b p x y) (hx:x+1<a.size) (hy:y<b.size) (hn:n<=p.size):wpS (B1 prog w) A E s (if mg>1 then uq a b p x y ac bc (mg-1) else uq a b p x y ac bc mg) (LoQ key a b st n) st':=by
 split
 ·exact sH C hκ ua ub ha hb hl (mg-1) sm m hx hy hn
 ·exact sH C hκ ua ub ha hb hl mg sm m hx hy hn
abbrev LoD:=Option (Array BH)×Array BH×Nat×Nat×Nat×Nat
abbrev LoE:=Option (Array BH)×Array BH×Nat×Nat×Nat
def vL (a b:Array BH)(mg:Nat)(c:LoD):StateT B7 Sem (ForInStep LoD):=do
  let u ← elem' b c.2.2.2.1
  let v ← elem' a c.2.2.1
  let __x ← lt' u v
  match __x with
  | some bw =>
    if bw=true then do
      let z ← elem' b c.2.2.2.1
      if (c.2.2.2.1+1 == b.size)=true then pure (.done (some (c.2.1.push z++a.extract c.2.2.1 a.size++b.extract (c.2.2.2.1+1) b.size),c.2.1.push z,c.2.2.1,c.2.2.2.1+1,0,c.2.2.2.2.2+1))
      else if c.2.2.2.2.2+1≥mg then pure (.done (none,c.2.1.push z,c.2.2.1,c.2.2.2.1+1,0,c.2.2.2.2.2+1))
      else pure (.yield (none,c.2.1.push z,c.2.2.1,c.2.2.2.1+1,0,c.2.2.2.2.2+1))
    else do
      let z ← elem' a c.2.2.1
      if (c.2.2.1+1+1 == a.size)=true then pure (.done (some (c.2.1.push z++b.extract c.2.2.2.1 b.size++a.extract (c.2.2.1+1) a.size),c.2.1.push z,c.2.2.1+1,c.2.2.2.1,c.2.2.2.2.1+1,0))
      else if c.2.2.2.2.1+1≥mg then pure (.done (none,c.2.1.push z,c.2.2.1+1,c.2.2.2.1,c.2.2.2.2.1+1,0))
      else pure (.yield (none,c.2.1.push z,c.2.2.1+1,c.2.2.2.1,c.2.2.2.2.1+1,0))
  | _=>pure (.done (some (c.2.1++a.extract c.2.2.1 a.size++b.extract c.2.2.2.1 b.size),c.2.1,c.2.2.1,c.2.2.2.1,c.2.2.2.2.1,c.2.2.2.2.2))
def zH (a b:Array BH)(c:LoC):StateT B7 Sem (ForInStep LoC) :=
 if c.2.2.2.2.1>1 then uq a b c.2.1 c.2.2.1 c.2.2.2.1 c.2.2.2.2.2.1 c.2.2.2.2.2.2 (c.2.2.2.2.1-1) else uq a b c.2.1 c.2.2.1 c.2.2.2.1 c.2.2.2.2.2.1 c.2.2.2.2.2.2 c.2.2.2.2.1
def qG (a b:Array BH)(c:LoE):StateT B7 Sem (ForInStep LoE):=do
  let d ← forIn [0:a.size+b.size] ((none,c.2.1,c.2.2.1,c.2.2.2.1,0,0):LoD) λ_ d=>vL a b c.2.2.2.2 d
  match d.1 with
  | some r=>pure (.done (some r,d.2.1,d.2.2.1,d.2.2.2.1,c.2.2.2.2))
  | none=>do
    rule "list.sort.gallop"
    let e ← forIn [0:a.size+b.size] ((none,d.2.1,d.2.2.1,d.2.2.2.1,c.2.2.2.2+1,d.2.2.2.2.1,d.2.2.2.2.2):LoC) λ_ e=>zH a b e
    match e.1 with
    | some r=>pure (.done (some r,e.2.1,e.2.2.1,e.2.2.2.1,e.2.2.2.2.1))
    | none=>do
      modify (λs=>SortSt.mk' (kindOf s) (BM s) (B2 s) (e.2.2.2.2.1+1) (failedOf s))
      pure (.yield (none,e.2.1,e.2.2.1,e.2.2.2.1,e.2.2.2.2.1+1))
theorem xQ (a b:Array BH):mLo a b=(do
    rule "list.sort.merge-lo"
    let z ← elem' b 0
    if (1 == b.size)=true then pure (#[z]++a.extract 0 a.size++b.extract 1 b.size)
    else if (0+1 == a.size)=true then pure (#[z]++b.extract 1 b.size++a.extract 0 a.size)
    else do
      let g ← get
      let c ← forIn [0:a.size+b.size] ((none, #[z],0,1,gallopOf g):LoE) λ_ c=>qG a b c
      match c.1 with
      | some r=>pure r
      | none=>unsupported "internal:list.sort.merge-bound"):=by
  kernel_rfl
def LdI (key:BH->O.α)(a b:Array BH)(st:B7)(n:Nat)(c:LoD)(st':B7):Prop:=Sm st st'/\∃o' x y ac bc,c=(none,o',x,y,ac,bc)/\MW key a b o' x y/\x+1<a.size/\y<b.size/\n<=o'.size
def LdQ (key:BH->O.α)(a b:Array BH)(st:B7)(n:Nat)(c:LoD)(st':B7):Prop:=Sm st st'/\((∃r o x y ac bc,c=(some r,o,x,y,ac,bc)/\dB key a b r)\/∃o' x y ac bc,c=(none,o',x,y,ac,bc)/\MW key a b o' x y/\x+1<a.size/\y<b.size/\n<=o'.size)
theorem vM (C:Cmp prog w A s O key U κ){a b:Array BH}{st st':B7}(hκ:kindOf st=κ)(ua:∀p∈a.toList,U p)(ub:∀p∈b.toList,U p)
  (ha:a.toList.Pairwise (Le key)) (hb:b.toList.Pairwise (Le key)) (hl:∀p q,p∈b.toList->a[a.size-1]? = some q->Le key p q)
  {mg n m':Nat} {c:LoD} (I:LdI key a b st n c st') (hm:m'<=n+1) {Q:ForInStep LoD->B7->Prop} (h:∀r st',(match r with | .done c'=>LdQ key a b st (n+1) c' st' | .yield c'=>LdI key a b st m' c' st')->Q r st'):wpS (B1 prog w) A E s (vL a b mg c) Q st':=by
 obtain ⟨sm2,o',x,y,ac,bc,rfl,m,hx,hy,hz⟩:=I
 unfold vL
 obtain ⟨za,ea⟩:=aY (E7 hx)
 obtain ⟨zb,eb⟩:=aY hy
 refine Bx (aV eb (Bx (aV ea (Bx (C.lt _ st' zb za _ (sm2.k.trans hκ) (ub _ (bG eb)) (ua _ (bG ea)) ?_)))))
 dsimp only
 have sz:∀z,n+1<=(o'.push z).size:=λz=>by rw[Eo];exact Jh hz
 cases hlt:O.blt (key zb) (key za) with
 | true =>
  rw[if_pos rfl]
  refine Bx (aV eb ?_)
  have m1:=m.lZ eb hb λt ht=>by
   obtain ⟨n,hn,e⟩:=aT ht
   exact Cd (CS hlt) (aJ ha (aI ea) e hn)
  by_cases c3:(y+1 == b.size)=true
  ·rw[if_pos c3]
   exact BK (h _ _ ⟨sm2,.inl ⟨_,_,_,_,_,_,rfl,m1.um ha (beq_iff_eq.mp c3)⟩⟩)
  ·rw[if_neg c3]
   have c3':=ltq hy c3
   split
   ·exact BK (h _ _ ⟨sm2,.inr ⟨_,_,_,_,_,rfl,m1,hx,c3',sz _⟩⟩)
   ·exact BK (h _ _ ⟨sm2,_,_,_,_,_,rfl,m1,hx,c3',BS hm (sz _)⟩)
 | false =>
  rw[if_neg Bo]
  refine Bx (aV ea ?_)
  have m1:=m.ji ea ha λt ht=>by
   obtain ⟨n,hn,e⟩:=aT ht
   exact Cd (show O.kle (key za) (key zb) from hlt) (aJ hb (aI eb) e hn)
  by_cases c3:(x+1+1 == a.size)=true
  ·rw[if_pos c3]
   exact BK (h _ _ ⟨sm2,.inl ⟨_,_,_,_,_,_,rfl,m1.last ha hb (beq_iff_eq.mp c3) hl⟩⟩)
  ·rw[if_neg c3]
   have c3':=ltq hx c3
   split
   ·exact BK (h _ _ ⟨sm2,.inr ⟨_,_,_,_,_,rfl,m1,c3',hy,sz _⟩⟩)
   ·exact BK (h _ _ ⟨sm2,_,_,_,_,_,rfl,m1,c3',hy,BS hm (sz _)⟩)
def LeI (key:BH->O.α)(a b:Array BH)(st:B7)(n:Nat)(c:LoE)(st':B7):Prop:=Sm st st'/\∃o x y mg,c=(none,o,x,y,mg)/\MW key a b o x y/\x+1<a.size/\y<b.size/\n+1<=o.size
def LeQ (key:BH->O.α)(a b:Array BH)(st:B7)(c:LoE)(st':B7):Prop:=Sm st st'/\((∃r o x y mg,c=(some r,o,x,y,mg)/\dB key a b r)\/∃o x y mg,c=(none,o,x,y,mg)/\MW key a b o x y/\x+1<a.size/\y<b.size/\a.size+b.size+1<=o.size)
theorem ur (C:Cmp prog w A s O key U κ){a b:Array BH}{st st':B7}(hκ:kindOf st=κ)(ua:∀p∈a.toList,U p)(ub:∀p∈b.toList,U p)
  (ha:a.toList.Pairwise (Le key)) (hb:b.toList.Pairwise (Le key)) (na:0<a.size) (hl:∀p q,p∈b.toList->a[a.size-1]? = some q->Le key p q)
  {n:Nat} {c:LoE} (I:LeI key a b st n c st'):wpS (B1 prog w) A E s (qG a b c) (λr st'=>match r with | .done c'=>LeQ key a b st c' st' | .yield c'=>LeI key a b st (n+1) c' st') st':=by
 obtain ⟨sm1,o,x,y,mg,rfl,m,hx,hy,hz⟩:=I
 unfold qG
 have q1:1<=a.size+b.size:=BS na (EJ _ _)
 refine Bx (DK (CL (I:=λj c st'=>LdI key a b st (o.size+min j 1) c st') (Q:=LdQ key a b st (o.size+1)) (λj c st2 _ hj J=>vM (n:=o.size+min j 1) (m':=o.size+min (j+1) 1) C hκ ua ub ha hb hl J (by omega) λr st' k =>?_) (λc st' J =>?_) ⟨sm1,o,x,y,0,0,rfl,m,hx,hy,Bn _⟩) ?_)
 ·cases r with
  | done c'=>exact k.imp id λz=>z.imp id λ⟨o',x,y,ac,bc,e,m,hx,hy,hz⟩=>⟨o',x,y,ac,bc,e,m,hx,hy,by omega⟩
  | yield c'=>exact k
 ·obtain ⟨sm,o',x,y,ac,bc,e,m,hx,hy,hz⟩:=J
  exact ⟨sm,.inr ⟨o',x,y,ac,bc,e,m,hx,hy,by omega⟩⟩
 rintro c st2 ⟨sm2,⟨r,o',x,y,ac,bc,rfl,fr⟩ | ⟨o',x,y,ac,bc,rfl,m,hx,hy,hz2⟩⟩
 ·exact BK ⟨sm2,.inl ⟨_,_,_,_,_,rfl,fr⟩⟩
 dsimp only
 refine Bx (Gf (D0 ⟨rfl,?_⟩))
 refine Bx (DK (CL (I:=λ_ c st'=>LoQ key a b st o'.size (.yield c) st') (Q:=λc st'=>LoQ key a b st o'.size (.done c) st') (λj c st3 _ hj J =>?_) (λc st' J=>⟨J.1,.inr J.2⟩) ⟨sm2,o',x,y,_,ac,bc,rfl,m,hx,hy,Bn _⟩) ?_)
 ·obtain ⟨sm3,p,x,y,mg,ac,bc,rfl,m,hx,hy,hz3⟩:=J
  refine DK (xP C hκ ua ub ha hb hl sm3 m hx hy hz3) ?_
  intro r st' h
  cases r <;> exact h
 rintro c st3 ⟨sm3,⟨r,p,x,y,mg,ac,bc,rfl,fr⟩ | ⟨p,x,y,mg,ac,bc,rfl,m,hx,hy,hz3⟩⟩
 ·exact BK ⟨sm3,.inl ⟨_,_,_,_,_,rfl,fr⟩⟩
 ·dsimp only
  exact Bx (D1 (BK ⟨sm3.mg _,p,x,y,_,rfl,m,hx,hy,by omega⟩))
theorem zI (C:Cmp prog w A s O key U κ){a b:Array BH}{st:B7}{Q:Array BH->B7->Prop}(hκ:kindOf st=κ)(ua:∀p∈a.toList,U p)(ub:∀p∈b.toList,U p)
  (ha:a.toList.Pairwise (Le key)) (hb:b.toList.Pairwise (Le key)) (na:0<a.size) (nb:0<b.size) (h0:∀p q,b[0]? = some p->a[0]? = some q->Le key p q) (hl:∀p q,p∈b.toList->a[a.size-1]? = some q->Le key p q)
  (h:∀r st',Sm st st'->dB key a b r->Q r st'):wpS (B1 prog w) A E s (mLo a b) Q st:=by
 rw[xQ]
 refine Bx (Gf (D0 ⟨rfl,?_⟩))
 obtain ⟨b0,eb0⟩:=aY nb
 obtain ⟨a0,ea0⟩:=aY na
 have a0le:∀t∈a.toList,Le key a0 t:=λt ht=>by
  obtain ⟨i,e⟩:=Cv.mp ht
  exact aJ ha (aI ea0) e (BU _)
 have m0:MW key a b #[] 0 0:=⟨BU _,BU _,Fe _,List.Pairwise.nil,λp hp=>by cases hp⟩
 have m1:MW key a b #[b0] 0 1:=m0.lZ eb0 hb λt ht=>Cd (h0 _ _ eb0 ea0) (a0le t ht)
 refine Bx (aV eb0 ?_)
 by_cases c1:(1 == b.size)=true
 ·rw[if_pos c1]
  exact BK (h _ st (Sm.refl st) (m1.um ha (beq_iff_eq.mp c1)))
 rw[if_neg c1]
 by_cases c2:(0+1 == a.size)=true
 ·rw[if_pos c2]
  exact BK (h _ st (Sm.refl st) (m1.last ha hb (beq_iff_eq.mp c2) hl))
 rw[if_neg c2]
 refine Bx (F7 ?_)
 refine Bx (DK (CL (I:=λi c st'=>LeI key a b st i c st') (Q:=LeQ key a b st) (λi c st1 _ _ J=>DK (ur C hκ ua ub ha hb na hl J) λr st' h=>by cases r <;> exact h) (λc st' J =>?_) ⟨Sm.refl st,_,_,_,_,rfl,m1,ltq na c2,ltq nb c1,Bn _⟩) ?_)
 ·obtain ⟨sm,o,x,y,mg,e,m,hx,hy,hz⟩:=J
  exact ⟨sm,.inr ⟨o,x,y,mg,e,m,hx,hy,by omega⟩⟩
 rintro c st' ⟨sm,⟨r,o,x,y,mg,rfl,fr⟩ | ⟨o,x,y,mg,rfl,m,hx,hy,hz⟩⟩
 ·exact BK (h r st' sm fr)
 ·have:=m.size
  omega
end
open PySem PyProof.Rows
section
variable  {O:Gd}(key:BH->O.α)
structure MV (a b o:Array BH)(x y:Nat):Prop where
 hx:x<=a.size
 hy:y<=b.size
 perm:((a.toList.take x++b.toList.take y)++o.toList.reverse).Perm (a.toList++b.toList)
 sorted:o.toList.reverse.Pairwise (Le key)
 above:∀p∈a.toList.take x++b.toList.take y,∀q∈o.toList.reverse,Le key p q
variable  {key}
theorem MV.fin {a b o:Array BH}{x y:Nat}(m:MV key a b o x y){t:List BH}{r:Array BH}(hr:r.toList=t++o.toList.reverse)(ht:t.Perm (a.toList.take x++b.toList.take y))(hs:t.Pairwise (Le key)):dB key a b r:=by
 unfold dB
 rw[hr]
 exact ⟨(D3 _ ht).trans m.perm,CU.mpr ⟨hs,m.sorted,λp hp q hq=>m.above p (ht.mem_iff.mp hp) q hq⟩⟩
theorem MV.take {a b o:Array BH}{x y x' y':Nat}(m:MV key a b o x y){t:List BH}{r:Array BH}(hr:r.toList.reverse=t++o.toList.reverse)(hx:x'<=a.size)(hy:y'<=b.size)
  (ht:((a.toList.take x'++b.toList.take y')++t).Perm (a.toList.take x++b.toList.take y)) (hs:t.Pairwise (Le key)) (hb:∀p∈a.toList.take x'++b.toList.take y',∀q∈t,Le key p q):MV key a b r x' y':=by
 have sub:∀z,z∈a.toList.take x'++b.toList.take y'\/z∈t->z∈a.toList.take x++b.toList.take y:=λz hz=>ht.mem_iff.mp (BC.mpr hz)
 refine ⟨hx,hy,?_,?_,?_⟩
 ·rw[hr, <- BZ]
  exact (D3 _ ht).trans m.perm
 ·rw[hr]
  exact CU.mpr ⟨hs,m.sorted,λp hp q hq=>m.above p (sub p (.inr hp)) q hq⟩
 ·rw[hr]
  intro p hp z hz
  rcases BC.mp hz with h | h
  ·exact hb p hp z h
  ·exact m.above p (sub p (.inl hp)) z h
theorem aZ {l:List BH}{k:Nat}{t:BH}(h:t∈l.take k):∃j,j<k/\l[j]? = some t:=by
 obtain ⟨n,e⟩:=Cv.mp h
 rw[Dy] at e
 split at e
 ·exact ⟨n,by omega,e⟩
 ·cases e
theorem ma {l:List BH}{x:Nat}{z:BH}(hx:1<=x)(h:l[x-1]? = some z):l.take x=l.take (x-1)++[z]:=by
 obtain ⟨n,rfl⟩:∃n,x=n+1:=⟨x-1,by omega⟩
 rw[Nat.add_sub_cancel] at h ⊢
 rw[CT,h]
 rfl
theorem sI (a:Array BH)(c x:Nat)(hx:x<=a.size):(a.extract c x).toList=(a.toList.take x).drop c:=by
 rw[DU,Dh,List.drop_take]
theorem gc (a:Array BH)(x:Nat):(a.extract 0 x).toList=a.toList.take x:=by
 rw[DU,Dh,HR,Nat.sub_zero]
theorem MV.ji {a b o:Array BH}{x y:Nat}{z:BH}(m:MV key a b o x y)(h1:1<=x)(h:a[x-1]? = some z)(ha:a.toList.Pairwise (Le key))(hb:∀t∈b.toList.take y,Le key t z):MV key a b (o.push z) (x-1) y:=by
 have e:=ma h1 (aI h)
 refine m.take (t:=[z]) (by rw[En,Dk];rfl) (by have:=m.hx;omega) m.hy ?_ (Dv _ _) λp hp q hq =>?_
 ·rw[e,BZ,BZ]
  exact Dp _ EX
 ·have eq:q=z:=by simpa using hq
  subst eq
  rcases BC.mp hp with r | r
  ·obtain ⟨j,hj,e2⟩:=aZ r
   exact aJ ha e2 (aI h) (by omega)
  ·exact hb p r
theorem MV.lZ {a b o:Array BH}{x y:Nat}{z:BH}(m:MV key a b o x y)(h1:1<=y)(h:b[y-1]? = some z)(hb:b.toList.Pairwise (Le key))(ha:∀t∈a.toList.take x,Le key t z):MV key a b (o.push z) x (y-1):=by
 have e:=ma h1 (aI h)
 refine m.take (t:=[z]) (by rw[En,Dk];rfl) m.hx (by have:=m.hy;omega) ?_ (Dv _ _) λp hp q hq =>?_
 ·rw[e,BZ]
 ·have eq:q=z:=by simpa using hq
  subst eq
  rcases BC.mp hp with r | r
  ·exact ha p r
  ·obtain ⟨j,hj,e2⟩:=aZ r
   exact aJ hb e2 (aI h) (by omega)
theorem sL (l:List BH){c x:Nat}(h:c<=x):l.take x=l.take c++(l.take x).drop c:=by
 have e:(l.take x).take c=l.take c:=by rw[List.take_take,Nat.min_eq_left h]
 rw[<- e,Dq]
theorem j0 {l:List BH}{c x:Nat}{t:BH}(h:t∈(l.take x).drop c):∃j,c<=j/\j<x/\l[j]? = some t:=by
 obtain ⟨j,hj,e⟩:=aT h
 rw[Dy] at e
 split at e
 ·exact ⟨j,hj,by omega,e⟩
 ·cases e
theorem MV.vJ {a b o:Array BH}{x y c:Nat}(m:MV key a b o x y)(hc:c<=x)(ha:a.toList.Pairwise (Le key))(hb:∀j p,c<=j->j<x->a.toList[j]? = some p->∀t∈b.toList.take y,Le key t p):MV key a b (o++(a.extract c x).reverse) c y:=by
 refine m.take (t:=(a.toList.take x).drop c) (by rw[B6,Dk,Ei,DV,sI _ _ _ m.hx]) (BS hc m.hx) m.hy ?_ ?_ λp hp q hq =>?_
 ·refine List.Perm.trans ?_ (D3 _ (List.Perm.of_eq (sL a.toList hc).symm))
  rw[BZ,BZ]
  exact Dp _ EX
 ·exact ha.sublist ((CI _ _).trans (CQ _ _))
 ·obtain ⟨j,h1,h2,e⟩:=j0 hq
  rcases BC.mp hp with r | r
  ·obtain ⟨i,hi,e2⟩:=aZ r
   exact aJ ha e2 e (by omega)
  ·exact hb j q h1 h2 e p r
theorem MV.vK {a b o:Array BH}{x y c:Nat}(m:MV key a b o x y)(hc:c<=y)(hb:b.toList.Pairwise (Le key))(ha:∀j p,c<=j->j<y->b.toList[j]? = some p->∀t∈a.toList.take x,Le key t p):MV key a b (o++(b.extract c y).reverse) x c:=by
 refine m.take (t:=(b.toList.take y).drop c) (by rw[B6,Dk,Ei,DV,sI _ _ _ m.hy]) m.hx (BS hc m.hy) ?_ ?_ λp hp q hq =>?_
 ·rw[BZ, <- sL b.toList hc]
 ·exact hb.sublist ((CI _ _).trans (CQ _ _))
 ·obtain ⟨j,h1,h2,e⟩:=j0 hq
  rcases BC.mp hp with r | r
  ·exact ha j q h1 h2 e p r
  ·obtain ⟨i,hi,e2⟩:=aZ r
   exact aJ hb e2 e (by omega)
theorem MV.uo {a b o:Array BH}{x y:Nat}(m:MV key a b o x y)(hb:b.toList.Pairwise (Le key))(hx:x=0):dB key a b (a.extract 0 x++b.extract 0 y++o.reverse):=by
 subst hx
 refine m.fin (t:=b.toList.take y) (by rw[B6,B6,gc,gc,Ei,Ed,Fy]) (by rw[Ed,Fy]) (hb.sublist (CQ _ _))
theorem MV.um {a b o:Array BH}{x y:Nat}(m:MV key a b o x y)(ha:a.toList.Pairwise (Le key))(hy:y=0):dB key a b (a.extract 0 x++b.extract 0 y++o.reverse):=by
 subst hy
 refine m.fin (t:=a.toList.take x) (by rw[B6,B6,gc,gc,Ei,Ed,Cf]) (by rw[Ed,Cf]) (ha.sublist (CQ _ _))
theorem MV.first {a b o:Array BH}{x y:Nat}(m:MV key a b o x y)(ha:a.toList.Pairwise (Le key))(hb:b.toList.Pairwise (Le key))(hy:y=1)(hl:∀p q,b[0]? = some p->q∈a.toList->Le key p q):dB key a b (b.extract 0 y++a.extract 0 x++o.reverse):=by
 refine m.fin (t:=b.toList.take y++a.toList.take x) (by rw[B6,B6,gc,gc,Ei]) EX ?_
 refine CU.mpr ⟨hb.sublist (CQ _ _),ha.sublist (CQ _ _),λp hp q hq=>hl p q ?_ (Dc hq)⟩
 obtain ⟨i,hi,e⟩:=aZ hp
 rw[Bv] at e
 rw[show i=0 by omega] at e
 exact e
theorem MV.size {a b o:Array BH}{x y:Nat}(m:MV key a b o x y):o.size+x+y=a.size+b.size:=by
 have e:=m.perm.length_eq
 have h1:=m.hx
 have h2:=m.hy
 simp only[Bj,CA,Bl,CZ] at e
 omega
end
open PySem PyProof.Rows
section
variable  {prog:BD}{w:Cb}{A:B9}{E:Bh->Bi->Prop}{s:Bi}{O:Gd}{key:BH->O.α}{U:BH->Prop}{κ:SortKind}
abbrev HiC:=Option (Array BH)×Nat×Nat×Array BH×Nat×Nat×Nat
def xR (a b:Array BH)(x y:Nat)(o:Array BH)(mg ac bc:Nat):StateT B7 Sem (ForInStep HiC):=do
  let z ← elem' a (x-1)
  if (x-1 == 0)=true then pure (.done (some (a.extract 0 (x-1)++b.extract 0 y++(o.push z).reverse),x-1,y,o.push z,mg,ac,bc))
  else if (decide (ac<7) && decide (bc<7))=true then pure (.done (none,x-1,y,o.push z,mg,ac,bc))
  else pure (.yield (none,x-1,y,o.push z,mg,ac,bc))
def xS (a b:Array BH)(x y:Nat)(o:Array BH)(mg ac bc:Nat):StateT B7 Sem (ForInStep HiC):=do
  let z ← elem' b (y-1)
  if (y-1 == 1)=true then pure (.done (some (b.extract 0 (y-1)++a.extract 0 x++(o.push z).reverse),x,y-1,o.push z,mg,ac,bc))
  else do
    let z2 ← elem' a (x-1)
    let __x ← gal true z2 b 0 (y-1) (y-1-1)
    match __x with
    | some c =>
      if y-1-c>0 then
        if (c == 1)=true then pure (.done (some (b.extract 0 c++a.extract 0 x++(o.push z++(b.extract c (y-1)).reverse).reverse),x,c,o.push z++(b.extract c (y-1)).reverse,mg,ac,y-1-c))
        else if (c == 0)=true then pure (.done (some (a.extract 0 x++b.extract 0 c++(o.push z++(b.extract c (y-1)).reverse).reverse),x,c,o.push z++(b.extract c (y-1)).reverse,mg,ac,y-1-c))
        else xR a b x c (o.push z++(b.extract c (y-1)).reverse) mg ac (y-1-c)
      else xR a b x (y-1) (o.push z) mg ac (y-1-c)
    | _=>pure (.done (some (a.extract 0 x++b.extract 0 (y-1)++(o.push z).reverse),x,y-1,o.push z,mg,ac,bc))
def uu (a b:Array BH)(x y:Nat)(p:Array BH)(ac bc mg:Nat):StateT B7 Sem (ForInStep HiC):=do
  modify (λs=>SortSt.mk' (kindOf s) (BM s) (B2 s) mg (failedOf s))
  let z ← elem' b (y-1)
  let __x ← gal false z a 0 x (x-1)
  match __x with
  | some c =>
    if x-c>0 then
      if (c == 0)=true then pure (.done (some (a.extract 0 c++b.extract 0 y++(p++(a.extract c x).reverse).reverse),c,y,p++(a.extract c x).reverse,mg,x-c,bc))
      else xS a b c y (p++(a.extract c x).reverse) mg (x-c) bc
    else xS a b x y p mg (x-c) bc
  | _=>pure (.done (some (a.extract 0 x++b.extract 0 y++p.reverse),x,y,p,mg,ac,bc))
def HiQ (key:BH->O.α)(a b:Array BH)(st:B7)(n:Nat)(r:ForInStep HiC)(st':B7):Prop:=match r with
 | .done c=>Sm st st'/\((∃r x y p mg ac bc,c=(some r,x,y,p,mg,ac,bc)/\dB key a b r)\/∃x y p mg ac bc,c=(none,x,y,p,mg,ac,bc)/\MV key a b p x y/\1<=x/\2<=y/\n<=p.size)
 | .yield c=>Sm st st'/\∃x y p mg ac bc,c=(none,x,y,p,mg,ac,bc)/\MV key a b p x y/\1<=x/\2<=y/\n<=p.size
theorem HiQ.out {a b:Array BH}{st st':B7}{n:Nat}{r:Array BH}{c:Nat×Nat×Array BH×Nat×Nat×Nat}(sm:Sm st st')(f:dB key a b r):HiQ key a b st n (.done (some r,c)) st':=by
 obtain ⟨p,x,y,mg,ac,bc⟩:=c
 exact ⟨sm,.inl ⟨_,_,_,_,_,_,_,rfl,f⟩⟩
theorem vN {x:Nat}(c:¬ (x == 0)=true):1<=x:=Nat.pos_of_ne_zero λz=>c (beq_iff_eq.mpr z)
theorem xT {y:Nat}(h:1<=y)(c:¬ (y == 1)=true):2<=y:=Iq h λz=>c (beq_iff_eq.mpr z.symm)
theorem sM {a b:Array BH}{st st':B7}(hb:b.toList.Pairwise (Le key))
  {o:Array BH} {x y mg ac bc n:Nat} {za:BH} (sm:Sm st st') (ea:a[x-1]? = some za) (m4:MV key a b (o.push za) (x-1) y) (hy:2<=y) (hn:n<=o.size):wpS (B1 prog w) A E s (xR a b x y o mg ac bc) (HiQ key a b st n) st':=by
 unfold xR
 refine Bx (aV ea ?_)
 by_cases d5:(x-1 == 0)=true
 ·rw[if_pos d5]
  exact BK (HiQ.out sm (m4.uo hb (beq_iff_eq.mp d5)))
 rw[if_neg d5]
 have hx2:=vN d5
 have hn':n<=(o.push za).size:=by rw[Eo];exact FJ hn
 split
 ·exact BK ⟨sm,.inr ⟨_,_,_,_,_,_,rfl,m4,hx2,hy,hn'⟩⟩
 ·exact BK ⟨sm,_,_,_,_,_,_,rfl,m4,hx2,hy,hn'⟩
theorem sN (C:Cmp prog w A s O key U κ){a b:Array BH}{st st':B7}(hκ:kindOf st=κ)(ua:∀p∈a.toList,U p)(ub:∀p∈b.toList,U p)
  (ha:a.toList.Pairwise (Le key)) (hb:b.toList.Pairwise (Le key)) (h0:∀p q,b[0]? = some p->q∈a.toList->Le key p q)
  {o:Array BH} {x y mg ac bc n:Nat} {zb:BH} (sm:Sm st st') (eb:b[y-1]? = some zb) (mk:MV key a b o x y) (bl:∀t∈a.toList.take x,Le key t zb) (hx1:1<=x) (hy:2<=y) (hn:n<=o.size):wpS (B1 prog w) A E s (xS a b x y o mg ac bc) (HiQ key a b st n) st':=by
 unfold xS
 refine Bx (aV eb ?_)
 have m2:=mk.lZ (IP hy) eb hb bl
 have y1:1<=y-1:=DW hy
 have bx1:=mk.hx
 have by1:=mk.hy
 by_cases d3:(y-1 == 1)=true
 ·rw[if_pos d3]
  exact BK (HiQ.out sm (m2.first ha hb (beq_iff_eq.mp d3) h0))
 rw[if_neg d3]
 have hy1:=xT y1 d3
 obtain ⟨za,ea⟩:=aY (show x-1<a.size by omega)
 refine Bx (aV ea ?_)
 refine Bx (zG C (λi=>(b[i]?).getD za) (sm.k.trans hκ) (ua _ (bG ea)) (λi hi =>?_) (λi hi =>?_) (λi j hij hj =>?_) (Gb y1) λc2 hc2 g1 g2 =>?_)
 ·obtain ⟨z,e⟩:=aY (show i<b.size by omega)
  rw[Ea,e];rfl
 ·obtain ⟨z,e⟩:=aY (show i<b.size by omega)
  rw[e];exact ub _ (bG e)
 ·obtain ⟨z,e⟩:=aY (show i<b.size by omega)
  obtain ⟨z',e'⟩:=aY (show j<b.size by omega)
  rw[e,e'];exact aJ hb (aI e) (aI e') hij
 dsimp only at g1 g2 ⊢
 have tb:∀j q,c2<=j->j<y-1->b.toList[j]? = some q->∀t∈a.toList.take x,Le key t q:=λj q hj hj2 e t ht=>by
  have z:=g2 j hj hj2
  rw[Bv] at e
  rw[e] at z
  obtain ⟨n,hn,e2⟩:=aZ ht
  exact Cd (aJ ha e2 (aI ea) (DW hn)) z
 have m3:=m2.vK hc2 hb tb
 have bl2:∀t∈b.toList.take c2,Le key t za:=λt ht=>by
  obtain ⟨n,hn,e2⟩:=aZ ht
  rw[Bv] at e2
  have z:=g1 n hn
  rw[e2] at z
  exact CS z
 have hn1:n<=(o.push zb).size:=by rw[Eo];exact FJ hn
 by_cases k2:y-1-c2>0
 ·rw[if_pos k2]
  by_cases d4:(c2 == 1)=true
  ·rw[if_pos d4]
   exact BK (HiQ.out sm (m3.first ha hb (beq_iff_eq.mp d4) h0))
  rw[if_neg d4]
  by_cases d6:(c2 == 0)=true
  ·rw[if_pos d6]
   exact BK (HiQ.out sm (m3.um ha (beq_iff_eq.mp d6)))
  rw[if_neg d6]
  exact sM hb sm ea (m3.ji hx1 ea ha bl2) (xT (vN d6) d4) (BS hn1 (by rw[Ep];exact EJ _ _))
 ·rw[if_neg k2]
  have ec2:c2=y-1:=Hw hc2 (Hx (EN k2))
  rw[ec2] at bl2
  exact sM hb sm ea (m2.ji hx1 ea ha bl2) hy1 hn1
theorem sO (C:Cmp prog w A s O key U κ){a b:Array BH}{st st':B7}(hκ:kindOf st=κ)(ua:∀p∈a.toList,U p)(ub:∀p∈b.toList,U p)
  (ha:a.toList.Pairwise (Le key)) (hb:b.toList.Pairwise (Le key)) (h0:∀p q,b[0]? = some p->q∈a.toList->Le key p q)
  {p:Array BH} {x y ac bc n:Nat} (mg:Nat) (sm:Sm st st') (m:MV key a b p x y) (hx:1<=x) (hy:2<=y) (hn:n<=p.size):wpS (B1 prog w) A E s (uu a b x y p ac bc mg) (HiQ key a b st n) st':=by
 unfold uu
 have bx:=m.hx
 have by':=m.hy
 obtain ⟨zb,eb⟩:=aY (show y-1<b.size by omega)
 refine Bx (D1 ?_)
 refine Bx (aV eb ?_)
 refine Bx (zF C (λi=>(a[i]?).getD zb) ((sm.mg _).k.trans hκ) (ub _ (bG eb)) (λi hi =>?_) (λi hi =>?_) (λi j hij hj =>?_) (Gb hx) λc hc h1 h2 =>?_)
 ·obtain ⟨z,e⟩:=aY (BE hi bx)
  rw[Ea,e];rfl
 ·obtain ⟨z,e⟩:=aY (BE hi bx)
  rw[e];exact ua _ (bG e)
 ·obtain ⟨z,e⟩:=aY (show i<a.size by omega)
  obtain ⟨z',e'⟩:=aY (show j<a.size by omega)
  rw[e,e'];exact aJ ha (aI e) (aI e') hij
 dsimp only at h1 h2 ⊢
 have ta:∀j q,c<=j->j<x->a.toList[j]? = some q->∀t∈b.toList.take y,Le key t q:=λj q hj hj2 e t ht=>by
  have z:=h2 j hj hj2
  rw[Bv] at e
  rw[e] at z
  obtain ⟨n,hn,e2⟩:=aZ ht
  exact Cd (aJ hb e2 (aI eb) (DW hn)) (CS z)
 have mk:=m.vJ hc ha ta
 have bl:∀t∈a.toList.take c,Le key t zb:=λt ht=>by
  obtain ⟨n,hn,e2⟩:=aZ ht
  rw[Bv] at e2
  have z:=h1 n hn
  rw[e2] at z
  exact z
 by_cases k0:x-c>0
 ·rw[if_pos k0]
  by_cases d1:(c == 0)=true
  ·rw[if_pos d1]
   exact BK (HiQ.out (sm.mg _) (mk.uo hb (beq_iff_eq.mp d1)))
  rw[if_neg d1]
  exact sN C hκ ua ub ha hb h0 (sm.mg _) eb mk bl (vN d1) hy (BS hn (by rw[Ep];exact EJ _ _))
 ·rw[if_neg k0]
  have ec:c=x:=Hw hc (Hx (EN k0))
  rw[ec] at bl
  exact sN C hκ ua ub ha hb h0 (sm.mg _) eb m bl hx hy hn
theorem xU (C:Cmp prog w A s O key U κ){a b:Array BH}{st st':B7}(hκ:kindOf st=κ)(ua:∀p∈a.toList,U p)(ub:∀p∈b.toList,U p)
  (ha:a.toList.Pairwise (Le key)) (hb:b.toList.Pairwise (Le key)) (h0:∀p q,b[0]? = some p->q∈a.toList->Le key p q)
  {p:Array BH} {x y ac bc n mg:Nat} (sm:Sm st st') (m:MV key a b p x y) (hx:1<=x) (hy:2<=y) (hn:n<=p.size):wpS (B1 prog w) A E s (if mg>1 then uu a b x y p ac bc (mg-1) else uu a b x y p ac bc mg) (HiQ key a b st n) st':=by
 split
 ·exact sO C hκ ua ub ha hb h0 (mg-1) sm m hx hy hn
 ·exact sO C hκ ua ub ha hb h0 mg sm m hx hy hn
abbrev HiD:=Option (Array BH)×Nat×Nat×Array BH×Nat×Nat
abbrev HiE:=Option (Array BH)×Nat×Nat×Array BH×Nat
def vO (a b:Array BH)(mg:Nat)(c:HiD):StateT B7 Sem (ForInStep HiD):=do
  let u ← elem' b (c.2.2.1-1)
  let v ← elem' a (c.2.1-1)
  let __x ← lt' u v
  match __x with
  | some aw =>
    if aw=true then do
      let z ← elem' a (c.2.1-1)
      if (c.2.1-1 == 0)=true then pure (.done (some (a.extract 0 (c.2.1-1)++b.extract 0 c.2.2.1++(c.2.2.2.1.push z).reverse),c.2.1-1,c.2.2.1,c.2.2.2.1.push z,c.2.2.2.2.1+1,0))
      else if c.2.2.2.2.1+1≥mg then pure (.done (none,c.2.1-1,c.2.2.1,c.2.2.2.1.push z,c.2.2.2.2.1+1,0))
      else pure (.yield (none,c.2.1-1,c.2.2.1,c.2.2.2.1.push z,c.2.2.2.2.1+1,0))
    else do
      let z ← elem' b (c.2.2.1-1)
      if (c.2.2.1-1 == 1)=true then pure (.done (some (b.extract 0 (c.2.2.1-1)++a.extract 0 c.2.1++(c.2.2.2.1.push z).reverse),c.2.1,c.2.2.1-1,c.2.2.2.1.push z,0,c.2.2.2.2.2+1))
      else if c.2.2.2.2.2+1≥mg then pure (.done (none,c.2.1,c.2.2.1-1,c.2.2.2.1.push z,0,c.2.2.2.2.2+1))
      else pure (.yield (none,c.2.1,c.2.2.1-1,c.2.2.2.1.push z,0,c.2.2.2.2.2+1))
  | _=>pure (.done (some (a.extract 0 c.2.1++b.extract 0 c.2.2.1++c.2.2.2.1.reverse),c.2.1,c.2.2.1,c.2.2.2.1,c.2.2.2.2.1,c.2.2.2.2.2))
def zJ (a b:Array BH)(c:HiC):StateT B7 Sem (ForInStep HiC) :=
 if c.2.2.2.2.1>1 then uu a b c.2.1 c.2.2.1 c.2.2.2.1 c.2.2.2.2.2.1 c.2.2.2.2.2.2 (c.2.2.2.2.1-1) else uu a b c.2.1 c.2.2.1 c.2.2.2.1 c.2.2.2.2.2.1 c.2.2.2.2.2.2 c.2.2.2.2.1
def qH (a b:Array BH)(c:HiE):StateT B7 Sem (ForInStep HiE):=do
  let d ← forIn [0:a.size+b.size] ((none,c.2.1,c.2.2.1,c.2.2.2.1,0,0):HiD) λ_ d=>vO a b c.2.2.2.2 d
  match d.1 with
  | some r=>pure (.done (some r,d.2.1,d.2.2.1,d.2.2.2.1,c.2.2.2.2))
  | none=>do
    rule "list.sort.gallop"
    let e ← forIn [0:a.size+b.size] ((none,d.2.1,d.2.2.1,d.2.2.2.1,c.2.2.2.2+1,d.2.2.2.2.1,d.2.2.2.2.2):HiC) λ_ e=>zJ a b e
    match e.1 with
    | some r=>pure (.done (some r,e.2.1,e.2.2.1,e.2.2.2.1,e.2.2.2.2.1))
    | none=>do
      modify (λs=>SortSt.mk' (kindOf s) (BM s) (B2 s) (e.2.2.2.2.1+1) (failedOf s))
      pure (.yield (none,e.2.1,e.2.2.1,e.2.2.2.1,e.2.2.2.2.1+1))
theorem xV (a b:Array BH):mHi a b=(do
    rule "list.sort.merge-hi"
    let z ← elem' a (a.size-1)
    if (a.size-1 == 0)=true then pure (a.extract 0 (a.size-1)++b.extract 0 b.size++(#[z]:Array BH).reverse)
    else if (b.size == 1)=true then pure (b.extract 0 b.size++a.extract 0 (a.size-1)++(#[z]:Array BH).reverse)
    else do
      let g ← get
      let c ← forIn [0:a.size+b.size] ((none,a.size-1,b.size, #[z],gallopOf g):HiE) λ_ c=>qH a b c
      match c.1 with
      | some r=>pure r
      | none=>unsupported "internal:list.sort.merge-bound"):=by
  kernel_rfl
def HdI (key:BH->O.α)(a b:Array BH)(st:B7)(n:Nat)(c:HiD)(st':B7):Prop:=Sm st st'/\∃x y o' ac bc,c=(none,x,y,o',ac,bc)/\MV key a b o' x y/\1<=x/\2<=y/\n<=o'.size
def HdQ (key:BH->O.α)(a b:Array BH)(st:B7)(n:Nat)(c:HiD)(st':B7):Prop:=Sm st st'/\((∃r x y o ac bc,c=(some r,x,y,o,ac,bc)/\dB key a b r)\/∃x y o' ac bc,c=(none,x,y,o',ac,bc)/\MV key a b o' x y/\1<=x/\2<=y/\n<=o'.size)
theorem vP (C:Cmp prog w A s O key U κ){a b:Array BH}{st st':B7}(hκ:kindOf st=κ)(ua:∀p∈a.toList,U p)(ub:∀p∈b.toList,U p)
  (ha:a.toList.Pairwise (Le key)) (hb:b.toList.Pairwise (Le key)) (h0:∀p q,b[0]? = some p->q∈a.toList->Le key p q)
  {mg n m':Nat} {c:HiD} (I:HdI key a b st n c st') (hm:m'<=n+1) {Q:ForInStep HiD->B7->Prop} (h:∀r st',(match r with | .done c'=>HdQ key a b st (n+1) c' st' | .yield c'=>HdI key a b st m' c' st')->Q r st'):wpS (B1 prog w) A E s (vO a b mg c) Q st':=by
 obtain ⟨sm2,x,y,o',ac,bc,rfl,m,hx,hy,hz⟩:=I
 unfold vO
 have bx:=m.hx
 have by':=m.hy
 obtain ⟨za,ea⟩:=aY (show x-1<a.size by omega)
 obtain ⟨zb,eb⟩:=aY (show y-1<b.size by omega)
 refine Bx (aV eb (Bx (aV ea (Bx (C.lt _ st' zb za _ (sm2.k.trans hκ) (ub _ (bG eb)) (ua _ (bG ea)) ?_)))))
 dsimp only
 have sz:∀z,n+1<=(o'.push z).size:=λz=>by rw[Eo];exact Jh hz
 cases hlt:O.blt (key zb) (key za) with
 | true =>
  rw[if_pos rfl]
  refine Bx (aV ea ?_)
  have m1:=m.ji hx ea ha λt ht=>by
   obtain ⟨n,hn,e⟩:=aZ ht
   exact Cd (aJ hb e (aI eb) (DW hn)) (CS hlt)
  by_cases c3:(x-1 == 0)=true
  ·rw[if_pos c3]
   exact BK (h _ _ ⟨sm2,.inl ⟨_,_,_,_,_,_,rfl,m1.uo hb (beq_iff_eq.mp c3)⟩⟩)
  ·rw[if_neg c3]
   have c3':=vN c3
   split
   ·exact BK (h _ _ ⟨sm2,.inr ⟨_,_,_,_,_,rfl,m1,c3',hy,sz _⟩⟩)
   ·exact BK (h _ _ ⟨sm2,_,_,_,_,_,rfl,m1,c3',hy,BS hm (sz _)⟩)
 | false =>
  rw[if_neg Bo]
  refine Bx (aV eb ?_)
  have m1:=m.lZ (IP hy) eb hb λt ht=>by
   obtain ⟨n,hn,e⟩:=aZ ht
   exact Cd (aJ ha e (aI ea) (DW hn)) (show O.kle (key za) (key zb) from hlt)
  by_cases c3:(y-1 == 1)=true
  ·rw[if_pos c3]
   exact BK (h _ _ ⟨sm2,.inl ⟨_,_,_,_,_,_,rfl,m1.first ha hb (beq_iff_eq.mp c3) h0⟩⟩)
  ·rw[if_neg c3]
   have c3':=xT (DW hy) c3
   split
   ·exact BK (h _ _ ⟨sm2,.inr ⟨_,_,_,_,_,rfl,m1,hx,c3',sz _⟩⟩)
   ·exact BK (h _ _ ⟨sm2,_,_,_,_,_,rfl,m1,hx,c3',BS hm (sz _)⟩)
def HeI (key:BH->O.α)(a b:Array BH)(st:B7)(n:Nat)(c:HiE)(st':B7):Prop:=Sm st st'/\∃x y o mg,c=(none,x,y,o,mg)/\MV key a b o x y/\1<=x/\2<=y/\n+1<=o.size
def HeQ (key:BH->O.α)(a b:Array BH)(st:B7)(c:HiE)(st':B7):Prop:=Sm st st'/\((∃r x y o mg,c=(some r,x,y,o,mg)/\dB key a b r)\/∃x y o mg,c=(none,x,y,o,mg)/\MV key a b o x y/\1<=x/\2<=y/\a.size+b.size+1<=o.size)
theorem uv (C:Cmp prog w A s O key U κ){a b:Array BH}{st st':B7}(hκ:kindOf st=κ)(ua:∀p∈a.toList,U p)(ub:∀p∈b.toList,U p)
  (ha:a.toList.Pairwise (Le key)) (hb:b.toList.Pairwise (Le key)) (h0:∀p q,b[0]? = some p->q∈a.toList->Le key p q) (na:0<a.size)
  {n:Nat} {c:HiE} (I:HeI key a b st n c st'):wpS (B1 prog w) A E s (qH a b c) (λr st'=>match r with | .done c'=>HeQ key a b st c' st' | .yield c'=>HeI key a b st (n+1) c' st') st':=by
 obtain ⟨sm1,x,y,o,mg,rfl,m,hx,hy,hz⟩:=I
 unfold qH
 have q1:1<=a.size+b.size:=BS na (EJ _ _)
 refine Bx (DK (CL (I:=λj c st'=>HdI key a b st (o.size+min j 1) c st') (Q:=HdQ key a b st (o.size+1)) (λj c st2 _ hj J=>vP (n:=o.size+min j 1) (m':=o.size+min (j+1) 1) C hκ ua ub ha hb h0 J (by omega) λr st' k =>?_) (λc st' J =>?_) ⟨sm1,x,y,o,0,0,rfl,m,hx,hy,Bn _⟩) ?_)
 ·cases r with
  | done c'=>exact k.imp id λz=>z.imp id λ⟨x,y,o',ac,bc,e,m,hx,hy,hz⟩=>⟨x,y,o',ac,bc,e,m,hx,hy,by omega⟩
  | yield c'=>exact k
 ·obtain ⟨sm,x,y,o',ac,bc,e,m,hx,hy,hz⟩:=J
  exact ⟨sm,.inr ⟨x,y,o',ac,bc,e,m,hx,hy,by omega⟩⟩
 rintro c st2 ⟨sm2,⟨r,x,y,o',ac,bc,rfl,fr⟩ | ⟨x,y,o',ac,bc,rfl,m,hx,hy,hz2⟩⟩
 ·exact BK ⟨sm2,.inl ⟨_,_,_,_,_,rfl,fr⟩⟩
 dsimp only
 refine Bx (Gf (D0 ⟨rfl,?_⟩))
 refine Bx (DK (CL (I:=λ_ c st'=>HiQ key a b st o'.size (.yield c) st') (Q:=λc st'=>HiQ key a b st o'.size (.done c) st') (λj c st3 _ hj J =>?_) (λc st' J=>⟨J.1,.inr J.2⟩) ⟨sm2,x,y,o',_,ac,bc,rfl,m,hx,hy,Bn _⟩) ?_)
 ·obtain ⟨sm3,x,y,p,mg,ac,bc,rfl,m,hx,hy,hz3⟩:=J
  refine DK (xU C hκ ua ub ha hb h0 sm3 m hx hy hz3) ?_
  intro r st' h
  cases r <;> exact h
 rintro c st3 ⟨sm3,⟨r,x,y,p,mg,ac,bc,rfl,fr⟩ | ⟨x,y,p,mg,ac,bc,rfl,m,hx,hy,hz3⟩⟩
 ·exact BK ⟨sm3,.inl ⟨_,_,_,_,_,rfl,fr⟩⟩
 ·dsimp only
  exact Bx (D1 (BK ⟨sm3.mg _,x,y,p,_,rfl,m,hx,hy,by omega⟩))
theorem zK (C:Cmp prog w A s O key U κ){a b:Array BH}{st:B7}{Q:Array BH->B7->Prop}(hκ:kindOf st=κ)(ua:∀p∈a.toList,U p)(ub:∀p∈b.toList,U p)
  (ha:a.toList.Pairwise (Le key)) (hb:b.toList.Pairwise (Le key)) (na:0<a.size) (nb:0<b.size) (h0:∀p q,b[0]? = some p->q∈a.toList->Le key p q) (hl:∀p q,p∈b.toList->a[a.size-1]? = some q->Le key p q)
  (h:∀r st',Sm st st'->dB key a b r->Q r st'):wpS (B1 prog w) A E s (mHi a b) Q st:=by
 rw[xV]
 refine Bx (Gf (D0 ⟨rfl,?_⟩))
 obtain ⟨a0,ea0⟩:=aY (Gb na)
 have m0:MV key a b #[] a.size b.size:=by
  refine ⟨Bn _,Bn _,?_,List.Pairwise.nil,λp _ q hq=>by cases hq⟩
  rw[B5 (by rw[Bl];exact Bn _),B5 (by rw[Bl];exact Bn _)]
  show (a.toList++b.toList++[]).Perm _
  rw[Cf]
 have m1:MV key a b #[a0] (a.size-1) b.size:=m0.ji na ea0 ha λt ht=>hl t a0 (Dc ht) ea0
 refine Bx (aV ea0 ?_)
 by_cases c1:(a.size-1 == 0)=true
 ·rw[if_pos c1]
  exact BK (h _ st (Sm.refl st) (m1.uo hb (beq_iff_eq.mp c1)))
 rw[if_neg c1]
 by_cases c2:(b.size == 1)=true
 ·rw[if_pos c2]
  exact BK (h _ st (Sm.refl st) (m1.first ha hb (beq_iff_eq.mp c2) h0))
 rw[if_neg c2]
 refine Bx (F7 ?_)
 refine Bx (DK (CL (I:=λi c st'=>HeI key a b st i c st') (Q:=HeQ key a b st) (λi c st1 _ _ J=>DK (uv C hκ ua ub ha hb h0 na J) λr st' h=>by cases r <;> exact h) (λc st' J =>?_) ⟨Sm.refl st,_,_,_,_,rfl,m1,vN c1,xT nb c2,Bn _⟩) ?_)
 ·obtain ⟨sm,x,y,o,mg,e,m,hx,hy,hz⟩:=J
  exact ⟨sm,.inr ⟨x,y,o,mg,e,m,hx,hy,by omega⟩⟩
 rintro c st' ⟨sm,⟨r,x,y,o,mg,rfl,fr⟩ | ⟨x,y,o,mg,rfl,m,hx,hy,hz⟩⟩
 ·exact BK (h r st' sm fr)
 ·have:=m.size
  omega
end
open PySem PyProof.Rows
theorem zL (i:Nat):mAt i=(do
    let s ← get
    let (some (sa,na,pw),some (sb,nb,_)):=((B2 s)[i]?,(B2 s)[i+1]?) | unsupported "internal:list.sort.pending"
    set (SortSt.mk' (kindOf s) (BM s) (((B2 s).setIfInBounds i (sa,na+nb,pw)).eraseIdxIfInBounds (i+1)) (gallopOf s) (failedOf s))
    let some k ← gal false (← elem' (BM s) sb) (BM s) sa na 0 | return false
    let (sa,na):=(sa+k,na-k)
    if na == 0 then return true
    let some nb ← gal true (← elem' (BM s) (sa+na-1)) (BM s) sb nb (nb-1) | return false
    if nb == 0 then return true
    let x:=(BM s).extract sa sb
    let y:=(BM s).extract sb (sb+nb)
    let mm ← if na<=nb then mLo x y else mHi x y
    modify λs=>setArr s (mm.toList.zipIdx.foldl (λa (p,j)=>a.setIfInBounds (sa+j) p) (BM s))
    return (failedOf (← get)).isNone):=rfl
theorem ip {α:Type}(p r:List α)(k:Nat):(p++r).drop (p.length+k)=r.drop k:=by
 rw[<- JH,GJ]
theorem qI {α:Type}(p r:List α)(k:Nat):(p++r)[p.length+k]? = r[k]? := by
 rw[DD (by omega),Dw]
theorem yX {α:Type}(p a r:List α){k:Nat}(h:k<a.length):(p++(a++r))[p.length+k]? = a[k]? := by
 rw[qI,DJ h]
theorem written (l:List BH):∀(c n:Nat) (a:Array BH),c+n+l.length<=a.size->((l.zipIdx n).foldl (λ(a:Array BH) (pj:BH×Nat)=>a.setIfInBounds (c+pj.2) pj.1) a).toList=a.toList.take (c+n)++l++a.toList.drop (c+n+l.length):=by
 induction l with
 | nil=>intro c n a _;simp
 | cons z l ih =>
  intro c n a h
  rw[Bs] at h
  rw[List.zipIdx_cons,Js,ih c (n+1) _ (by rw[GV];omega)]
  have e:(a.setIfInBounds (c+n) z).toList=a.toList.set (c+n) z:=Gv ..
  rw[e]
  have lt:c+n<a.toList.length:=by rw[Bl];omega
  have t1:(a.toList.set (c+n) z).take (c+(n+1))=a.toList.take (c+n)++[z]:=by
   rw[show c+(n+1)=c+n+1 by omega,CT,List.take_set_of_le (Bn _),EL lt]
   rfl
  have t2:(a.toList.set (c+n) z).drop (c+(n+1)+l.length)=a.toList.drop (c+n+(l.length+1)):=by
   rw[List.drop_set_of_lt (by omega),show c+(n+1)+l.length=c+n+(l.length+1) by omega]
  rw[t1,t2,Bs]
  simp
section
variable  {prog:BD}{w:Cb}{A:B9}{E:Bh->Bi->Prop}{s:Bi}{O:Gd}{key:BH->O.α}{U:BH->Prop}{κ:SortKind}
theorem zM (C:Cmp prog w A s O key U κ){i pw pw2:Nat}{st:B7}{Q:Bool->B7->Prop}{P X Y S:List BH}(hκ:kindOf st=κ)(hf:failedOf st=none)
    (ha:(BM st).toList=P++(X++(Y++S))) (hu:∀p∈(BM st).toList,U p) (h1:(B2 st)[i]? = some (P.length,X.length,pw)) (h2:(B2 st)[i+1]? = some (P.length+X.length,Y.length,pw2))
    (nx:0<X.length) (ny:0<Y.length) (sx:X.Pairwise (Le key)) (sy:Y.Pairwise (Le key))
    (h:∀st' M,M.Perm (X++Y)->M.Pairwise (Le key)->(BM st').toList=P++(M++S)->B2 st'=((B2 st).setIfInBounds i (P.length,X.length+Y.length,pw)).eraseIdxIfInBounds (i+1)->kindOf st'=κ -> failedOf st'=none->Q true st') :
    wpS (B1 prog w) A E s (mAt i) Q st:=by
  rw[zL]
  refine Bx (F7 ?_)
  rw[h1,h2]
  dsimp only
  refine Bx (show wpS (B1 prog w) A E s (modify λ_=>SortSt.mk' (kindOf st) (BM st) (((B2 st).setIfInBounds i (P.length,X.length+Y.length,pw)).eraseIdxIfInBounds (i+1)) (gallopOf st) (failedOf st)) _ st from D1 ?_)
  generalize hst1:SortSt.mk' (kindOf st) (BM st) (((B2 st).setIfInBounds i (P.length,X.length+Y.length,pw)).eraseIdxIfInBounds (i+1)) (gallopOf st) (failedOf st)=st1
  have k1:kindOf st1=κ:=by rw[<- hst1];exact hκ
  have a1:BM st1=BM st:=by rw[<- hst1]
  have p1:B2 st1=((B2 st).setIfInBounds i (P.length,X.length+Y.length,pw)).eraseIdxIfInBounds (i+1):=by rw[<- hst1]
  have f1:failedOf st1=none:=by rw[<- hst1];exact hf
  have sz:(BM st).size=P.length+X.length+Y.length+S.length:=by
    rw[<- Bl,ha];simp only[Bj];omega
  have atX:∀j,j<X.length->(BM st)[P.length+j]? = X[j]? := λj hj=>by
    rw[<- Bv,ha,yX _ _ _ hj]
  have atY:∀j,j<Y.length->(BM st)[P.length+X.length+j]? = Y[j]? := λj hj=>by
    rw[<- Bv,ha, <- BZ,show P.length+X.length+j=(P++X).length+j by rw[Bj],yX _ _ _ hj]
  have uX:∀p∈X,U p:=λp hp=>hu p (by rw[ha];simp[hp])
  have uY:∀p∈Y,U p:=λp hp=>hu p (by rw[ha];simp[hp])
  have xget:∀j,j<X.length->∃z,X[j]? = some z:=λj hj=>⟨X[j],by simp[hj]⟩
  have yget:∀j,j<Y.length->∃z,Y[j]? = some z:=λj hj=>⟨Y[j],by simp[hj]⟩
  obtain ⟨y0,ey0⟩:=yget 0 ny
  have plain:(∀p∈X,∀q∈Y,Le key p q)->Q true st1:=λhle=>h st1 (X++Y) (Fe _) (CU.mpr ⟨sx,sy,hle⟩) (by rw[a1,ha,BZ]) p1 k1 f1
  refine Bx (aV (z:=y0) (by rw[show P.length+X.length=P.length+X.length+0 by omega,atY 0 ny];exact ey0) ?_)
  refine Bx (zF C (λj=>(X[j]?).getD y0) k1 (uY _ (B4 ey0)) (λj hj =>?_) (λj hj =>?_) (λi j hij hj =>?_) nx λk hk g1 g2 =>?_)
  · obtain ⟨z,e⟩:=xget j hj
    rw[atX j hj,e];rfl
  · obtain ⟨z,e⟩:=xget j hj
    rw[e];exact uX _ (B4 e)
  · obtain ⟨z,e⟩:=xget i (by omega)
    obtain ⟨z',e'⟩:=xget j hj
    rw[e,e'];exact aJ sx e e' hij
  dsimp only at g1 g2 ⊢
  have y0le:∀q∈Y,Le key y0 q:=λq hq=>by
    obtain ⟨n,e⟩:=Cv.mp hq
    exact aJ sy ey0 e (BU _)
  by_cases c1:(X.length-k == 0)=true
  · rw[if_pos c1]
    refine BK (plain λp hp q hq =>?_)
    obtain ⟨n,e⟩:=Cv.mp hp
    have hn:n<X.length:=(Bt.mp e).1
    have z:=g1 n (by have:=beq_iff_eq.mp c1;omega)
    rw[e] at z
    exact Cd z (y0le q hq)
  rw[if_neg c1]
  have kx:k<X.length:=by have:X.length-k≠0:=λz=>c1 (beq_iff_eq.mpr z);omega
  obtain ⟨xl,exl⟩:=xget (X.length-1) (by omega)
  have xlle:∀p∈X,Le key p xl:=λp hp=>by
    obtain ⟨n,e⟩:=Cv.mp hp
    have hn:n<X.length:=(Bt.mp e).1
    exact aJ sx e exl (by omega)
  refine Bx (aV (z:=xl) (by rw[show P.length+k+(X.length-k)-1=P.length+(X.length-1) by omega,atX _ (by omega)];exact exl) ?_)
  refine Bx (zG C (λj=>(Y[j]?).getD xl) k1 (uX _ (B4 exl)) (λj hj =>?_) (λj hj =>?_) (λi j hij hj =>?_) (by omega) λm hm e1 e2 =>?_)
  · obtain ⟨z,e⟩:=yget j hj
    rw[atY j hj,e];rfl
  · obtain ⟨z,e⟩:=yget j hj
    rw[e];exact uY _ (B4 e)
  · obtain ⟨z,e⟩:=yget i (by omega)
    obtain ⟨z',e'⟩:=yget j hj
    rw[e,e'];exact aJ sy e e' hij
  dsimp only at e1 e2 ⊢
  by_cases c2:(m == 0)=true
  · rw[if_pos c2]
    refine BK (plain λp hp q hq =>?_)
    obtain ⟨n,e⟩:=Cv.mp hq
    have hn:n<Y.length:=(Bt.mp e).1
    have z:=e2 n (by have:=beq_iff_eq.mp c2;omega) hn
    rw[e] at z
    exact Cd (xlle p hp) z
  rw[if_neg c2]
  have m0:0<m:=by have:m≠0:=λz=>c2 (beq_iff_eq.mpr z);omega
  have ex:((BM st).extract (P.length+k) (P.length+X.length)).toList=X.drop k:=by
    rw[DU,Dh,ha,ip,FW (by omega)]
    rw[List.take_left' (by rw[DT];omega)]
  have ey:((BM st).extract (P.length+X.length) (P.length+X.length+m)).toList=Y.take m:=by
    have e:=ip (P++X) (Y++S) 0
    rw[Bj,Hy,HR,BZ] at e
    rw[DU,Dh,ha,e,Dw,FX hm]
  have sX:((BM st).extract (P.length+k) (P.length+X.length)).size=X.length-k:=by rw[<- Bl,ex,DT]
  have sY:((BM st).extract (P.length+X.length) (P.length+X.length+m)).size=m:=by rw[<- Bl,ey,CA];omega
  generalize (BM st).extract (P.length+k) (P.length+X.length)=xa at ex sX ⊢
  generalize (BM st).extract (P.length+X.length) (P.length+X.length+m)=ya at ey sY ⊢
  have xa0:∀q∈xa.toList,Le key y0 q:=λq hq=>by
    rw[ex] at hq
    obtain ⟨n,hn,e⟩:=aT hq
    have hn2:n<X.length:=(Bt.mp e).1
    have z:=g2 n hn hn2
    rw[e] at z
    exact CS z
  have yaL:∀p∈ya.toList,Le key p xl:=λp hp=>by
    rw[ey] at hp
    obtain ⟨n,hn,e⟩:=aZ hp
    have z:=e1 n hn
    rw[e] at z
    exact CS z
  have first:∀p q,ya[0]? = some p->q∈xa.toList->Le key p q:=λp q hp hq=>by
    rw[<- Bv,ey,Dy,if_pos m0,ey0] at hp
    cases hp
    exact xa0 q hq
  have lst:∀p q,p∈ya.toList->xa[xa.size-1]? = some q->Le key p q:=λp q hp hq=>by
    rw[<- Bv,ex,ER,sX,show k+(X.length-k-1)=X.length-1 by omega,exl] at hq
    cases hq
    exact yaL p hp
  have sxa:xa.toList.Pairwise (Le key):=by rw[ex];exact sx.sublist (CI _ _)
  have sya:ya.toList.Pairwise (Le key):=by rw[ey];exact sy.sublist (CQ _ _)
  have uxa:∀p∈xa.toList,U p:=λp hp=>by rw[ex] at hp;exact uX p (Eh hp)
  have uya:∀p∈ya.toList,U p:=λp hp=>by rw[ey] at hp;exact uY p (Dc hp)
  have post:∀r st',Sm st1 st'->dB key xa ya r->wpS (B1 prog w) A E s (do modify λs=>setArr s (r.toList.zipIdx.foldl (λa (p,j)=>a.setIfInBounds (P.length+k+j) p) (BM s));return (failedOf (← get)).isNone) Q st':=by
    rintro r st' sm ⟨fp,fs⟩
    refine Bx (D1 (Bx (F7 (BK ?_))))
    have rl:r.toList.length=X.length-k+m:=by rw[fp.length_eq,Bj,Bl,Bl,sX,sY]
    have wr:=written r.toList (P.length+k) 0 (BM st') (by rw[sm.a,a1,sz,rl];omega)
    have e:(failedOf (setArr st' (r.toList.zipIdx.foldl (λa (p,j)=>a.setIfInBounds (P.length+k+j) p) (BM st')))).isNone=true:=by
      show (failedOf st').isNone=true
      rw[sm.f,f1];rfl
    rw[e]
    have t1:(P++(X++(Y++S))).take (P.length+k+0)=P++X.take k:=by
      rw[Hy,List.take_append,B5 (by omega),Dw,FX (by omega)]
    have t2:(P++(X++(Y++S))).drop (P.length+k+0+r.toList.length)=Y.drop m++S:=by
      rw[rl,show P.length+k+0+(X.length-k+m)=P.length+(X.length+m) by omega,ip,ip,FW hm]
    have perm:(X.take k++(r.toList++Y.drop m)).Perm (X++Y):=by
      rw[ex,ey] at fp
      have q:(X.take k++(r.toList++Y.drop m)).Perm (X.take k++((X.drop k++Y.take m)++Y.drop m)):=Dp _ (D3 _ fp)
      have e3:X.take k++((X.drop k++Y.take m)++Y.drop m)=X++Y:=by
        rw[BZ (X.drop k),Dq, <- BZ,Dq]
      rw[e3] at q
      exact q
    have inr:∀z∈r.toList,z∈X.drop k\/z∈Y.take m:=λz hz=>by
      have q:=fp.mem_iff.mp hz
      rw[ex,ey] at q
      exact BC.mp q
    refine h _ (X.take k++(r.toList++Y.drop m)) perm ?_ ?_ ?_ (sm.k.trans k1) (sm.f.trans f1)
    · refine CU.mpr ⟨sx.sublist (CQ _ _),CU.mpr ⟨fs,sy.sublist (CI _ _),λp hp q hq =>?_⟩,λp hp q hq =>?_⟩
      · obtain ⟨n,hn,en⟩:=aT hq
        have hn2:n<Y.length:=(Bt.mp en).1
        rcases inr p hp with z | z
        · have g:=e2 n hn hn2
          rw[en] at g
          exact Cd (xlle p (Eh z)) g
        · obtain ⟨j,hj,ej⟩:=aZ z
          exact aJ sy ej en (by omega)
      · obtain ⟨n,hn,en⟩:=aZ hp
        have g:=g1 n hn
        rw[en] at g
        rcases BC.mp hq with z | z
        · rcases inr q z with z | z
          · obtain ⟨j,hj,ej⟩:=aT z
            exact aJ sx en ej (by omega)
          · exact Cd g (y0le q (Dc z))
        · exact Cd g (y0le q (Eh z))
    · show (r.toList.zipIdx.foldl (λa (p,j)=>a.setIfInBounds (P.length+k+j) p) (BM st')).toList=_
      rw[wr,sm.a,a1,ha,t1,t2]
      simp only[BZ]
    · show B2 st'=_
      rw[sm.p,p1]
  by_cases c3:X.length-k<=m
  · rw[if_pos c3]
    exact Bx (zI C k1 uxa uya sxa sya (by omega) (by omega) (λp q hp hq=>first p q hp (bG hq)) lst λr st' sm fr=>post r st' sm fr)
  · rw[if_neg c3]
    exact Bx (zK C k1 uxa uya sxa sya (by omega) (by omega) first lst λr st' sm fr=>post r st' sm fr)
end
open PySem PyProof.Rows
theorem xW (lo m:Nat):zD lo m=(do
    let mut n:=1
    for _ in [1:m] do
      let some sm ← ltAt' (lo+n) (lo+n-1)
        | return none
      if sm then break
      n:=n+1
    if n == m then return some n
    if n>1 then
      let some ro ← ltAt' lo (lo+n-1)
        | return none
      if ro then return some n
      reverseSlice' lo (lo+n)
    rule "list.sort.descending-run"
    n:=n+1
    let mut q:=0
    for _ in [n:m] do
      let some sm ← ltAt' (lo+n) (lo+n-1)
        | return none
      if sm then
        if q>0 then reverseSlice' (lo+n-(q+1)) (lo+n)
        q:=0
      else
        let some lg ← ltAt' (lo+n-1) (lo+n)
          | return none
        if lg then break
        q:=q+1
      n:=n+1
    if q>0 then reverseSlice' (lo+n-(q+1)) (lo+n)
    reverseSlice' lo (lo+n)
    for _ in [n:m] do
      let some sm ← ltAt' (lo+n) (lo+n-1)
        | return none
      if sm then break
      n:=n+1
    return some n):=rfl
theorem vQ (lo n ok:Nat):vH lo n ok=(do
    for k in [max ok 1:n] do
      let mut l:=0;let mut r:=k
      for _ in [0:k] do
        if l≥r then break
        let m:=(l+r)/2
        let some le ← ltAt' (lo+k) (lo+m)
          | return false
        if le then r:=m else l:=m+1
      moveDown' (lo+k) (lo+l)
    return true):=rfl
section
variable  {O:Gd}(key:BH->O.α)
def kk (xs:Array BH)(i:Nat):O.α:=key ((xs[i]?).getD (DI,DI))
def Up (xs:Array BH)(lo n:Nat):Prop:=∀i j,lo<=i->i<=j->j<lo+n->O.kle (kk key xs i) (kk key xs j)
def Down (xs:Array BH)(lo n:Nat):Prop:=∀i j,lo<=i->i<=j->j<lo+n->O.kle (kk key xs j) (kk key xs i)
variable  {key}
theorem iq {xs ys:Array BH}{i j:Nat}(h:xs[i]? = ys[j]?):kk key xs i=kk key ys j:=by unfold kk;rw[h]
theorem me {xs:Array BH}{i j:Nat}(hj:j<=xs.size)(k:Nat):kk key (mirror xs i j ((j-i)/2)) k=if i<=k/\k<j then kk key xs (i+j-1-k) else kk key xs k:=by
 have e:=Ig (i:=i) hj k
 by_cases h:i<=k/\k<j
 ·rw[if_pos h] at e ⊢;exact iq e
 ·rw[if_neg h] at e ⊢;exact iq e
theorem eD {xs:Array BH}{i j:Nat}(hj:j<=xs.size)(he:∀k,i<=k->k<j->kk key xs k=kk key xs (j-1))(k:Nat):kk key (mirror xs i j ((j-i)/2)) k=kk key xs k:=by
 rw[me hj]
 split
 ·rw[he _ (by omega) (by omega),he k (by omega) (by omega)]
 ·rfl
end
structure SA (lo:Nat)(st st':B7):Prop where
 perm:(BM st').Perm (BM st)
 pre:∀k,k<lo->(BM st')[k]? = (BM st)[k]?
 k:kindOf st'=kindOf st
 p:B2 st'=B2 st
 f:failedOf st'=failedOf st
theorem SA.refl (lo:Nat)(st:B7):SA lo st st:=⟨Array.Perm.refl _,λ_ _=>rfl,rfl,rfl,rfl⟩
theorem SA.size {lo:Nat}{st st':B7}(h:SA lo st st'):(BM st').size=(BM st).size:=h.perm.size_eq
theorem SA.mirror {lo:Nat}{st st':B7}(h:SA lo st st'){i j:Nat}(hi:lo<=i)(hj:j<=(BM st').size):SA lo st (setArr st' (mirror (BM st') i j ((j-i)/2))) :=
 ⟨(mirror_perm _ _ _ _).trans h.perm,λk hk=>by
  show (PyProof.Rows.mirror (BM st') i j ((j-i)/2))[k]? = _
  rw[Ig hj,if_neg (by omega)]
  exact h.pre k hk,h.k,h.p,h.f⟩
theorem SA.mem {lo:Nat}{st st':B7}(h:SA lo st st'){p:BH}(hp:p∈(BM st').toList):p∈(BM st).toList:=(Gw.mp h.perm).mem_iff.mp hp
section
variable  {prog:BD}{w:Cb}{A:B9}{E:Bh->Bi->Prop}{s:Bi}{O:Gd}{key:BH->O.α}{U:BH->Prop}{κ:SortKind}
theorem gg (C:Cmp prog w A s O key U κ){st:B7}{i j:Nat}{Q:Option Bool->B7->Prop}(hκ:kindOf st=κ)(hu:∀p∈(BM st).toList,U p)(hi:i<(BM st).size)(hj:j<(BM st).size)
  (h:Q (some (O.blt (kk key (BM st) i) (kk key (BM st) j))) st):wpS (B1 prog w) A E s (ltAt' i j) Q st:=by
 rw[ltAt'_eq]
 refine Bx (F7 ?_)
 obtain ⟨x,ex⟩:=aY hi
 obtain ⟨y,ey⟩:=aY hj
 dsimp only
 refine Bx (aV ex (Bx (aV ey (C.lt _ st x y _ hκ (hu _ (bG ex)) (hu _ (bG ey)) ?_))))
 unfold kk at h
 rw[ex,ey] at h
 exact h
theorem xX (C:Cmp prog w A s O key U κ){st:B7}{lo m:Nat}{Q:Option Nat->B7->Prop}(hκ:kindOf st=κ)(hu:∀p∈(BM st).toList,U p)(hm:1<=m)(hz:lo+m=(BM st).size)
  (h:∀n st',1<=n->n<=m->SA lo st st'->Up key (BM st') lo n->Q (some n) st'):wpS (B1 prog w) A E s (zD lo m) Q st:=by
 rw[xW]
 dsimp only
 refine Bx (DK (CL (I:=λx c st'=>st=st'/\c=(none,x)/\Up key (BM st) lo x)
  (Q:=λc st'=>st=st'/\∃n,c=(none,n)/\1<=n/\n<=m/\Up key (BM st) lo n/\(n<m->O.klt (kk key (BM st) (lo+n)) (kk key (BM st) (lo+n-1)))) ?step ?fin ⟨rfl,rfl,λi j h1 h2 h3=>by rw[show i=j by omega];exact Dx _⟩) ?post)
 case fin =>
  rintro c st' ⟨rfl,rfl,up⟩
  exact ⟨rfl,_,rfl,by omega,by omega,by rw[show max 1 m=m by omega] at up ⊢;exact up,by omega⟩
 case step =>
  rintro x c st' h1 h2 ⟨rfl,rfl,up⟩
  dsimp only
  refine Bx (gg C hκ hu (by omega) (by omega) ?_)
  dsimp only
  cases hb:O.blt (kk key (BM st) (lo+x)) (kk key (BM st) (lo+x-1)) with
  | true =>
   rw[if_pos rfl]
   exact BK ⟨rfl,x,rfl,h1,by omega,up,λ_=>hb⟩
  | false =>
   rw[if_neg (by simp)]
   refine BK ⟨rfl,rfl,λi j k1 k2 k3 =>?_⟩
   by_cases hj:j=lo+x
   ·by_cases hi:i=j
    ·rw[hi];exact Dx _
    ·rw[hj]
     exact Cd (up i (lo+x-1) k1 (by omega) (by omega)) hb
   ·exact up i j k1 k2 (by omega)
 case post =>
  rintro c st' ⟨rfl,n,rfl,n1,n2,up,br⟩
  dsimp only
  by_cases c1:(n == m)=true
  ·rw[if_pos c1]
   exact BK (h n st n1 n2 (SA.refl _ _) up)
  rw[if_neg c1]
  have nm:n<m:=by have:n≠m:=λz=>c1 (beq_iff_eq.mpr z);omega
  have br:=br nm
  by_cases c2:n>1
  case' pos =>
   rw[if_pos c2]
   refine Bx (gg C hκ hu (by omega) (by omega) ?_)
   dsimp only
   cases hro:O.blt (kk key (BM st) lo) (kk key (BM st) (lo+n-1))
   case' true =>
    rw[if_pos rfl]
    exact BK (h n st n1 n2 (SA.refl _ _) up)
   rw[if_neg (by simp)]
   have eqs:∀k,lo<=k->k<lo+n->kk key (BM st) k=kk key (BM st) (lo+n-1):=λk k1 k2 =>
    HX (up k (lo+n-1) k1 (by omega) (by omega)) (Cd (show O.kle (kk key (BM st) (lo+n-1)) (kk key (BM st) lo) from hro) (up lo k (Bn _) k1 k2))
   rw[F8]
   refine Bx (D1 ?_)
   have sa:=(SA.refl lo st).mirror (i:=lo) (j:=lo+n) (Bn _) (by omega)
   have ke:=eD (key:=key) (xs:=BM st) (i:=lo) (j:=lo+n) (by omega) eqs
   have ka:∀k,kk key (BM (setArr st (mirror (BM st) lo (lo+n) ((lo+n-lo)/2)))) k=kk key (BM st) k:=ke
   generalize setArr st (mirror (BM st) lo (lo+n) ((lo+n-lo)/2))=st1 at sa ka ⊢
   clear ke
  case' neg =>
   rw[if_neg c2]
   have eqs:∀k,lo<=k->k<lo+n->kk key (BM st) k=kk key (BM st) (lo+n-1):=λk k1 k2=>by rw[show k=lo+n-1 by omega]
   obtain ⟨st1,e1⟩:∃st1,st1=st:=⟨_,rfl⟩
   have sa:SA lo st st1:=by rw[e1];exact SA.refl _ _
   have ka:∀k,kk key (BM st1) k=kk key (BM st) k:=λk=>by rw[e1]
   rw[<- e1]
   clear e1
  all_goals
   refine Bx (Gf (D0 ⟨rfl,?_⟩))
   have dn:Down key (BM st1) lo (n+1):=λi j k1 k2 k3=>by
    rw[ka,ka]
    by_cases hj:j=lo+n
    ·by_cases hi:i=j
     ·rw[hi];exact Dx _
     ·rw[hj,eqs i k1 (by omega)]
      exact CS br
    ·rw[eqs i k1 (by omega),eqs j (by omega) (by omega)]
     exact Dx _
   clear eqs up br ka
   refine Bx (DK (CL (I:=λx c st'=>∃q,c=(none,x,q)/\x<=m/\SA lo st st'/\Down key (BM st') lo x/\q+1<=x/\∀k,lo+x-(q+1)<=k->k<lo+x->kk key (BM st') k=kk key (BM st') (lo+x-1))
    (Q:=λc st'=>∃x q,c=(none,x,q)/\1<=x/\x<=m/\SA lo st st'/\Down key (BM st') lo x/\q+1<=x/\∀k,lo+x-(q+1)<=k->k<lo+x->kk key (BM st') k=kk key (BM st') (lo+x-1)) ?step ?fin
    ⟨0,rfl,by omega,sa,dn,by omega,λk k1 k2=>by rw[show k=lo+(n+1)-1 by omega]⟩) ?post)
   case fin =>
    rintro c st' ⟨q,rfl,xm,sa,dn,hq,he⟩
    exact ⟨_,q,rfl,by omega,xm,sa,dn,hq,he⟩
   case step =>
    rintro x c st2 h1 h2 ⟨q,rfl,xm,sa2,dn2,hq,he⟩
    dsimp only
    have sz:=sa2.size
    have u2:∀p∈(BM st2).toList,U p:=λp hp=>hu p (sa2.mem hp)
    refine Bx (gg C (sa2.k.trans hκ) u2 (by omega) (by omega) ?_)
    dsimp only
    cases hb:O.blt (kk key (BM st2) (lo+x)) (kk key (BM st2) (lo+x-1)) with
    | true =>
     rw[if_pos rfl]
     have dn3:Down key (BM st2) lo (x+1):=λi j k1 k2 k3=>by
      by_cases hj:j=lo+x
      ·by_cases hi:i=j
       ·rw[hi];exact Dx _
       ·rw[hj];exact Cd (CS hb) (dn2 i (lo+x-1) k1 (by omega) (by omega))
      ·exact dn2 i j k1 k2 (by omega)
     by_cases q0:q>0
     ·rw[if_pos q0,F8]
      refine Bx (D1 (BK ?_))
      have ke:=eD (key:=key) (xs:=BM st2) (i:=lo+x-(q+1)) (j:=lo+x) (by omega) he
      refine ⟨0,rfl,by omega,sa2.mirror (by omega) (by omega),λi j k1 k2 k3 =>?_,by omega,λk k1 k2=>by rw[show k=lo+(x+1)-1 by omega]⟩
      show O.kle (kk key (mirror (BM st2) (lo+x-(q+1)) (lo+x) ((lo+x-(lo+x-(q+1)))/2)) j) (kk key (mirror (BM st2) (lo+x-(q+1)) (lo+x) ((lo+x-(lo+x-(q+1)))/2)) i)
      rw[ke,ke]
      exact dn3 i j k1 k2 k3
     ·rw[if_neg q0]
      exact BK ⟨0,rfl,by omega,sa2,dn3,by omega,λk k1 k2=>by rw[show k=lo+(x+1)-1 by omega]⟩
    | false =>
     rw[if_neg (by simp)]
     refine Bx (gg C (sa2.k.trans hκ) u2 (by omega) (by omega) ?_)
     dsimp only
     cases hb2:O.blt (kk key (BM st2) (lo+x-1)) (kk key (BM st2) (lo+x)) with
     | true =>
      rw[if_pos rfl]
      exact BK ⟨x,q,rfl,by omega,xm,sa2,dn2,hq,he⟩
     | false =>
      rw[if_neg (by simp)]
      have eq:=HX (show O.kle (kk key (BM st2) (lo+x)) (kk key (BM st2) (lo+x-1)) from hb2) hb
      refine BK ⟨q+1,rfl,by omega,sa2,λi j k1 k2 k3 =>?_,by omega,λk k1 k2 =>?_⟩
      ·by_cases hj:j=lo+x
       ·by_cases hi:i=j
        ·rw[hi];exact Dx _
        ·rw[hj,eq];exact dn2 i (lo+x-1) k1 (by omega) (by omega)
       ·exact dn2 i j k1 k2 (by omega)
      ·rw[show lo+(x+1)-1=lo+x by omega,eq]
       by_cases hk:k=lo+x
       ·rw[hk,eq]
       ·exact he k (by omega) (by omega)
   case post =>
    rintro c st2 ⟨x,q,rfl,x1,xm,sa2,dn2,hq,he⟩
    dsimp only
    have sz:=sa2.size
    by_cases q0:q>0
    case' pos =>
     rw[if_pos q0,F8]
     refine Bx (D1 ?_)
     have ke:=eD (key:=key) (xs:=BM st2) (i:=lo+x-(q+1)) (j:=lo+x) (by omega) he
     have sa3:=sa2.mirror (i:=lo+x-(q+1)) (j:=lo+x) (by omega) (by omega)
     have dn3:Down key (BM (setArr st2 (mirror (BM st2) (lo+x-(q+1)) (lo+x) ((lo+x-(lo+x-(q+1)))/2)))) lo x:=λi j k1 k2 k3=>by
      show O.kle (kk key (mirror (BM st2) (lo+x-(q+1)) (lo+x) ((lo+x-(lo+x-(q+1)))/2)) j) (kk key (mirror (BM st2) (lo+x-(q+1)) (lo+x) ((lo+x-(lo+x-(q+1)))/2)) i)
      rw[ke,ke]
      exact dn2 i j k1 k2 k3
     generalize setArr st2 (mirror (BM st2) (lo+x-(q+1)) (lo+x) ((lo+x-(lo+x-(q+1)))/2))=st3 at sa3 dn3 ⊢
     clear ke
    case' neg =>
     rw[if_neg q0]
     obtain ⟨st3,e3⟩:∃st3,st3=st2:=⟨_,rfl⟩
     have sa3:SA lo st st3:=by rw[e3];exact sa2
     have dn3:Down key (BM st3) lo x:=by rw[e3];exact dn2
     rw[<- e3]
     clear e3
    all_goals
     rw[F8]
     refine Bx (D1 ?_)
     have sz3:=sa3.size
     have sa4:=sa3.mirror (i:=lo) (j:=lo+x) (Bn _) (by omega)
     have km:=me (key:=key) (xs:=BM st3) (i:=lo) (j:=lo+x) (by omega)
     have up4:Up key (BM (setArr st3 (mirror (BM st3) lo (lo+x) ((lo+x-lo)/2)))) lo x:=λi j k1 k2 k3=>by
      show O.kle (kk key (mirror (BM st3) lo (lo+x) ((lo+x-lo)/2)) i) (kk key (mirror (BM st3) lo (lo+x) ((lo+x-lo)/2)) j)
      rw[km,km,if_pos ⟨by omega,by omega⟩,if_pos ⟨by omega,by omega⟩]
      exact dn3 _ _ (by omega) (by omega) (by omega)
     generalize setArr st3 (mirror (BM st3) lo (lo+x) ((lo+x-lo)/2))=st4 at sa4 up4 ⊢
     clear km
     have u4:∀p∈(BM st4).toList,U p:=λp hp=>hu p (sa4.mem hp)
     have sz4:=sa4.size
     refine Bx (DK (CL (I:=λz c st'=>st4=st'/\c=(none,z)/\z<=m/\Up key (BM st4) lo z)
      (Q:=λc st'=>st4=st'/\∃z,c=(none,z)/\1<=z/\z<=m/\Up key (BM st4) lo z) ?step ?fin ⟨rfl,rfl,xm,up4⟩) ?post)
     case fin =>
      rintro c st' ⟨rfl,rfl,zm,up⟩
      exact ⟨rfl,_,rfl,by omega,zm,up⟩
     case post =>
      rintro c st' ⟨rfl,z,rfl,z1,zm,up⟩
      exact BK (h z st4 z1 zm sa4 up)
     case step =>
      rintro z c st' h1 h2 ⟨rfl,rfl,zm,up⟩
      dsimp only
      refine Bx (gg C (sa4.k.trans hκ) u4 (by omega) (by omega) ?_)
      dsimp only
      cases hb:O.blt (kk key (BM st4) (lo+z)) (kk key (BM st4) (lo+z-1)) with
      | true =>
       rw[if_pos rfl]
       exact BK ⟨rfl,z,rfl,by omega,zm,up⟩
      | false =>
       rw[if_neg (by simp)]
       refine BK ⟨rfl,rfl,by omega,λi j k1 k2 k3 =>?_⟩
       by_cases hj:j=lo+z
       ·by_cases hi:i=j
        ·rw[hi];exact Dx _
        ·rw[hj];exact Cd (up i (lo+z-1) k1 (by omega) (by omega)) hb
       ·exact up i j k1 k2 (by omega)
theorem mf {xs:Array BH}{src d:Nat}(hs:src<xs.size)(hd:d<=src)(k:Nat) :
  kk key (bubble xs src d) k=if k=src-d then kk key xs src else if src-d<k/\k<=src then kk key xs (k-1) else kk key xs k:=by
 have e:=getElem?_bubble hs d hd k
 by_cases h1:k=src-d
 ·rw[if_pos h1] at e ⊢;exact iq e
 ·rw[if_neg h1] at e ⊢
  by_cases h2:src-d<k/\k<=src
  ·rw[if_pos h2] at e ⊢;exact iq e
  ·rw[if_neg h2] at e ⊢;exact iq e
theorem SA.bubble {lo:Nat}{st st':B7}(h:SA lo st st'){src d:Nat}(hs:src<(BM st').size)(hd:lo+d<=src):SA lo st (setArr st' (bubble (BM st') src d)) :=
 ⟨(bubble_perm _ _ _).trans h.perm,λk hk=>by
  show (PyProof.Rows.bubble (BM st') src d)[k]? = _
  rw[getElem?_bubble hs d (by omega),if_neg (by omega),if_neg (by omega)]
  exact h.pre k hk,h.k,h.p,h.f⟩
theorem vR (C:Cmp prog w A s O key U κ){st:B7}{lo n ok:Nat}{Q:Bool->B7->Prop}(hκ:kindOf st=κ)(hu:∀p∈(BM st).toList,U p)(hn:lo+n<=(BM st).size)(hok:ok<=n)(up:Up key (BM st) lo ok)
  (h:∀st',SA lo st st'->Up key (BM st') lo n->Q true st'):wpS (B1 prog w) A E s (vH lo n ok) Q st:=by
 rw[vQ]
 dsimp only
 refine Bx (DK (CL (I:=λx c st'=>c=(none,())/\SA lo st st'/\Up key (BM st') lo (min x n)) (Q:=λc st'=>c=(none,())/\SA lo st st'/\Up key (BM st') lo n) ?step ?fin ⟨rfl,SA.refl _ _,λi j k1 k2 k3 =>?_⟩) ?post)
 case post =>
  rintro c st' ⟨rfl,sa,up⟩
  exact BK (h st' sa up)
 case fin =>
  rintro c st' ⟨rfl,sa,up⟩
  refine ⟨rfl,sa,?_⟩
  rw[show min (max (max ok 1) n) n=n by omega] at up
  exact up
 case step =>
  rintro k c st1 h1 h2 ⟨rfl,sa1,up1⟩
  rw[show min k n=k by omega] at up1
  have sz:=sa1.size
  have u1:∀p∈(BM st1).toList,U p:=λp hp=>hu p (sa1.mem hp)
  refine Bx (DK (CL (I:=λx c st'=>st1=st'/\∃l r,c=(none,l,r)/\l<=r/\r<=k/\r-l<=k-x/\(∀i,i<l->O.kle (kk key (BM st1) (lo+i)) (kk key (BM st1) (lo+k)))/\(∀i,r<=i->i<k->O.klt (kk key (BM st1) (lo+k)) (kk key (BM st1) (lo+i))))
   (Q:=λc st'=>st1=st'/\∃l r,c=(none,l,r)/\l<=k/\(∀i,i<l->O.kle (kk key (BM st1) (lo+i)) (kk key (BM st1) (lo+k)))/\(∀i,l<=i->i<k->O.klt (kk key (BM st1) (lo+k)) (kk key (BM st1) (lo+i)))) ?istep ?ifin ⟨rfl,0,k,rfl,by omega,by omega,by omega,λi hi=>by omega,λi a1 a2=>by omega⟩) ?ipost)
  case ifin =>
   rintro c st' ⟨rfl,l,r,rfl,b1,b2,b3,b4,b5⟩
   have e:l=r:=by omega
   subst e
   exact ⟨rfl,l,l,rfl,b2,b4,b5⟩
  case istep =>
   rintro x c st' _ hx ⟨rfl,l,r,rfl,b1,b2,b3,b4,b5⟩
   dsimp only
   by_cases hge:l≥r
   ·rw[if_pos hge]
    have e:l=r:=by omega
    subst e
    exact BK ⟨rfl,l,l,rfl,b2,b4,b5⟩
   ·rw[if_neg hge]
    refine Bx (gg C (sa1.k.trans hκ) u1 (by omega) (by omega) ?_)
    dsimp only
    cases hb:O.blt (kk key (BM st1) (lo+k)) (kk key (BM st1) (lo+(l+r)/2)) with
    | true =>
     rw[if_pos rfl]
     exact BK ⟨rfl,l,(l+r)/2,rfl,by omega,by omega,by omega,b4,λi a1 a2=>KeyOrd.klt_of_klt_of_kle hb (up1 _ _ (by omega) (by omega) (by omega))⟩
    | false =>
     rw[if_neg (by simp)]
     exact BK ⟨rfl,(l+r)/2+1,r,rfl,by omega,by omega,by omega,λi a1=>Cd (up1 (lo+i) (lo+(l+r)/2) (by omega) (by omega) (by omega)) hb,b5⟩
  case ipost =>
   rintro c st' ⟨rfl,l,r,rfl,b2,b4,b5⟩
   dsimp only
   rw[moveDown'_eq]
   have e:lo+k-(lo+l)=k-l:=by omega
   refine Bx (D1 (BK ⟨rfl,?_,?_⟩))
   ·rw[e]
    exact sa1.bubble (by omega) (by omega)
   ·rw[show min (k+1) n=k+1 by omega]
    intro i j k1 k2 k3
    show O.kle (kk key (bubble (BM st1) (lo+k) (lo+k-(lo+l))) i) (kk key (bubble (BM st1) (lo+k) (lo+k-(lo+l))) j)
    have lt:lo+k<(BM st1).size:=by omega
    rw[e,mf lt (by omega),mf lt (by omega),show lo+k-(k-l)=lo+l by omega]
    have b4':∀z,lo<=z->z<lo+l->O.kle (kk key (BM st1) z) (kk key (BM st1) (lo+k)):=λz z1 z2=>by
     have:=b4 (z-lo) (by omega)
     rw[show lo+(z-lo)=z by omega] at this
     exact this
    have b5':∀z,lo+l<=z->z<lo+k->O.kle (kk key (BM st1) (lo+k)) (kk key (BM st1) z):=λz z1 z2=>by
     have:=b5 (z-lo) (by omega) (by omega)
     rw[show lo+(z-lo)=z by omega] at this
     exact CS this
    repeat' split
    all_goals first
     | (exfalso;omega)
     | exact Dx _
     | exact b4' _ (by omega) (by omega)
     | exact b5' _ (by omega) (by omega)
     | exact up1 _ _ (by omega) (by omega) (by omega)
 ·by_cases h1:ok=0
  ·rw[show i=j by omega];exact Dx _
  ·exact up i j k1 k2 (by omega)
end
open PySem PyProof.Rows
def pwr:Nat->Nat->Nat->Nat->Nat:=sortPriv% PySem.Builtin.power
def mrn:Nat->Nat->Nat->Nat:=sortPriv% PySem.Builtin.minRun
theorem vS:yW=(do
    let sz:=(BM (← get)).size
    let mr:=mrn sz sz 0
    let mut lo:=0
    for _ in [0:sz] do
      if lo≥sz then break
      let some fd ← zD lo (sz-lo)
        | return
      let mut n:=fd
      if n<mr then
        rule "list.sort.binary-insertion"
        let fo:=min (sz-lo) mr
        if !(← vH lo fo n) then return
        n:=fo
      if let some (s1,n1,_):=(B2 (← get)).back? then
        let pw:=pwr sz (2*s1+n1) (2*s1+n1+n1+n) sz
        for _ in [0:sz] do
          let p:=B2 (← get)
          let some (_,_,old):=(if p.size>1 then p[p.size-2]? else none)
            | break
          if old<=pw then break
          if !(← mAt (p.size-2)) then return
        modify λs=>SortSt.mk' (kindOf s) (BM s) ((B2 s).modify ((B2 s).size-1) λ(st,len,_)=>(st,len,pw)) (gallopOf s) (failedOf s)
      modify λs=>SortSt.mk' (kindOf s) (BM s) ((B2 s).push (lo,n,0)) (gallopOf s) (failedOf s)
      lo:=lo+n
    for _ in [0:sz] do
      let p:=B2 (← get)
      if p.size<=1 then break
      let i:=p.size-2
      let bf:=if i>0 then p[i-1]?.map (·.2.1) else none
      let i:=if bf.any (· < (p[i+1]?.elim 0 (·.2.1))) then i-1 else i
      if !(← mAt i) then return):=rfl
def Mt:Nat->List (List BH)->List (Nat×Nat×Nat)->Prop
 | _,[],[]=>True
 | off,r :: rs,p :: ps=>p.1=off/\p.2.1=r.length/\Mt (off+r.length) rs ps
 | _,_,_=>False
theorem Mt.length:∀{off:Nat} {rs:List (List BH)} {ps:List (Nat×Nat×Nat)},Mt off rs ps->ps.length=rs.length
 | _,[],[],_=>rfl
 | _,_ :: _,_ :: _,h=>by rw[Bs,Bs,Mt.length h.2.2]
theorem Mt.append:∀{off:Nat} {rs ts:List (List BH)} {ps us:List (Nat×Nat×Nat)},Mt off rs ps->Mt (off+rs.flatten.length) ts us->Mt off (rs++ts) (ps++us)
 | _,[],_,[],_,_,h=>by simpa using h
 | off,r :: rs,ts,p :: ps,us,h,h'=>by
  refine ⟨h.1,h.2.1,Mt.append h.2.2 ?_⟩
  rw[GW,Bj, <- JR] at h'
  exact h'
theorem Mt.split:∀{off:Nat} {rs:List (List BH)} {ps:List (Nat×Nat×Nat)} (i:Nat),Mt off rs ps->i+1<ps.length →
  ∃R1 X Y R2 L1 w1 w2 L2,rs=R1++X :: Y :: R2/\ps=L1++(off+R1.flatten.length,X.length,w1) :: (off+R1.flatten.length+X.length,Y.length,w2) :: L2/\L1.length=i/\Mt off R1 L1/\Mt (off+R1.flatten.length+X.length+Y.length) R2 L2
 | off,r :: r2 :: rs,p :: p2 :: ps,0,h,_=>by
  obtain ⟨a,b,w1⟩:=p
  obtain ⟨c,d,w2⟩:=p2
  obtain ⟨h1,h2,h3,h4,h5⟩:=h
  dsimp only at h1 h2 h3 h4
  subst h1 h2 h3 h4
  exact ⟨[],r,r2,rs,[],w1,w2,ps,rfl,rfl,rfl,trivial,h5⟩
 | off,r :: rs,p :: ps,i+1,h,hl=>by
  rw[Bs] at hl
  obtain ⟨R1,X,Y,R2,L1,w1,w2,L2,e1,e2,e3,m1,m2⟩:=Mt.split i h.2.2 (by omega)
  have ea:off+(r :: R1).flatten.length=off+r.length+R1.flatten.length:=by rw[GW,Bj];omega
  refine ⟨r :: R1,X,Y,R2,p :: L1,w1,w2,L2,by rw[e1];rfl,?_,by rw[Bs,e3],⟨h.1,h.2.1,m1⟩,?_⟩
  ·rw[ea,e2];rfl
  ·rw[ea];exact m2
 | off,[],[],i,_,hl=>by simp at hl
 | off,[_],[_],0,_,hl=>by simp at hl
theorem Mt.modify (f:Nat×Nat×Nat->Nat×Nat×Nat)(hf:∀p,(f p).1=p.1/\(f p).2.1=p.2.1):∀{off:Nat} {rs:List (List BH)} {ps:List (Nat×Nat×Nat)} (i:Nat),Mt off rs ps->Mt off rs (ps.modify i f)
 | _,[],[],i,_=>by cases i <;> exact trivial
 | off,r :: rs,p :: ps,0,h=>⟨(hf p).1.trans h.1,(hf p).2.trans h.2.1,h.2.2⟩
 | off,r :: rs,p :: ps,i+1,h=>⟨h.1,h.2.1,Mt.modify f hf i h.2.2⟩
theorem uw {α:Type}(l:List α)(a b c:α)(r:List α):((l++a :: b :: r).set l.length c).eraseIdx (l.length+1)=l++c :: r:=by
 induction l with
 | nil=>rfl
 | cons x l ih=>simp only[Fh,Bs,List.set_cons_succ,List.eraseIdx_cons_succ,ih]
section
variable  {O:Gd}(key:BH->O.α)(U:BH->Prop)(κ:SortKind)
structure Rn (a0:List BH)(lo:Nat)(st:B7):Prop where
 ex:∃runs rest,(BM st).toList=runs.flatten++rest/\runs.flatten.length=lo/\(∀r∈runs,r.Pairwise (Le key)/\0<r.length)/\Mt 0 runs (B2 st).toList
 perm:(BM st).toList.Perm a0
 k:kindOf st=κ
 f:failedOf st=none
end
section
variable  {prog:BD}{w:Cb}{A:B9}{E:Bh->Bi->Prop}{s:Bi}{O:Gd}{key:BH->O.α}{U:BH->Prop}{κ:SortKind}
theorem oK (C:Cmp prog w A s O key U κ){a0:List BH}{lo i:Nat}{st:B7}{Q:Bool->B7->Prop}(hu:∀p∈a0,U p)(R:Rn key κ a0 lo st)(hi:i+1<(B2 st).size)
  (h:∀st',Rn key κ a0 lo st'->(B2 st').size+1=(B2 st).size->(BM st').toList.drop lo=(BM st).toList.drop lo->Q true st'):wpS (B1 prog w) A E s (mAt i) Q st:=by
 obtain ⟨runs,rest,ea,el,er,em⟩:=R.ex
 obtain ⟨R1,X,Y,R2,L1,w1,w2,L2,e1,e2,e3,m1,m2⟩:=Mt.split i em (by rw[Bl];exact hi)
 subst e1
 rw[Ea] at e2 m2
 have hx:=er X (by simp)
 have hy:=er Y (by simp)
 have ga:(B2 st)[i]? = some (R1.flatten.length,X.length,w1):=by
  rw[<- Bv,e2, <- e3,show L1.length=L1.length+0 by omega,qI];rfl
 have gb:(B2 st)[i+1]? = some (R1.flatten.length+X.length,Y.length,w2):=by
  rw[<- Bv,e2, <- e3,qI];rfl
 refine zM C (P:=R1.flatten) (X:=X) (Y:=Y) (S:=R2.flatten++rest) R.k R.f (by rw[ea];simp) (λp hp=>hu p (R.perm.mem_iff.mp hp)) ga gb hx.2 hy.2 hx.1 hy.1 λst' M pm sm ar pd kd fl =>?_
 have lm:M.length=X.length+Y.length:=by rw[pm.length_eq,Bj]
 have ep:(B2 st').toList=L1++(R1.flatten.length,X.length+Y.length,w1) :: L2:=by
  rw[pd,Array.toList_eraseIdxIfInBounds,Gv,e2, <- e3]
  exact uw _ _ _ _ _
 refine h st' ⟨⟨R1++M :: R2,rest,?_,?_,λr hr =>?_,?_⟩,?_,kd,fl⟩ ?_ ?_
 ·rw[ar];simp
 ·rw[<- el];simp[lm];omega
 ·rcases BC.mp hr with q | q
  ·exact er r (by simp[q])
  ·rcases BR.mp q with q | q
   ·rw[q];exact ⟨sm,by have:=hx.2;omega⟩
   ·exact er r (by simp[q])
 ·rw[ep]
  refine Mt.append m1 ⟨by rw[Ea],lm.symm,?_⟩
  rw[Ea,lm, <- JR]
  exact m2
 ·rw[ar]
  refine List.Perm.trans ?_ R.perm
  rw[ea,show (R1++X :: Y :: R2).flatten++rest=R1.flatten++((X++Y)++(R2.flatten++rest)) by simp]
  exact Dp _ (D3 _ pm)
 ·rw[<- Bl, <- Bl,ep,e2]
  simp only[Bj,Bs]
  omega
 ·have l1:(R1++M :: R2).flatten.length=lo:=by rw[<- el];simp[lm];omega
  have q1:(BM st').toList=(R1++M :: R2).flatten++rest:=by rw[ar];simp
  rw[q1,ea, <- l1,GJ,l1, <- el,GJ]
theorem Rn.sa {a0:List BH}{lo:Nat}{st st':B7}(R:Rn key κ a0 lo st)(sa:SA lo st st'):Rn key κ a0 lo st':=by
 obtain ⟨runs,rest,ea,el,er,em⟩:=R.ex
 have et:(BM st').toList.take lo=runs.flatten:=by
  have e1:(BM st').toList.take lo=(BM st).toList.take lo:=by
   refine FK λi =>?_
   rw[Dy,Dy]
   split
   ·rw[Bv,Bv];exact sa.pre i (by assumption)
   ·rfl
  rw[e1,ea, <- el,List.take_left]
 refine ⟨⟨runs,(BM st').toList.drop lo,by rw[<- et,Dq],el,er,by rw[sa.p];exact em⟩,(Gw.mp sa.perm).trans R.perm,sa.k.trans R.k,sa.f.trans R.f⟩
theorem ux {xs:Array BH}{lo n:Nat}(h:Up key xs lo n):((xs.toList.drop lo).take n).Pairwise (Le key):=by
 refine Ff.mpr λi j hi hj hij =>?_
 have get:∀k (hk:k<((xs.toList.drop lo).take n).length),key ((xs.toList.drop lo).take n)[k]=kk key xs (lo+k)/\k<n:=λk hk=>by
  have hk':=hk
  rw[CA] at hk'
  refine ⟨?_,by omega⟩
  have e:((xs.toList.drop lo).take n)[k]? = xs[lo+k]? := by
   rw[Dy,if_pos (by omega),ER,Bv]
  rw[BA hk] at e
  unfold kk
  rw[<- e];rfl
 obtain ⟨e1,l1⟩:=get i hi
 obtain ⟨e2,l2⟩:=get j hj
 show O.kle (key _) (key _)
 rw[e1,e2]
 exact h _ _ (by omega) (by omega) (by omega)
theorem Rn.push {a0:List BH}{lo n:Nat}{st:B7}(R:Rn key κ a0 lo st)(hn:0<n)(hz:lo+n<=(BM st).size)(hs:(((BM st).toList.drop lo).take n).Pairwise (Le key)) :
  Rn key κ a0 (lo+n) (SortSt.mk' (kindOf st) (BM st) ((B2 st).push (lo,n,0)) (gallopOf st) (failedOf st)):=by
 obtain ⟨runs,rest,ea,el,er,em⟩:=R.ex
 have ed:(BM st).toList.drop lo=rest:=by rw[ea, <- el,GJ]
 rw[ed] at hs
 have lr:n<=rest.length:=by
  have:=congrArg List.length ea
  rw[Bl,Bj,el] at this
  omega
 have lt:(rest.take n).length=n:=by rw[CA];omega
 refine ⟨⟨runs++[rest.take n],rest.drop n,?_,?_,λr hr =>?_,?_⟩,R.perm,R.k,R.f⟩
 ·show (BM st).toList=_
  rw[ea];simp
 ·simp[lt,el]
 ·rcases BC.mp hr with q | q
  ·exact er r q
  ·have e:r=rest.take n:=by simpa using q
   rw[e];exact ⟨hs,by omega⟩
 ·show Mt 0 _ ((B2 st).push (lo,n,0)).toList
  rw[En]
  exact Mt.append em ⟨by show lo=_;omega,lt.symm,trivial⟩
theorem Rn.mod {a0:List BH}{lo:Nat}{st:B7}(R:Rn key κ a0 lo st)(i:Nat)(f:Nat×Nat×Nat->Nat×Nat×Nat)(hf:∀p,(f p).1=p.1/\(f p).2.1=p.2.1):Rn key κ a0 lo (SortSt.mk' (kindOf st) (BM st) ((B2 st).modify i f) (gallopOf st) (failedOf st)):=by
 obtain ⟨runs,rest,ea,el,er,em⟩:=R.ex
 refine ⟨⟨runs,rest,ea,el,er,?_⟩,R.perm,R.k,R.f⟩
 show Mt 0 runs ((B2 st).modify i f).toList
 rw[Array.toList_modify]
 exact Mt.modify f hf i em
theorem zN {c:Prop}[Decidable c]{n:Nat}(h:1<n):(if c then n-2-1 else n-2)+1<n:=by split <;> omega
theorem mh:∀{runs:List (List BH)},(∀r∈runs,0<r.length)->runs.length<=runs.flatten.length
 | [],_=>Bn _
 | r :: rs,h=>by
  have h1:=h r Br
  have h2:=mh λq hq=>h q (BG _ hq)
  rw[GW,Bj,Bs]
  omega
theorem oM (C:Cmp prog w A s O key U κ){a0:List BH}{st:B7}{Q:Unit->B7->Prop}(hu:∀p∈a0,U p)(ha:(BM st).toList=a0)(hp:B2 st = #[])(hk:kindOf st=κ)(hf:failedOf st=none)(h1:1<=a0.length)
  (h:∀st',(BM st').toList.Perm a0->(BM st').toList.Pairwise (Le key)->failedOf st'=none->Q () st'):wpS (B1 prog w) A E s yW Q st:=by
 rw[vS]
 refine Bx (F7 ?_)
 dsimp only
 have sz0:(BM st).size=a0.length:=by rw[<- Bl,ha]
 have szR:∀{lo:Nat} {st':B7},Rn key κ a0 lo st'->(BM st').size=(BM st).size:=λR=>by rw[<- Bl,R.perm.length_eq,sz0]
 have uR:∀{lo:Nat} {st':B7},Rn key κ a0 lo st'->∀p∈(BM st').toList,U p:=λR p hp=>hu p (R.perm.mem_iff.mp hp)
 have R0:Rn key κ a0 0 st:=⟨⟨[],a0,by rw[ha];rfl,rfl,λr hr=>(by cases hr),by rw[hp];exact trivial⟩,by rw[ha],hk,hf⟩
 refine Bx (DK (CL (I:=λx c st'=>∃lo,c=(none,lo)/\x<=lo/\lo<=(BM st).size/\Rn key κ a0 lo st') (Q:=λc st'=>c=(none,(BM st).size)/\Rn key κ a0 (BM st).size st') ?step ?fin ⟨0,rfl,Bn _,BU _,R0⟩) ?post)
 case fin =>
  rintro c st' ⟨lo,rfl,l1,l2,R⟩
  obtain rfl:lo=(BM st).size:=by omega
  exact ⟨rfl,R⟩
 case post =>
  rintro c st1 ⟨rfl,R⟩
  dsimp only
  have p0:(B2 st1).size<=(BM st).size:=by
   obtain ⟨runs,rest,ea,el,er,em⟩:=R.ex
   have q:=em.length
   rw[Bl] at q
   have:=mh λr hr=>(er r hr).2
   omega
  refine Bx (DK (CL (I:=λx c st'=>c=(none,())/\Rn key κ a0 (BM st).size st'/\((B2 st').size<=1\/(B2 st').size+x<=(BM st).size)) (Q:=λc st'=>c=(none,())/\Rn key κ a0 (BM st).size st'/\(B2 st').size<=1) ?stepB ?finB ⟨rfl,R,.inr (by omega)⟩) ?postB)
  case finB =>
   rintro c st' ⟨rfl,R,q⟩
   exact ⟨rfl,R,by omega⟩
  case stepB =>
   rintro x c st' _ hx ⟨rfl,R,q⟩
   refine Bx (F7 ?_)
   by_cases c1:(B2 st').size<=1
   ·rw[if_pos c1]
    exact BK ⟨rfl,R,c1⟩
   rw[if_neg c1]
   refine Bx (oK C hu R (zN (by omega)) λst2 R2 s2 _ =>?_)
   simp only[G6,CK,if_false]
   exact BK ⟨rfl,R2,by omega⟩
  case postB =>
   rintro c st' ⟨rfl,R,q⟩
   obtain ⟨runs,rest,ea,el,er,em⟩:=R.ex
   have lm:=em.length
   rw[Bl] at lm
   have lr:=congrArg List.length ea
   rw[Bl,szR R,Bj,el] at lr
   have er0:rest=[]:=List.length_eq_zero_iff.mp (by omega)
   subst er0
   rw[Cf] at ea
   match runs,er,lm,el,ea with
   | [],_,_,el,_=>simp at el;omega
   | [r],er,_,_,ea =>
    have e:(BM st').toList=r:=by rw[ea];simp
    exact BK (h st' R.perm (by rw[e];exact (er r (by simp)).1) R.f)
   | _ :: _ :: _,_,lm,_,_=>simp at lm;omega
 case step =>
  rintro x c st1 _ hx ⟨lo,rfl,l1,l2,R⟩
  dsimp only
  by_cases cl:lo≥(BM st).size
  ·rw[if_pos cl]
   obtain rfl:lo=(BM st).size:=by omega
   exact BK ⟨rfl,R⟩
  rw[if_neg cl]
  have s1:=szR R
  refine Bx (xX C R.k (uR R) (by omega) (by omega) λn st2 n1 n2 sa2 up2 =>?_)
  dsimp only
  have R2:=R.sa sa2
  have s2:=szR R2
  by_cases cm:n<mrn (BM st).size (BM st).size 0
  case' pos =>
   rw[if_pos cm]
   refine Bx (Gf (D0 ⟨rfl,?_⟩))
   obtain ⟨fo,e⟩:∃fo,fo=min ((BM st).size-lo) (mrn (BM st).size (BM st).size 0):=⟨_,rfl⟩
   rw[<- e]
   refine Bx (vR C R2.k (uR R2) (by omega) (by omega) up2 λst3 sa3 up3 =>?_)
   simp only[G6,CK,if_false]
   have R3:=R2.sa sa3
   have f0:0<fo:=by omega
   have f1:lo+fo<=(BM st).size:=by omega
  case' neg =>
   rw[if_neg cm]
   obtain ⟨fo,e⟩:∃fo,fo=n:=⟨_,rfl⟩
   subst e
   obtain ⟨st3,e3⟩:∃st3,st3=st2:=⟨_,rfl⟩
   subst e3
   have R3:=R2
   have up3:=up2
   have f0:0<fo:=n1
   have f1:lo+fo<=(BM st).size:=by omega
  all_goals
   have srt:=ux up3
   have s3:=szR R3
   refine Bx (F7 ?_)
   cases hbk:(B2 st3).back? with
   | none =>
    dsimp only
    exact Bx (D1 (BK ⟨lo+fo,rfl,by omega,f1,R3.push f0 (by omega) srt⟩))
   | some t =>
    obtain ⟨t1,t2,t3⟩:=t
    dsimp only
    refine Bx (DK (CL (I:=λ_ c st'=>c=(none,())/\Rn key κ a0 lo st'/\(BM st').toList.drop lo=(BM st3).toList.drop lo) (Q:=λc st'=>c=(none,())/\Rn key κ a0 lo st'/\(BM st').toList.drop lo=(BM st3).toList.drop lo) ?stepC ?finC ⟨rfl,R3,rfl⟩) ?postC)
    case finC=>exact λc st' q=>q
    case stepC =>
     rintro z c st4 _ _ ⟨rfl,R4,d4⟩
     refine Bx (F7 ?_)
     by_cases p1:(B2 st4).size>1
     ·rw[if_pos p1]
      have lt:(B2 st4).size-2<(B2 st4).size:=by omega
      have e:(B2 st4)[(B2 st4).size-2]? = some (B2 st4)[(B2 st4).size-2]:=by simp[lt]
      rw[e]
      dsimp only
      split
      ·exact BK ⟨rfl,R4,d4⟩
      ·refine Bx (oK C hu R4 (by omega) λst5 R5 _ d5 =>?_)
       simp only[G6,CK,if_false]
       exact BK ⟨rfl,R5,d5.trans d4⟩
     ·rw[if_neg p1]
      exact BK ⟨rfl,R4,d4⟩
    case postC =>
     rintro c st4 ⟨rfl,R4,d4⟩
     dsimp only
     have s4:=szR R4
     refine Bx (D1 (Bx (D1 (BK ⟨lo+fo,rfl,by omega,f1,?_⟩))))
     refine Rn.push ?_ f0 ?_ ?_
     ·refine Rn.mod R4 _ _ ?_
      exact λp=>⟨rfl,rfl⟩
     ·show lo+fo<=(BM st4).size
      omega
     ·show (((BM st4).toList.drop lo).take fo).Pairwise (Le key)
      rw[d4]
      exact srt
end
open PySem PyProof.Rows
structure nj (prog:BD)(w:Cb)(s:Bi)(vs:List Bh)(O:Gd)(key:Bh->O.α):Prop where
 ok:2<=vs.length->∀(A:B9) (h6:Heap),(∀b o,s.heap.get? b=some o->h6.get? b=some o)->∃κ,(∀(Q:SortKind->Bi->Prop) (E:Bh->Bi->Prop),Q κ { s with heap:=h6 }->BL (B1 prog w) A (keyKind' vs.toArray) Q E { s with heap:=h6 }) ∧
  Cmp prog w A { s with heap:=h6 } O (λp=>key p.1) (λp=>p.1=p.2/\p.1∈vs) κ
section
variable  {prog:BD}{w:Cb}{A:B9}{E:Bh->Bi->Prop}{s:Bi}{O:Gd}{key:Bh->O.α}
theorem zs:∀vs:List Bh,(vs.zip vs).map (·.2)=vs
 | []=>rfl
 | v :: vs=>by rw[Du,BF,zs vs]
theorem oN {l:List BH}{vs:List Bh}(h:l.Perm (vs.zip vs)):(l.map (·.2)).Perm vs/\∀p∈l,p.1=p.2/\p.1∈vs:=by
 have e:=zs vs
 refine ⟨by have:=h.map (·.2);rw[e] at this;exact this,λp hp =>?_⟩
 have m:=h.mem_iff.mp hp
 obtain ⟨i,hi⟩:=Cv.mp m
 rw[GG] at hi
 have e1:=hi.1.symm.trans hi.2
 exact ⟨BW e1,B4 hi.1⟩
theorem gE {a:Addr}{vs:List Bh}{n:Nat}{P:Fin->Bi->Prop}(ho:s.heap.get? a=some (seqObj "list" vs.toArray n))(hz:vs.length<=BJ)
    (hc:2<=vs.length->∀h6,(∀b o,b≠a->s.heap.get? b=some o->h6.get? b=some o)->∃κ,(∀(Q:SortKind->Bi->Prop) (E:Bh->Bi->Prop),Q κ { s with heap:=h6 }->BL (B1 prog w) A (keyKind' vs.toArray) Q E { s with heap:=h6 }) ∧
      Cmp prog w A { s with heap:=h6 } O (λp=>key p.1) (λp=>p.1=p.2/\p.1∈vs) κ)
    (h:∀out:List Bh,out.Perm vs->out.Pairwise (λx y=>O.kle (key x) (key y))->P (.done (.ret .none)) { s with heap:=sortedHeap s.heap a vs out.toArray }):BL (B1 prog w) A (Builtin.«list.sort» ⟨[.ref a],[]⟩) P E s:=by
  rw[list_sort_plain]
  have ha:a<s.heap.objs.size:=Bq ho
  refine Bd (GD ho rfl ?_)
  refine Bd (E9 ho rfl ?_ (by rw[Bm];exact hz) (BU _))
  obtain ⟨e1,ho1⟩:∃e1,(s.heap.update a (Cs λ_ => #[])).get? a=some (seqObj "list" #[] e1):=⟨_,FC ho (λ_ => #[])⟩
  refine Bd (Ih ho1 rfl (Bd (wpAny_newTuple ?_ (by exact hz))))
  refine Bd (FD ?_ (BU _))
  refine CG ?_
  generalize hH:((s.heap.update a (Cs λ_ => #[])).push (seqObj "tuple" vs.toArray 0)).push (seqObj "list" #[] 0)=h6
  have kp:∀b o,b≠a->s.heap.get? b=some o->h6.get? b=some o:=λb o nb e=>by
    rw[<- hH]
    refine Bf _ (Bf _ ?_)
    rw[DF _ _ _ _ nb]
    exact e
  have ho6:h6.get? a=some (seqObj "list" #[] e1):=by
    rw[<- hH]
    exact Bf _ (Bf _ ho1)
  have eH:∀out:List Bh,sortedHeap s.heap a vs out.toArray=h6.update a (Cs λ_=>out.toArray):=λout=>by rw[<- hH];rfl
  have go:∀st':B7,(BM st').toList.Perm (vs.zip vs)->(BM st').toList.Pairwise (λp q=>O.kle (key p.1) (key q.1))->failedOf st'=none →
      BL (B1 prog w) A (do
        let sorted:=(BM st').map (·.2)
        let touched:=(← seqEpoch a) != e1
        Builtin.List.listUpdate (.ref a) λ_=>sorted
        if let some e:=failedOf st' then rule "list.sort.comparison-raised";throw e
        if touched then rule "list.sort.modified";raiseError "ValueError" "list modified during sort"
        ret .none) P E { s with heap:=h6 }:=by
    intro st' pm ps hf
    obtain ⟨z1,z2⟩:=oN pm
    have em:(BM st').map (·.2)=((BM st').toList.map (·.2)).toArray:=by
      apply FY.mp
      rw[FZ]
    dsimp only
    refine Bd (Ih ho6 rfl ?_)
    refine Bd (E9 ho6 rfl ?_ (BU _) (by rw[Di, <- Bl,pm.length_eq,Hz,IY];omega))
    rw[hf]
    simp only[bne_self_eq_false,CK,if_false]
    refine Bk ?_
    rw[em, <- eH]
    refine h _ z1 (B0.mpr (ps.imp_of_mem λ{p q} hp hq le =>?_))
    rw[<- (z2 p hp).1, <- (z2 q hq).1]
    exact le
  by_cases h2:vs.toArray.size<2
  · rw[if_pos h2,if_pos h2]
    refine Bd (Bk ?_)
    dsimp only
    rw[Jt]
    refine Bd (Bk ?_)
    refine go (SortSt.mk' general' (vs.toArray.zip vs.toArray) #[] 7 none) (by show (vs.toArray.zip vs.toArray).toList.Perm _;simp) ?_ rfl
    rw[Bm] at h2
    have et:(vs.toArray.zip vs.toArray).toList=vs.zip vs:=by simp
    show (vs.toArray.zip vs.toArray).toList.Pairwise (λ(p q:BH)=>O.kle (key p.1) (key q.1))
    rw[et]
    have short:∀us:List Bh,us.length<2->(us.zip us).Pairwise (λ(p q:BH)=>O.kle (key p.1) (key q.1)):=λus hu=>by
      match us,hu with
      | [],_=>exact List.Pairwise.nil
      | [v],_=>exact Dv _ _
      | _ :: _ :: _,hu=>simp only[Bs] at hu;omega
    exact short vs h2
  · rw[if_neg h2,if_neg h2]
    rw[Bm] at h2
    obtain ⟨κ,k1,C⟩:=hc (by omega) h6 kp
    refine Bd (k1 _ _ ?_)
    have et:(vs.toArray.zip vs.toArray).toList=vs.zip vs:=by simp
    refine Bd (Dg (oM C (E:=E) (a0:=vs.zip vs) (st:=SortSt.mk' κ (vs.toArray.zip vs.toArray) #[] 7 none)
      (Q:=λ_ st'=>(BM st').toList.Perm (vs.zip vs)/\(BM st').toList.Pairwise (Le λ(p:BH)=>key p.1)/\failedOf st'=none)
      (oN (Fe _)).2 et rfl rfl rfl (by rw[Hz,IY];omega) λst' a1 a2 a3=>⟨a1,a2,a3⟩) ?_ λ_ _ e=>e)
    rintro ⟨⟨⟩,st'⟩ s' ⟨rfl,hp,hs,hf⟩
    exact go st' hp hs hf
def ir (prog:BD)(w:Cb)(s:Bi)(v:Bh)(vs:List Bh):Prop :=
 ∀(A:B9) (E:Bh->Bi->Prop) (R:List Bh->Bi->Prop),(∀h1,(∀b o,s.heap.get? b=some o->h1.get? b=some o)->s.heap.objs.size<=h1.objs.size->R vs { s with heap:=h1 })->BL (B1 prog w) A (collect v) R E s
theorem j2 {v:Bh}{vs:List Bh}{Q:Bh->Bi->Prop}(hv:ir prog w s v vs)(hz:vs.length<=BJ)(C:nj prog w s vs O key)
  (h:∀(h':Heap) (p:Addr) (out:List Bh) (n:Nat),(∀b o,s.heap.get? b=some o->h'.get? b=some o)->s.heap.objs.size<=p->h'.get? p=some (seqObj "list" out.toArray n)->out.Perm vs->out.Pairwise (λx y=>O.kle (key x) (key y))->Q (.ref p) { s with heap:=h' }) :
  BL (B1 prog w) A (call (.builtin "sorted") [v]) Q E s:=by
 refine GK Jz Jb Jc (args_sorted1 _) ?_
 unfold Builtin.«sorted»
 refine Bd (m:=checkCount "sorted" 1 1 _) (Bk ?_)
 refine Bd (hv _ _ _ λh1 k1 z1=>Bd (FD ?_ hz))
 have hoL:(h1.push (seqObj "list" vs.toArray 0)).get? h1.objs.size=some (seqObj "list" vs.toArray 0):=Bp _ rfl
 have kL:∀b o,s.heap.get? b=some o->(h1.push (seqObj "list" vs.toArray 0)).get? b=some o:=λb o e=>Bf _ (k1 b o e)
 refine Bd (CG (Co slot_list_sort ⟨_,hoL,rfl⟩ entry_list_sort (gE (key:=key) (O:=O) hoL hz (λh2 h6 k6 =>?_) λout pm ps=>⟨_,rfl,?_⟩) (args_list_sort _)))
 ·exact C.ok h2 _ h6 λb o e=>k6 b o (BI (BE (Bq e) z1)) (kL b o e)
 ·obtain ⟨n,en⟩:=sortedHeap_at (out:=out.toArray) hoL
  refine Bk ⟨_,rfl,h _ _ out n (λb o e =>?_) z1 en pm ps⟩
  have lt:=BE (Bq e) z1
  rw[sortedHeap_old (BI lt) (by rw[IV];exact CH lt)]
  exact kL b o e
theorem cS {l:Addr}{o:Obj}{vs:List Bh}{n:Nat}(ho:s.heap.get? l=some o)(hc:o.cls = .type "list" \/ o.cls = .type "tuple")(hd:o.data = .seq vs.toArray n)(hz:vs.length<=BJ):ir prog w s (.ref l) vs:=by
  intro A E R h
  unfold collect
  refine Bd (FQ (CJ entry_proto_collect' ?_))
  show BL _ _ (do again (.builtin "list.__iadd__" ⟨[<- newList [],.ref l],[]⟩)) _ _ s
  refine Bd (FD (Bk ⟨GA _ (by decide +kernel),CJ entry_list_iadd' ?_⟩))
  show BL _ _ (Cz (.ref s.heap.objs.size) (.ref l) (.ref s.heap.objs.size)) _ _ { s with heap:=s.heap.push (seqObj "list" #[] 0) }
  unfold Cz
  have ho':(s.heap.push (seqObj "list" #[] 0)).get? l=some o:=Bf _ ho
  have cond:∀T,o.cls = .type T->(T = "list" \/ T = "tuple")->BL (B1 prog w) A (typeOf (.ref l)) (λt s'=>t = .type T/\s'={ s with heap:=s.heap.push (seqObj "list" #[] 0) }) E { s with heap:=s.heap.push (seqObj "list" #[] 0) }:=λT e _=>Ec (T:=T) ⟨o,ho',e⟩ ⟨rfl,rfl⟩
  obtain ⟨T,eT,hT⟩:∃T,o.cls = .type T/\(T = "list" \/ T = "tuple"):=by
    rcases hc with hc | hc
    · exact ⟨_,hc,.inl rfl⟩
    · exact ⟨_,hc,.inr rfl⟩
  refine Bd (Ec (T:=T) ⟨o,ho',eT⟩ ?_)
  rw[if_pos (by rcases hT with rfl | rfl <;> simp)]
  refine Bd (GD ho' hd ?_)
  refine Bd (GD (xs := #[]) (n:=0) (Bp _ rfl) rfl ?_)
  rw[if_neg (by simp)]
  refine Bd (E9 (xs := #[]) (n:=0) (Bp _ rfl) rfl ?_ (BU _) (by show (#[]++vs.toArray).size<=BJ+1;simp only[Ep,Bm,Cq];omega))
  refine Bk ?_
  show BL (B1 prog w) A (do
      let o ← load s.heap.objs.size
      match o.data with
      | .seq xs _=>pure xs.toList
      | _=>unsupported "internal:collect") R E { s with heap:=(s.heap.push (seqObj "list" #[] 0)).update s.heap.objs.size (Cs (· ++ vs.toArray)) }
  refine Bd (IS (FC (Bp _ rfl) _) ?_)
  show BL _ _ (pure ((#[]:Array Bh)++vs.toArray).toList) R E _
  rw[show ((#[]:Array Bh)++vs.toArray).toList=vs by simp]
  refine Bk (h _ (λb ob e =>?_) ?_)
  · rw[DF _ _ _ _ (BI (Bq e))]
    exact Bf _ e
  · rw[Ji,IV]
    exact FH _
end
open PySem PyProof.Rows
def j5:Gd where
 α:=Int
 blt:=λa b=>decide (a<b)
 irrefl:=λa=>by simp
 trans:=λa b c h1 h2=>by simp at *;omega
 negTrans:=λa b c h=>by simp at *;omega
 total:=λa b h1 h2=>by simp at *;omega
theorem lex_irrefl:∀a,HT.lexLt a a=false
 | []=>rfl
 | x :: xs=>by rw[HT.aP,if_pos rfl];exact lex_irrefl xs
theorem lex_trans:∀a b c,HT.lexLt a b=true->HT.lexLt b c=true->HT.lexLt a c=true
 | [],[],_,h,_=>by cases h
 | [],_ :: _,[],_,h=>by cases h
 | [],_ :: _,_ :: _,_,_=>rfl
 | _ :: _,[],_,h,_=>by cases h
 | _ :: _,_ :: _,[],_,h=>by cases h
 | x :: xs,y :: ys,z :: zs,h1,h2=>by
  rw[HT.aP] at *
  by_cases e1:x=y
  ·subst e1
   rw[if_pos rfl] at h1
   by_cases e2:x=z
   ·rw[if_pos e2] at h2 ⊢
    exact lex_trans xs ys zs h1 h2
   ·rw[if_neg e2] at h2 ⊢
    exact h2
  ·rw[if_neg e1] at h1
   have l1:=of_decide_eq_true h1
   by_cases e2:y=z
   ·subst e2
    rw[if_neg e1]
    exact h1
   ·rw[if_neg e2] at h2
    have l2:=of_decide_eq_true h2
    rw[if_neg (by omega)]
    exact decide_eq_true (by omega)
theorem dI:∀a b,HT.lexLt a b=false->HT.lexLt b a=false->a=b
 | [],[],_,_=>rfl
 | [],_ :: _,h,_=>by cases h
 | _ :: _,[],_,h=>by cases h
 | x :: xs,y :: ys,h1,h2=>by
  rw[HT.aP] at *
  by_cases e:x=y
  ·subst e
   rw[if_pos rfl] at h1 h2
   rw[dI xs ys h1 h2]
  ·rw[if_neg e] at h1
   rw[if_neg (C6 e)] at h2
   have a1:=of_decide_eq_false h1
   have a2:=of_decide_eq_false h2
   omega
theorem nA (a b c:List Int)(h:HT.lexLt a c=true):HT.lexLt a b=true\/HT.lexLt b c=true:=by
 cases h1:HT.lexLt a b with
 | true=>exact .inl rfl
 | false =>
  right
  cases h2:HT.lexLt b a with
  | true=>exact lex_trans b a c h2 h
  | false=>rw[<- dI a b h1 h2];exact h
def lexOrd:Gd where
 α:=List Int
 blt:=HT.lexLt
 irrefl:=lex_irrefl
 trans:=lex_trans
 negTrans:=nA
 total:=dI
def intOf:Bh->Int
 | .int i _=>i
 | _=>0
section
variable  {prog:BD}{w:Cb}{A:B9}{E:Bh->Bi->Prop}{s:Bi}
theorem fG:∀{vs:List Bh} {ns:List Int},C8 vs ns->∀v∈vs,∃i t,v = .int i t
 | _,_,.nil,v,h=>by cases h
 | _,_,.cons n t r,v,h=>by
  rcases BR.mp h with e | e
  ·exact ⟨n,t,e⟩
  ·exact fG r v e
theorem nB {vs:List Bh}{ns:List Int}(hI:C8 vs ns):nj prog w s vs j5 intOf:=by
 refine ⟨λh2 A h6 _=>⟨oneType',λQ E q =>?_,⟨λE st x y Q hk hx hy q =>?_⟩⟩⟩
 ·match vs,h2,hI with
  | v1 :: v2 :: rest,_,hI =>
   rw[keyKind_ints hI]
   exact Bk q
  | [],h2,_=>simp at h2
  | [_],h2,_=>simp at h2
 ·obtain ⟨i,t,e1⟩:=fG hI _ hx.2
  obtain ⟨j,u,e2⟩:=fG hI _ hy.2
  rw[lt'_eq]
  refine Bx (F7 ?_)
  rw[hk,keyLt'_oneType,e1,e2]
  refine Bx (Gf (DC (JA ⟨rfl,?_⟩)))
  refine BK ?_
  have q':Q (some (decide (intOf x.1<intOf y.1))) st:=q
  rw[e1,e2] at q'
  exact q'
def cT (h:Heap)(v:Bh):List Int:=match v with
 | .ref p=>match h.get? p with
  | some o=>match o.data with
   | .seq xs _=>xs.toList.map intOf
   | _=>[]
  | none=>[]
 | _=>[]
def cu (h:Heap)(v:Bh)(ns:List Int):Prop:=∃p o xs n,v = .ref p/\h.get? p=some o/\o.cls = .type "tuple" /\ o.data = .seq xs n/\C8 xs.toList ns
theorem ints_map:∀{vs:List Bh} {ns:List Int},C8 vs ns->vs.map intOf=ns
 | _,_,.nil=>rfl
 | _,_,.cons n t r=>by rw[BF,ints_map r];rfl
theorem cu.ints {h:Heap}{v:Bh}{ns:List Int}(x:cu h v ns):cT h v=ns:=by
 obtain ⟨p,o,xs,n,rfl,e,_,d,r⟩:=x
 unfold cT
 dsimp only
 rw[e]
 dsimp only
 rw[d]
 exact ints_map r
theorem cu.keeps {h h':Heap}{v:Bh}{ns:List Int}(x:cu h v ns)(k:∀b o,h.get? b=some o->h'.get? b=some o):cu h' v ns:=by
 obtain ⟨p,o,xs,n,rfl,e,r⟩:=x
 exact ⟨p,o,xs,n,rfl,k _ _ e,r⟩
theorem oO {fin:Bool}{Q:Bool->Bi->Prop}:∀{us ws:List Bh} {ns ms:List Int} (i:Nat),C8 us ns->C8 ws ms->(fin=true↔(decide (ns.length<ms.length)=true))->Q (HT.lexLt ns ms) s →
  PySem.W.KatLex prog w A true fin Q (us.zip ws) i s
 | _,_,_,_,i,.nil,.nil,hf,q=>by
  refine EY ?_
  have e:fin=false:=by cases fin with
   | false=>rfl
   | true=>have:=hf.mp rfl;simp at this
  rw[e];exact q
 | _,_,_,_,i,.nil,.cons _ _ _,hf,q=>by
  refine EY ?_
  have e:fin=true:=hf.mpr (by simp)
  rw[e];exact q
 | _,_,_,_,i,.cons _ _ _,.nil,hf,q=>by
  refine EY ?_
  have e:fin=false:=by cases fin with
   | false=>rfl
   | true=>have:=hf.mp rfl;simp at this
  rw[e];exact q
 | _,_,_,_,i,.cons (ns:=ns) a t r,.cons (ns:=ms) c u r',hf,q=>by
  rw[Du]
  refine F0 (Hk ?_)
  rw[HT.aP] at q
  by_cases e:a=c
  ·rw[if_pos e] at q
   rw[beq_iff_eq.mpr e]
   exact Gj (oO (i+1) r r' (by rw[hf];simp) q)
  ·rw[if_neg e] at q
   rw[beq_eq_false_iff_ne.mpr e]
   refine GL ?_
   by_cases i0:(true && i == 0)=true
   ·rw[i0]
    exact JA q
   ·rw[DZ.mpr i0,oneLt'_eq]
    simp only[CK,if_false]
    refine Bd (HT.jS _ _ a t c u prog w _ _ ?_)
    exact C7 q
theorem j6 {h:Heap}:∀{vs:List Bh},(∀v∈vs,∃ns,cu h v ns/\ns≠[])->∃fs,PySem.W.KatTups h vs fs/\fs.length=vs.length/\∀f∈fs,∃i t,f = .int i t
 | [],_=>⟨[],trivial,rfl,λf hf=>by cases hf⟩
 | v :: vs,hv=>by
  obtain ⟨fs,t,l,hf⟩:=j6 λu hu=>hv u (BG _ hu)
  obtain ⟨ns,⟨p,o,xs,n,rfl,e,c,d,r⟩,ne⟩:=hv v Br
  have hx:∃i t,xs[0]? = some (.int i t):=by
   rw[<- Bv]
   generalize xs.toList=l at r
   cases r with
   | nil=>exact absurd rfl ne
   | cons i t r=>exact ⟨i,t,rfl⟩
  obtain ⟨i,t',hx⟩:=hx
  exact ⟨.int i t' :: fs,HK e c d hx t,by rw[Bs,Bs,l],λf hf'=>by
   rcases BR.mp hf' with q | q
   ·exact ⟨i,t',q⟩
   ·exact hf f q⟩
theorem nC {vs:List Bh}(hv:∀v∈vs,∃ns,cu s.heap v ns/\ns≠[]):nj prog w s vs lexOrd (cT s.heap):=by
 refine ⟨λh2 A h6 k6=>⟨tuples' true,λQ E q =>?_,⟨λE st x y Q hk hx hy q =>?_⟩⟩⟩
 ·obtain ⟨fs,t,l,hf⟩:=j6 (h:=h6) (vs:=vs) λv hv'=>by
   obtain ⟨ns,i,ne⟩:=hv v hv'
   exact ⟨ns,i.keeps k6,ne⟩
  refine Hi (T :=.type "int") t (by omega) (λf hf' =>?_) rfl q
  obtain ⟨i,t',rfl⟩:=hf f hf'
  exact FT rfl
 ·obtain ⟨ns,i1,_⟩:=hv _ hx.2
  obtain ⟨ms,i2,_⟩:=hv _ hy.2
  have q':Q (some (HT.lexLt (cT s.heap x.1) (cT s.heap y.1))) st:=q
  rw[i1.ints,i2.ints] at q'
  obtain ⟨p1,o1,xs1,n1,e1,g1,c1,d1,r1⟩:=i1.keeps k6
  obtain ⟨p2,o2,xs2,n2,e2,g2,c2,d2,r2⟩:=i2.keeps k6
  rw[lt'_eq]
  refine Bx (F7 ?_)
  rw[hk,e1,e2]
  have l1:=r1.length
  have l2:=r2.length
  refine Bx (Gf (DC (JI g1 d1 g2 d2 (oO 0 r1 r2 ?_ ⟨rfl,?_⟩))))
  ·rw[<- l1, <- l2,Bl,Bl]
  ·exact BK q'
end
end Srt
namespace L2
open PySem PySem.Spec PyProof.Rows
theorem bH {α β:Type}{f:α -> β}:∀{l:List β} {m:List α},l.Perm (m.map f)->∃m':List α,m'.Perm m/\l=m'.map f:=by
 intro l m h
 generalize hk:m.map f=k at h
 induction h generalizing m with
 | nil =>
  have:m=[]:=HY.mp hk
  exact ⟨[],by rw[this],rfl⟩
 | cons x _ ih =>
  match m,hk with
  | y :: m,hk =>
   rw[BF] at hk
   injection hk with h1 h2
   obtain ⟨m',p,e⟩:=ih h2
   exact ⟨y :: m',p.cons y,by rw[BF, <- e,h1]⟩
  | [],hk=>cases hk
 | swap x y l =>
  match m,hk with
  | a :: b :: m,hk =>
   rw[BF,BF] at hk
   injection hk with h1 h2
   injection h2 with h2 h3
   exact ⟨b :: a :: m,List.Perm.swap a b m,by rw[BF,BF,h1,h2,h3]⟩
  | [],hk=>cases hk
  | [_],hk=>simp at hk
 | trans _ _ ih1 ih2 =>
  obtain ⟨m',p,e⟩:=ih2 hk
  obtain ⟨m'',p',e'⟩:=ih1 e.symm
  exact ⟨m'',p'.trans p,e'⟩
theorem cU:∀{ns:List Int} {us:List Bh},Vals (ns.map V.int) us->C8 us ns:=λr=>intsAre_of r
theorem iu:∀{us:List Bh} {ns:List Int},C8 us ns->Vals (ns.map V.int) us:=λr=>iQ r
theorem iS:∀{us:List Bh},(∀u∈us,∃i t,u=Ds i t)->C8 us (us.map Srt.intOf)
 | [],_ =>.nil
 | u :: us,h=>by
  obtain ⟨i,t,e⟩:=h u Br
  subst e
  exact .cons i t (iS λv hv=>h v (BG _ hv))
theorem cb:∀{α:Type} {f:α -> Addr} {ps:List α} {us:List Bh},Vals (ps.map λx=>V.ref (f x)) us->us=ps.map λx=>BN (f x)
 | _,_,[],_,r=>by cases r;rfl
 | _,f,p :: ps,_,r=>by
  cases r with
  | cons h t=>rw[BF, <- cb t,show _=BN (f p) from h]
theorem gh {α:Type}{f:α -> Addr}:∀{ps:List α},Vals (ps.map λx=>V.ref (f x)) (ps.map λx=>BN (f x))
 | [] =>.nil
 | p :: ps =>.cons rfl gh
section
variable  {X:Cx}
theorem Inv.iw {pins:List (Addr×Obj)}{σ:St}{H:Hp}{s:Bi}{p:Addr}{ys:List V}(I:Inv X pins σ H s)(h:SqL X.K H p ys\/SqT X.K H p ys) :
  ∃(its:List Bh) (o:Obj) (n:Nat),Vals ys its/\s.heap.get? p=some o/\(o.cls = .type "list" \/ o.cls = .type "tuple")/\o.data = .seq its.toArray n/\ys.length<=BJ:=by
 rcases h with h | h
 ·obtain ⟨its,r,⟨o,n,e,c,_,d⟩,z⟩:=I.list h
  exact ⟨its,o,n,r,e,.inl c,d,z⟩
 ·obtain ⟨its,r,⟨o,e,c,n,d⟩,z⟩:=I.tuple h
  exact ⟨its,o,n,r,e,.inr c,d,z⟩
theorem Inv.newList {pins:List (Addr×Obj)}{σ:St}{H:Hp}{s:Bi}{h':Heap}{p:Addr}{ys:List V}{its:List Bh}{n:Nat}(I:Inv X pins σ H s)(k:∀b o,s.heap.get? b=some o->h'.get? b=some o)(hp:s.heap.objs.size<=p)
  (e:h'.get? p=some { cls :=.type "list",data :=.seq its.toArray n }) (r:Vals ys its) (hz:ys.length<=BJ):Inv X pins σ (upd H p (.lst ys)) { s with heap:=h' } :=
 I.laid (t':=s.toks) k hp ⟨hz,its,n,r,e⟩
theorem cV:cz X (.builtin "sorted") (λxs H Q=>∃(p:Addr) (ns:List Int),xs=[.ref p]/\(SqL X.K H p (ns.map V.int)\/SqT X.K H p (ns.map V.int))/\∀(l:Addr) (out:List Int),H l=none->out.Perm ns->out.Pairwise (· <= ·)->Q (.ref l) (upd H l (.lst (out.map V.int)))):=by
 intro pins s σ H xs us Q I r h
 obtain ⟨p,ns,rfl,hs,q⟩:=h
 obtain ⟨u,rfl,ru⟩:=vals1 r
 cases (show u=BN p from ru)
 obtain ⟨its,o,n,rv,e,c,d,z⟩:=I.iw hs
 have hI:=cU rv
 have lz:its.length<=BJ:=by rw[<- rv.length];exact z
 refine Srt.j2 (Srt.cS e c d lz) lz (Srt.nB hI) λh' l out m k hl el pm ps =>?_
 have hm:∀v∈out,∃i t,v=Ds i t:=λv hv=>Srt.fG hI v (pm.mem_iff.mp hv)
 have hO:=iS hm
 have pm':(out.map Srt.intOf).Perm ns:=by
  have:=pm.map Srt.intOf
  rw[Srt.ints_map hI] at this
  exact this
 refine ⟨.ref l,_,I.newList k hl el (iu hO) (by rw[Bg,pm'.length_eq, <- Bg (f:=V.int)];exact z),rfl,q l _ (I.hok.fresh hl) pm' ?_⟩
 refine B0.mpr (ps.imp λ{x y} le =>?_)
 have le':decide (Srt.intOf y<Srt.intOf x)=false:=le
 have:=of_decide_eq_false le'
 omega
theorem iy:cz X (.builtin "sorted") (λxs H Q=>∃(p:Addr) (ts:List (Addr×List Int)),xs=[.ref p]/\(SqL X.K H p (ts.map λt =>.ref t.1)\/SqT X.K H p (ts.map λt =>.ref t.1))/\(∀t∈ts,SqT X.K H t.1 (t.2.map V.int)/\t.2≠[]) ∧
  ∀(l:Addr) (out:List (Addr×List Int)),H l=none->out.Perm ts->out.Pairwise (λa b=>HT.lexLt b.2 a.2=false)->Q (.ref l) (upd H l (.lst (out.map λt =>.ref t.1)))):=by
 intro pins s σ H xs us Q I r h
 obtain ⟨p,ts,rfl,hs,ht,q⟩:=h
 obtain ⟨u,rfl,ru⟩:=vals1 r
 cases (show u=BN p from ru)
 obtain ⟨its,o,n,rv,e,c,d,z⟩:=I.iw hs
 have ei:=cb rv
 have lz:its.length<=BJ:=by rw[<- rv.length];exact z
 have tup:∀t∈ts,Srt.cu s.heap (BN t.1) t.2:=λt hm=>by
  obtain ⟨jts,jr,⟨jo,je,jc,jn,jd⟩,_⟩:=I.tuple (ht t hm).1
  exact ⟨t.1,jo,_,jn,rfl,je,jc,jd,by simpa using cU jr⟩
 have hv:∀v∈its,∃ns,Srt.cu s.heap v ns/\ns≠[]:=λv hv=>by
  rw[ei] at hv
  obtain ⟨t,hm,rfl⟩:=Bw.mp hv
  exact ⟨t.2,tup t hm,(ht t hm).2⟩
 refine Srt.j2 (Srt.cS e c d lz) lz (Srt.nC hv) λh' l out m k hl el pm ps =>?_
 rw[ei] at pm
 obtain ⟨out',pm',rfl⟩:=bH pm
 refine ⟨.ref l,_,I.newList k hl el gh (by rw[Bg,pm'.length_eq, <- Bg (f:=λt:Addr×List Int=>V.ref t.1)];exact z),rfl,q l _ (I.hok.fresh hl) pm' ?_⟩
 refine (B0.mp ps).imp_of_mem λ{a b} ha hb le =>?_
 have le':HT.lexLt (Srt.cT s.heap (BN b.1)) (Srt.cT s.heap (BN a.1))=false:=le
 rw[(tup a (pm'.mem_iff.mp ha)).ints,(tup b (pm'.mem_iff.mp hb)).ints] at le'
 exact le'
end
end L2
namespace STab
open PySem PySem.SetTable
def qJ (xs:Array Nat):Prop:=∀i j a b:Nat,xs[i]? = some a->xs[j]? = some b->i<j->a<b
theorem vT {xs:Array Nat}(R:qJ xs)(j:Nat):∀(fuel lo hi:Nat),lo<=hi->hi<=xs.size->hi-lo<=fuel →
  (∀i a,i<lo->xs[i]? = some a->a<j)->(∀i a,hi<=i->xs[i]? = some a->j<=a) →
  below.go xs j fuel lo hi<=xs.size/\(∀i a,xs[i]? = some a->(i<below.go xs j fuel lo hi↔a<j)):=by
 intro fuel
 induction fuel with
 | zero =>
  intro lo hi h1 h2 h3 h4 h5
  unfold below.go
  refine ⟨by omega,λi a e=>⟨λq=>h4 i a q e,λq =>?_⟩⟩
  apply Fi
  intro q2
  have:=h5 i a (by omega) e
  omega
 | succ fuel ih =>
  intro lo hi h1 h2 h3 h4 h5
  unfold below.go
  by_cases hl:lo<hi
  ·rw[if_pos hl]
   dsimp only
   have hm:(lo+hi)/2<xs.size:=by omega
   have em:xs[(lo+hi)/2]? = some xs[(lo+hi)/2]:=Cw hm
   have eg:xs.getD ((lo+hi)/2) j=xs[(lo+hi)/2]:=by simp[Array.getD,hm]
   rw[eg]
   by_cases hc:xs[(lo+hi)/2]<j
   ·rw[if_pos hc]
    refine ih _ _ (by omega) h2 (by omega) (λi a q e =>?_) h5
    by_cases q2:i=(lo+hi)/2
    ·rw[q2,em] at e;cases e;exact hc
    ·exact Nat.lt_trans (R i _ _ _ e em (by omega)) hc
   ·rw[if_neg hc]
    refine ih _ _ (by omega) (by omega) (by omega) h4 (λi a q e =>?_)
    by_cases q2:i=(lo+hi)/2
    ·rw[q2,em] at e;cases e;omega
    ·have:=R _ i _ _ em e (by omega)
     omega
  ·rw[if_neg hl]
   refine ⟨by omega,λi a e=>⟨λq=>h4 i a q e,λq =>?_⟩⟩
   apply Fi
   intro q2
   have:=h5 i a (by omega) e
   omega
theorem gL {xs:Array Nat}(R:qJ xs)(j:Nat):below xs j<=xs.size/\∀i a,xs[i]? = some a->(i<below xs j↔a<j) :=
 vT R j _ _ _ (BU _) (Bn _) (by omega) (λi a h=>by omega) λi a h e=>by
  rw[De (by omega)] at e;cases e
theorem below_at {xs:Array Nat}(R:qJ xs){i j:Nat}(h:xs[i]? = some j):below xs j=i:=by
 obtain ⟨h1,h2⟩:=gL R j
 have hi:i<xs.size:=by
  apply Fi;intro q;rw[De q] at h;cases h
 have a1:¬ i<below xs j:=λq=>by have:=(h2 i j h).mp q;omega
 apply Hw (by omega)
 apply Jf
 intro q
 have e:=Cw (xs:=xs) (i:=below xs j) (by omega)
 have l1:=R _ _ _ _ e h q
 have:=(h2 _ _ e).mpr l1
 omega
theorem bI {α:Type}(xs:Array α)(p:Nat)(x:α):(insertAt xs p x).toList=xs.toList.take p++x :: xs.toList.drop p:=by
 unfold insertAt
 simp
 rw[B5 (by simp)]
theorem bT {α:Type}(xs:Array α){p:Nat}(hp:p<=xs.size)(x:α)(i:Nat) :
  (insertAt xs p x)[i]? = if i<p then xs[i]? else if i=p then some x else xs[i-1]? := by
 rw[<- Bv,bI]
 have hl:(xs.toList.take p).length=p:=by rw[CA,Bl];omega
 by_cases h1:i<p
 ·rw[if_pos h1,DJ (by omega),Dy,if_pos h1,Bv]
 ·rw[if_neg h1,DD (by omega),hl]
  by_cases h2:i=p
  ·rw[if_pos h2,h2,Nat.sub_self];rfl
  ·rw[if_neg h2]
   obtain ⟨d,hd⟩:∃d,i-p=d+1:=⟨i-p-1,by omega⟩
   rw[hd,EB,ER,Bv]
   congr 1;omega
theorem cC {α:Type}(xs:Array α)(p:Nat)(x:α):(insertAt xs p x).size=xs.size+1:=by
 rw[<- Bl,bI,Bj,Bs,CA,DT,Bl]
 omega
theorem insertAt_perm {α:Type}(xs:Array α)(p:Nat)(x:α):(insertAt xs p x).toList.Perm (x :: xs.toList):=by
 rw[bI]
 exact Jg.trans (by rw[Dq])
theorem iz {α β:Type}(xs:Array α)(p:Nat)(x:α)(f:α -> β):(insertAt xs p x).map f=insertAt (xs.map f) p (f x):=by
 apply FY.mp
 rw[FZ,bI,bI,FZ,BB,BF,G7,JT]
theorem lC {xs:Array Nat}(R:qJ xs){j:Nat}(hj:∀i:Nat,xs[i]? ≠ some j):qJ (insertAt xs (below xs j) j):=by
 obtain ⟨h1,h2⟩:=gL R j
 intro a b x y ea eb hab
 rw[bT _ h1] at ea eb
 by_cases a1:a<below xs j
 ·rw[if_pos a1] at ea
  have:=(h2 _ _ ea).mp a1
  by_cases b1:b<below xs j
  ·rw[if_pos b1] at eb;exact R _ _ _ _ ea eb hab
  ·rw[if_neg b1] at eb
   by_cases b2:b=below xs j
   ·rw[if_pos b2] at eb;cases eb;exact this
   ·rw[if_neg b2] at eb
    exact R _ _ _ _ ea eb (by omega)
 ·rw[if_neg a1] at ea
  rw[if_neg (by omega),if_neg (by omega)] at eb
  have l1:¬ y<j:=λq=>by have:=(h2 _ _ eb).mpr q;omega
  by_cases a2:a=below xs j
  ·rw[if_pos a2] at ea;cases ea
   have:y≠j:=λq=>hj _ (q ▸ eb)
   omega
  ·rw[if_neg a2] at ea
   exact R _ _ _ _ ea eb (by omega)
def occ (t:SetTable)(j:Nat):Prop:=∃i:Nat,t.place[i]? = some j
theorem mi {t:SetTable}(R:qJ t.place){i j:Nat}(h:t.place[i]? = some j):t.slot j = .live i:=by
 unfold SetTable.slot
 dsimp only
 rw[below_at R h,h]
 simp
theorem qK {t:SetTable}(D:t.dummies = #[]){j:Nat}(h:¬ occ t j):t.slot j = .empty:=by
 unfold SetTable.slot
 dsimp only
 have h1:(t.place[below t.place j]? == some j)=false:=by
  rw[beq_eq_false_iff_ne];exact λq=>h ⟨_,q⟩
 rw[h1,D]
 simp[has]
def adv (mask:Nat)(p:Probe):Probe :=
 if p.more>0 then { p with j:=p.j+1,more:=p.more-1 } else
 let (i,perturb):=leap mask p.i p.perturb
 { p with j:=i,more:=runEnd mask i-i,i,perturb }
def cG (mask i perturb:Nat):Probe:={ j:=i,more:=runEnd mask i-i,i,perturb,dummy:=none }
def start (mask:Nat)(h:Int):Probe:=cG mask (bits h%(mask+1)) (bits h)
inductive Way (oc:Nat->Prop)(mask:Nat):Nat->Probe->Probe->Prop
 | here (p:Probe):Way oc mask 0 p p
 | step {n:Nat} {p q:Probe}:oc p.j->Way oc mask n (adv mask p) q->Way oc mask (n+1) p q
theorem Way.mono {oc oc':Nat->Prop}{mask n:Nat}{p q:Probe}(m:∀j,oc j->oc' j)(h:Way oc mask n p q):Way oc' mask n p q:=by
 induction h with
 | here p=>exact .here p
 | step a _ ih=>exact .step (m _ a) ih
theorem Way.dummy {oc:Nat->Prop}{mask n:Nat}{p q:Probe}(h:Way oc mask n p q):q.dummy=p.dummy:=by
 induction h with
 | here p=>rfl
 | @step n p q _ _ ih =>
  rw[ih];unfold adv;split <;> rfl
theorem zO {mask:Nat}{p:Probe}(h:p.j+p.more<=mask):(adv mask p).j+(adv mask p).more<=mask:=by
 unfold adv
 split
 ·dsimp only;omega
 ·dsimp only[leap]
  have:(p.i*5+1+p.perturb/32)%(mask+1)<mask+1:=D7 _ (Fq mask)
  unfold runEnd
  split <;> omega
theorem oP (mask:Nat)(h:Int):(start mask h).j+(start mask h).more<=mask:=by
 unfold start cG
 dsimp only
 have:bits h%(mask+1)<mask+1:=D7 _ (Fq mask)
 unfold runEnd
 split <;> omega
theorem Way.le {oc:Nat->Prop}{mask n:Nat}{p q:Probe}(h:Way oc mask n p q):p.j+p.more<=mask->q.j<=mask:=by
 induction h with
 | here p=>intro;omega
 | step _ _ ih=>intro h;exact ih (zO h)
def nD (mask:Nat):Nat->Probe->Probe
 | 0,p=>p
 | n+1,p=>nD mask n (adv mask p)
theorem oQ (mask:Nat):∀(a b:Nat) (p:Probe),nD mask (a+b) p=nD mask b (nD mask a p)
 | 0,b,p=>by rw[Ea];rfl
 | a+1,b,p=>by rw[show a+1+b=(a+b)+1 by omega];exact oQ mask a b (adv mask p)
theorem uy (oc:Nat->Prop)(mask:Nat):∀(n:Nat) (p:Probe),¬ oc (nD mask n p).j->∃k q,k<=n/\Way oc mask k p q/\¬ oc q.j:=by
 intro n
 induction n with
 | zero=>intro p h;exact ⟨0,p,Bn _,.here p,h⟩
 | succ n ih =>
  intro p h
  by_cases hp:oc p.j
  ·obtain ⟨k,q,a,b,c⟩:=ih (adv mask p) h
   exact ⟨k+1,q,by omega,.step hp b,c⟩
  ·exact ⟨0,p,BU _,.here p,hp⟩
theorem xY (mask:Nat):∀(m:Nat) (p:Probe),p.more=m->p.dummy=none->nD mask (m+1) p=cG mask (leap mask p.i p.perturb).1 (leap mask p.i p.perturb).2:=by
 intro m
 induction m with
 | zero =>
  intro p h d
  show adv mask p=_
  unfold adv
  rw[if_neg (by omega)]
  obtain ⟨j,mo,i,pe,dm⟩:=p
  cases d
  rfl
 | succ m ih =>
  intro p h d
  show nD mask (m+1) (adv mask p)=_
  have e:adv mask p={ p with j:=p.j+1,more:=p.more-1 }:=by unfold adv;rw[if_pos (by omega)]
  rw[e]
  exact ih _ (by dsimp only;omega) d
def cg (mask:Nat):Nat->Nat×Nat->Nat×Nat
 | 0,x=>x
 | k+1,x=>cg mask k (leap mask x.1 x.2)
theorem mj (mask:Nat):∀(a b:Nat) (x:Nat×Nat),cg mask (a+b) x=cg mask b (cg mask a x)
 | 0,b,x=>by rw[Ea];rfl
 | a+1,b,x=>by rw[show a+1+b=(a+b)+1 by omega];exact mj mask a b _
theorem more_le (mask i:Nat):runEnd mask i-i<=9:=by unfold runEnd;split <;> omega
theorem qL (mask:Nat):∀(k i pe:Nat),∃n,n<=10*k/\nD mask n (cG mask i pe)=cG mask (cg mask k (i,pe)).1 (cg mask k (i,pe)).2:=by
 intro k
 induction k with
 | zero=>intro i pe;exact ⟨0,by omega,rfl⟩
 | succ k ih =>
  intro i pe
  obtain ⟨n,h1,h2⟩:=ih (leap mask i pe).1 (leap mask i pe).2
  refine ⟨(runEnd mask i-i+1)+n,by have:=more_le mask i;omega,?_⟩
  rw[oQ,xY mask (runEnd mask i-i) (cG mask i pe) rfl rfl]
  exact h2
theorem gF (mask:Nat):∀(k i pe:Nat),(cg mask k (i,pe)).2=pe/32 ^ k
 | 0,i,pe=>by simp[cg]
 | k+1,i,pe=>by
  show (cg mask k (leap mask i pe)).2=_
  rw[show leap mask i pe=((leap mask i pe).1,pe/32) from rfl,gF mask k,Nat.div_div_eq_div_mul,Nat.pow_succ,Nat.mul_comm 32]
theorem oR (mask:Nat):∀(k i pe:Nat),i<=mask->(cg mask k (i,pe)).1<=mask
 | 0,i,pe,h=>h
 | k+1,i,pe,h=>by
  show (cg mask k (leap mask i pe)).1<=mask
  rw[show leap mask i pe=((leap mask i pe).1,pe/32) from rfl]
  exact oR mask k _ _ (E8 (D7 _ (Fq mask)))
def ste (m i:Nat):Nat:=(i*5+1)%m
def its (m:Nat):Nat->Nat->Nat
 | 0,i=>i
 | n+1,i=>its m n (ste m i)
theorem cD (m:Nat):∀(a b i:Nat),its m (a+b) i=its m b (its m a i)
 | 0,b,i=>by rw[Ea];rfl
 | a+1,b,i=>by rw[show a+1+b=(a+b)+1 by omega];exact cD m a b _
def orb (m:Nat):Nat->Nat->List Nat
 | 0,_=>[]
 | n+1,i=>i :: orb m n (ste m i)
theorem sP (m:Nat):∀(n i j:Nat),j∈orb m n i->∃r,r<n/\its m r i=j
 | 0,i,j,h=>by cases h
 | n+1,i,j,h=>by
  rcases BR.mp h with h | h
  ·exact ⟨0,by omega,h.symm⟩
  ·obtain ⟨r,a,b⟩:=sP m n _ _ h
   exact ⟨r+1,by omega,b⟩
def whole (m:Nat):Prop:=(∀j,j<m->∃r,r<m/\its m r 0=j)/\its m m 0=0
theorem uz {m:Nat}(h:whole m){i j:Nat}(hi:i<m)(hj:j<m):∃r,r<m/\its m r i=j:=by
 obtain ⟨h1,h2⟩:=h
 obtain ⟨a,a1,a2⟩:=h1 i hi
 obtain ⟨b,b1,b2⟩:=h1 j hj
 by_cases hab:a<=b
 ·refine ⟨b-a,by omega,?_⟩
  rw[<- a2, <- cD,show a+(b-a)=b by omega]
  exact b2
 ·refine ⟨m+b-a,by omega,?_⟩
  rw[<- a2, <- cD,show a+(m+b-a)=m+b by omega,cD,h2]
  exact b2
theorem iA {m:Nat}(h:(((Cc m).all λj=>(orb m m 0).contains j) && (its m m 0 == 0))=true):whole m:=by
 rw[Cj,D5,beq_iff_eq] at h
 exact ⟨λj hj=>sP m m 0 j (List.contains_iff_mem.mp (h.1 j (Cu.mpr hj))),h.2⟩
theorem zP:whole 8:=iA (by decide +kernel)
theorem xZ:whole 32:=iA (by decide +kernel)
theorem vU:whole 128:=iA (by decide +kernel)
theorem oS:whole 512:=iA (by decide +kernel)
def lD:Nat->Nat
 | 0=>0
 | n+1=>5 ^ n+lD n
theorem sQ (m:Nat):∀n i,its m n i%m=(5 ^ n*i+lD n)%m
 | 0,i=>by show i%m=(5 ^ 0*i+0)%m;rw[Nat.pow_zero,Nat.one_mul,Hy]
 | n+1,i=>by
  show its m n (ste m i)%m=_
  rw[sQ m n]
  show (5 ^ n*((i*5+1)%m)+lD n)%m=(5 ^ (n+1)*i+(5 ^ n+lD n))%m
  have e:(5 ^ n*((i*5+1)%m))%m=(5 ^ n*(i*5+1))%m:=by rw[Ju,Nat.mod_mod, <- Ju]
  rw[Jv,e, <- Jv]
  congr 1
  rw[Nat.pow_succ,Nat.mul_add,Nat.mul_one,Nat.mul_comm i 5, <- Nat.mul_assoc]
  omega
theorem qM {m:Nat}(h0:0<m):∀n i,i<m->its m n i<m
 | 0,i,h=>h
 | n+1,i,_=>qM h0 n _ (D7 _ h0)
theorem qN {m:Nat}(h0:0<m){n i:Nat}(hi:i<m):its m n i=(5 ^ n*i+lD n)%m:=by
 rw[<- sQ,Nat.mod_eq_of_lt (qM h0 n i hi)]
set_option exponentiation.threshold 600 in
theorem A0:5 ^ 512%2048=1/\lD 512%2048%512=0/\lD 512%2048/512%2=1:=by decide +kernel
set_option exponentiation.threshold 600 in
theorem x6 {i:Nat}(hi:i<2048):its 2048 512 i=(i+lD 512%2048)%2048:=by
 rw[qN (by decide) hi,Jv,Ju,A0.1,Nat.one_mul,Nat.mod_mod]
 exact Nat.mod_add_mod _ _ _
theorem uA:whole 2048:=by
 obtain ⟨_,g1,g2⟩:=A0
 have gl:lD 512%2048<2048:=D7 _ (by decide)
 have lp:=@x6
 generalize lD 512%2048=u at g1 g2 gl lp
 have hu:u=512\/u=1536:=by omega
 clear g1 g2 gl
 have two:∀{i},i<2048->its 2048 1024 i=(i+1024)%2048:=λ{i} hi=>by
  rw[show 1024=512+512 from rfl,cD,lp hi,lp (D7 _ (by decide))];omega
 have fou:∀{i},i<2048->its 2048 2048 i=i:=λ{i} hi=>by
  rw[show 2048=1024+1024 from rfl,cD]
  show its 2048 1024 (its 2048 1024 i)=i
  rw[two hi,two (D7 _ (by decide))];omega
 have thr:∀{i},i<2048->its 2048 1536 i=(i+u+1024)%2048:=λ{i} hi=>by
  rw[show 1536=1024+512 from rfl,cD,two hi,lp (D7 _ (by decide))];omega
 refine ⟨λj hj =>?_,fou (by decide)⟩
 obtain ⟨r,r1,r2⟩:=oS.1 (j%512) (D7 _ (by decide))
 have a:its 2048 r 0%512=j%512:=by
  rw[qN (by decide) (by decide),Nat.mod_mod_of_dvd _ (by decide:512 ∣ 2048), <- r2,qN (by decide) (by decide)]
 have v:=qM (m:=2048) (by decide) r 0 (by decide)
 have q0:its 2048 (r+512) 0=_:=(cD 2048 r 512 0).trans (lp v)
 have q1:its 2048 (r+1024) 0=_:=(cD 2048 r 1024 0).trans (two v)
 have q2:its 2048 (r+1536) 0=_:=(cD 2048 r 1536 0).trans (thr v)
 generalize e0:its 2048 r 0=v0 at a v q0 q1 q2
 have k:v0=j\/(v0+u)%2048=j\/(v0+1024)%2048=j\/(v0+u+1024)%2048=j:=by
  clear q0 q1 q2 two fou thr lp r1 r2 e0
  obtain ⟨c,hc,c4⟩:∃c,v0=j%512+512*c/\c<4:=⟨v0/512,by omega,by omega⟩
  obtain ⟨d,hd,d4⟩:∃d,j=j%512+512*d/\d<4:=⟨j/512,by omega,by omega⟩
  generalize j%512=e at hc hd a
  have e5:e<512:=by omega
  rcases hu with rfl | rfl
  ·rcases (by omega:c=d\/c+1=d\/c+2=d\/c+3=d\/d+1=c\/d+2=c\/d+3=c) with z | z | z | z | z | z | z <;> omega
  ·rcases (by omega:c=d\/c+1=d\/c+2=d\/c+3=d\/d+1=c\/d+2=c\/d+3=c) with z | z | z | z | z | z | z <;> omega
 rcases k with z | z | z | z
 ·exact ⟨r,by omega,e0.trans z⟩
 ·exact ⟨r+512,by omega,q0.trans z⟩
 ·exact ⟨r+1024,by omega,q1.trans z⟩
 ·exact ⟨r+1536,by omega,q2.trans z⟩
def Msk (mask:Nat):Prop:=mask=7\/mask=31\/mask=127\/mask=511\/mask=2047
theorem Msk.whole {mask:Nat}(h:Msk mask):whole (mask+1):=by
 rcases h with rfl | rfl | rfl | rfl | rfl
 ·exact zP
 ·exact xZ
 ·exact vU
 ·exact oS
 ·exact uA
theorem ml (mask:Nat):∀(r i:Nat),cg mask r (i,0)=(its (mask+1) r i,0)
 | 0,i=>rfl
 | r+1,i=>by
  show cg mask r (leap mask i 0)=_
  rw[show leap mask i 0=(ste (mask+1) i,0) from rfl,ml mask r];rfl
theorem x8 (h:Int):bits h<2 ^ 64:=by
 unfold bits
 have h1:=ES h (show (0:Int)<2 ^ 64 by decide)
 have h0:=Fz h (show (2 ^ 64:Int)≠0 by decide)
 have:((2 ^ 64:Nat):Int)=2 ^ 64:=by decide
 omega
theorem j7 {mask:Nat}(hm:Msk mask){h:Int}{j:Nat}(hj:j<=mask):∃k,k<turns mask/\(cg mask k (bits h%(mask+1),bits h)).1=j:=by
 have p0:(cg mask 13 (bits h%(mask+1),bits h)).2=0:=by
  rw[gF]
  exact Nat.div_eq_of_lt (BE (x8 h) (by decide))
 have i0:=oR mask 13 (bits h%(mask+1)) (bits h) (E8 (D7 _ (Fq mask)))
 obtain ⟨r,r1,r2⟩:=uz hm.whole (i:=(cg mask 13 (bits h%(mask+1),bits h)).1) (j:=j) (by omega) (by omega)
 refine ⟨13+r,by unfold turns;omega,?_⟩
 rw[mj,show cg mask 13 (bits h%(mask+1),bits h)=((cg mask 13 (bits h%(mask+1),bits h)).1,0) from Ik rfl p0,ml]
 exact r2
theorem vV {mask:Nat}(hm:Msk mask)(oc:Nat->Prop)(h:Int){j:Nat}(hj:j<=mask)(he:¬ oc j):∃n q,n<10*turns mask/\Way oc mask n (start mask h) q/\¬ oc q.j/\q.j<=mask/\q.dummy=none:=by
 obtain ⟨k,k1,k2⟩:=j7 hm (h:=h) hj
 obtain ⟨n,n1,n2⟩:=qL mask k (bits h%(mask+1)) (bits h)
 obtain ⟨n',q,a,b,c⟩:=uy oc mask n (start mask h) (by
  show ¬ oc (nD mask n (cG mask _ _)).j
  rw[n2]
  show ¬ oc (cg mask k (bits h%(mask+1),bits h)).1
  rw[k2]
  exact he)
 exact ⟨n',q,by omega,b,c,b.le (oP mask h),b.dummy⟩
theorem mn {mask n:Nat}(oc:Nat->Prop)(f:Nat->Nat)(hf:∀j,j<=mask->oc j->f j<n)(inj:∀i j,i<=mask->j<=mask->oc i->oc j->f i=f j->i=j)(hn:n<=mask):∃j,j<=mask/\¬ oc j:=by
 by_cases q:∃j,j<=mask/\¬ oc j
 ·exact q
 ·exfalso
  have all:∀j,j<=mask->oc j:=λj hj=>by
   by_cases o:oc j
   ·exact o
   ·exact absurd ⟨j,hj,o⟩ q
  have nd:((Cc (mask+1)).map f).Nodup:=by
   unfold List.Nodup
   rw[B0]
   refine Fs (λ{a b} ha hb hab e=>hab (inj a b ?_ ?_ (all _ ?_) (all _ ?_) e)) (Jj)
   all_goals (rw[Cu] at ha hb;omega)
  have:=List.Nodup.length_le_of_subset nd (l₂:=Cc n) (λx hx=>by
   obtain ⟨j,hj,e⟩:=Bw.mp hx
   rw[Cu] at hj ⊢
   rw[<- e]
   exact hf j (by omega) (all j (by omega)))
  rw[Bg,DG,DG] at this
  omega
open PySem PySem.SetTable
structure Tab (t:SetTable)(hs:Array Int):Prop where
 dm:t.dummies = #[]
 rise:qJ t.place
 size:t.place.size=hs.size
 le:∀i j:Nat,t.place[i]? = some j->j<=t.mask
 msk:Msk t.mask
 fit:hs.size<=t.mask
 reach:∀(i j:Nat) (h:Int),t.place[i]? = some j->hs[i]? = some h->∃n q,Way (occ t) t.mask n (start t.mask h) q/\q.j=j
theorem gj {α:Type}{xs:Array α}{i:Nat}{a:α}(h:xs[i]? = some a):i<xs.size:=by
 apply Fi;intro q;rw[De q] at h;cases h
theorem Tab.fill {t:SetTable}{hs:Array Int}(T:Tab t hs):t.fill=hs.size:=by
 unfold SetTable.fill;rw[T.dm,T.size];rfl
theorem Tab.fits {t:SetTable}{hs:Array Int}(T:Tab t hs):t.fits hs.size=true:=by
 unfold SetTable.fits
 rw[T.fill,T.size]
 simp[T.fit]
theorem Tab.ends {t:SetTable}{hs:Array Int}(T:Tab t hs)(h:Int):∃n q,n<10*turns t.mask/\Way (occ t) t.mask n (start t.mask h) q/\¬ occ t q.j/\q.j<=t.mask/\q.dummy=none:=by
 obtain ⟨j,hj,he⟩:=mn (mask:=t.mask) (n:=hs.size) (occ t) (λj=>below t.place j)
  (λj _ ⟨i,e⟩=>by show below t.place j<hs.size;rw[below_at T.rise e, <- T.size];exact gj e)
  (λi j _ _ ⟨a,ea⟩ ⟨b,eb⟩ e=>by
   have e':below t.place i=below t.place j:=e
   rw[below_at T.rise ea,below_at T.rise eb] at e'
   subst e'
   exact BW (ea.symm.trans eb)) T.fit
 exact vV T.msk (occ t) h hj he
theorem vW {t:SetTable}{hs:Array Int}(T:Tab t hs){H:Nat->Int}{h:Int}:∀(n:Nat) (p q:Probe) (fuel:Nat),Way (occ t) t.mask n p q->¬ occ t q.j->n<fuel->p.dummy=none →
  (SetTable.probe.go t H h fuel p=some (.empty q.j none)/\∀k r i,Way (occ t) t.mask k p r->t.place[i]? = some r.j->H i≠h) ∨
  (∃k r i,k<n/\Way (occ t) t.mask k p r/\t.place[i]? = some r.j/\H i=h/\SetTable.probe.go t H h fuel p=some (.candidate r.j i (adv t.mask r))/\Way (occ t) t.mask (n-k-1) (adv t.mask r) q/\(adv t.mask r).dummy=none
   /\ ∀k' r' i',k'<k->Way (occ t) t.mask k' p r'->t.place[i']? = some r'.j->H i'≠h):=by
 intro n
 induction n with
 | zero =>
  intro p q fuel W he hf hd
  cases W
  obtain ⟨fuel,rfl⟩:∃f,fuel=f+1:=⟨fuel-1,by omega⟩
  refine .inl ⟨?_,λk r i Wr er =>?_⟩
  ·unfold SetTable.probe.go
   rw[qK T.dm he]
   dsimp only
   rw[hd]
  ·cases Wr with
   | here=>exact absurd ⟨i,er⟩ he
   | step a _=>exact absurd a he
 | succ n ih =>
  intro p q fuel W he hf hd
  obtain ⟨fuel,rfl⟩:∃f,fuel=f+1:=⟨fuel-1,by omega⟩
  cases W with
  | step a W =>
   obtain ⟨i,ei⟩:=a
   have hd':(adv t.mask p).dummy=none:=by rw[<- hd];unfold adv;split <;> rfl
   by_cases hh:H i=h
   ·refine .inr ⟨0,p,i,by omega,.here p,ei,hh,?_,W,hd',λk' r' i' hk=>by omega⟩
    unfold SetTable.probe.go
    rw[mi T.rise ei]
    dsimp only
    rw[if_pos (by rw[hh];exact beq_self_eq_true h)]
    rfl
   ·have e0:SetTable.probe.go t H h (fuel+1) p=SetTable.probe.go t H h fuel (adv t.mask p):=by
     conv=>lhs;unfold SetTable.probe.go
     rw[mi T.rise ei]
     dsimp only
     rw[if_neg (by rw[beq_iff_eq];exact hh)]
     rfl
    rcases ih (adv t.mask p) q fuel W he (by omega) hd' with ⟨r1,r2⟩ | ⟨k,r,i',k1,w1,e1,h1,g1,w2,d2,no⟩
    ·refine .inl ⟨e0.trans r1,λk r j Wr er =>?_⟩
     cases Wr with
     | here =>
      obtain rfl:i=j:=by
       have x:=below_at T.rise ei
       have y:=below_at T.rise er
       exact x.symm.trans y
      exact hh
     | step _ Wr=>exact r2 _ _ _ Wr er
    ·refine .inr ⟨k+1,r,i',by omega,.step ⟨i,ei⟩ w1,e1,h1,e0.trans g1,by rw[show n+1-(k+1)-1=n-k-1 by omega];exact w2,d2,λk' r' j hk Wr er =>?_⟩
     cases Wr with
     | here =>
      obtain rfl:i=j:=by
       have x:=below_at T.rise ei
       have y:=below_at T.rise er
       exact x.symm.trans y
      exact hh
     | step _ Wr=>exact no _ _ _ (by omega) Wr er
theorem vX {t:SetTable}{hs:Array Int}(T:Tab t hs){H:Nat->Int}{h:Int}{n:Nat}{p q:Probe}(W:Way (occ t) t.mask n p q)(he:¬ occ t q.j)(hn:n<10*turns t.mask)(hd:p.dummy=none) :
  (t.probe H h p=some (.empty q.j none)/\∀k r i,Way (occ t) t.mask k p r->t.place[i]? = some r.j->H i≠h) ∨
  (∃k r i,k<n/\Way (occ t) t.mask k p r/\t.place[i]? = some r.j/\H i=h/\t.probe H h p=some (.candidate r.j i (adv t.mask r))/\Way (occ t) t.mask (n-k-1) (adv t.mask r) q/\(adv t.mask r).dummy=none
   /\ ∀k' r' i',k'<k->Way (occ t) t.mask k' p r'->t.place[i']? = some r'.j->H i'≠h) :=
 vW T n p q _ W he hn hd
theorem Tab.zQ {t:SetTable}{hs:Array Int}(T:Tab t hs)(j:Nat):t.put j=({ t with place:=insertAt t.place (below t.place j) j },below t.place j):=by
 unfold SetTable.put
 dsimp only
 have:has t.dummies j=false:=by rw[T.dm];simp[has]
 rw[this]
 rfl
theorem Tab.put {t:SetTable}{hs:Array Int}(T:Tab t hs){h:Int}{n:Nat}{q:Probe}(W:Way (occ t) t.mask n (start t.mask h) q)(he:¬ occ t q.j)(hq:q.j<=t.mask)(hf:hs.size+1<=t.mask) :
  Tab { t with place:=insertAt t.place (below t.place q.j) q.j } (insertAt hs (below t.place q.j) h):=by
 have hp:=(gL T.rise q.j).1
 have hp':below t.place q.j<=hs.size:=by rw[<- T.size];exact hp
 have up:∀j,occ t j->occ { t with place:=insertAt t.place (below t.place q.j) q.j } j:=by
  rintro j ⟨i,e⟩
  by_cases l:i<below t.place q.j
  ·exact ⟨i,by show (insertAt _ _ _)[i]? = _;rw[bT _ hp,if_pos l];exact e⟩
  ·exact ⟨i+1,by show (insertAt _ _ _)[i+1]? = _;rw[bT _ hp,if_neg (by omega),if_neg (by omega)];exact e⟩
 refine ⟨T.dm,lC T.rise λi e=>he ⟨i,e⟩,?_,λi j e =>?_,T.msk,by rw[cC];exact hf,λi j h' e eh =>?_⟩
 ·show (insertAt _ _ _).size=_
  rw[cC,cC,T.size]
 ·have e':(insertAt t.place (below t.place q.j) q.j)[i]? = some j:=e
  rw[bT _ hp] at e'
  split at e'
  ·exact T.le _ _ e'
  ·split at e'
   ·cases e';exact hq
   ·exact T.le _ _ e'
 ·have e':(insertAt t.place (below t.place q.j) q.j)[i]? = some j:=e
  rw[bT _ hp] at e'
  rw[bT _ hp'] at eh
  by_cases l1:i<below t.place q.j
  ·rw[if_pos l1] at e' eh
   obtain ⟨n',q',w,eq⟩:=T.reach _ _ _ e' eh
   exact ⟨n',q',w.mono up,eq⟩
  ·rw[if_neg l1] at e' eh
   by_cases l2:i=below t.place q.j
   ·rw[if_pos l2] at e' eh
    cases e';cases eh
    exact ⟨n,q,W.mono up,rfl⟩
   ·rw[if_neg l2] at e' eh
    obtain ⟨n',q',w,eq⟩:=T.reach _ _ _ e' eh
    exact ⟨n',q',w.mono up,eq⟩
def ocw (owner:Array (Option Nat))(j:Nat):Prop:=∃k,owner[j]? = some (some k)
theorem Way.trans {oc:Nat->Prop}{mask n m:Nat}{p q r:Probe}(h:Way oc mask n p q)(h2:Way oc mask m q r):∃k,Way oc mask k p r:=by
 induction h with
 | here=>exact ⟨m,h2⟩
 | step a _ ih=>obtain ⟨k,w⟩:=ih h2;exact ⟨k+1,.step a w⟩
theorem nE (oc:Nat->Prop)(mask:Nat):∀(k:Nat) (p:Probe),k<=p.more->(∀k',k'<k->oc (p.j+k'))->Way oc mask k p { p with j:=p.j+k,more:=p.more-k }
 | 0,p,_,_ =>.here p
 | k+1,p,h,ho=>by
  have e:adv mask p={ p with j:=p.j+1,more:=p.more-1 }:=by unfold adv;rw[if_pos (by omega)]
  refine .step (ho 0 (by omega)) ?_
  rw[e]
  have:=nE oc mask k { p with j:=p.j+1,more:=p.more-1 } (by dsimp only;omega) λk' hk=>by
   have:=ho (k'+1) (by omega)
   rw[show p.j+(k'+1)=p.j+1+k' by omega] at this
   exact this
  dsimp only at this
  rw[show p.j+1+k=p.j+(k+1) by omega,show p.more-1-k=p.more-(k+1) by omega] at this
  exact this
theorem fH {owner:Array (Option Nat)}{mask j:Nat}(hs:owner.size=mask+1)(hj:j<=mask):(owner.getD j (some 0)).isNone=true↔¬ ocw owner j:=by
 have hl:j<owner.size:=by omega
 have e:owner[j]? = some owner[j]:=Cw hl
 rw[show owner.getD j (some 0)=owner[j] by simp[Array.getD,hl]]
 unfold ocw
 rw[e]
 cases owner[j] with
 | none=>simp
 | some k=>simp
theorem mq {mask i:Nat}(h:i<=mask):runEnd mask i<=mask/\i<=runEnd mask i:=by
 unfold runEnd;split <;> omega
theorem uB {mask:Nat}{owner:Array (Option Nat)}(hs:owner.size=mask+1):∀(fuel i pe j:Nat),i<=mask->SetTable.layClean.free mask owner fuel i pe=some j →
  ¬ ocw owner j/\∃n q,Way (ocw owner) mask n (cG mask i pe) q/\q.j=j:=by
 intro fuel
 induction fuel with
 | zero=>intro i pe j hi h;unfold SetTable.layClean.free at h;cases h
 | succ fuel ih =>
  intro i pe j hi h
  unfold SetTable.layClean.free at h
  obtain ⟨r1,r2⟩:=mq hi
  have no:∀k,k<runEnd mask i+1-i->((owner.getD (i+k) (some 0)).isNone=false)->ocw owner (i+k):=λk hk e=>by
   by_cases o:ocw owner (i+k)
   ·exact o
   ·rw[(fH hs (by omega)).mpr o] at e;cases e
  cases hf:(Cc (runEnd mask i+1-i)).find? λk=>(owner.getD (i+k) (some 0)).isNone with
  | some k =>
   rw[hf] at h
   dsimp only at h
   cases h
   rw[List.find?_range_eq_some] at hf
   obtain ⟨f1,f2,f3⟩:=hf
   rw[Cu] at f2
   refine ⟨(fH hs (by omega)).mp f1,k,_,nE (ocw owner) mask k (cG mask i pe) (by show k<=runEnd mask i-i;omega) λk' hk =>?_,rfl⟩
   refine no k' (by omega) ?_
   have:=f3 k' hk
   simpa using this
  | none =>
   rw[hf] at h
   dsimp only at h
   rw[GX] at hf
   have all:∀k,k<runEnd mask i+1-i->ocw owner (i+k):=λk hk=>no k hk (by simpa using hf k hk)
   obtain ⟨g1,n,q,w,eq⟩:=ih _ _ _ (E8 (D7 _ (Fq mask))) h
   refine ⟨g1,?_⟩
   have w0:=nE (ocw owner) mask (runEnd mask i-i) (cG mask i pe) (Bn _) λk' hk=>all k' (by omega)
   have w1:Way (ocw owner) mask (n+1) { (cG mask i pe) with j:=(cG mask i pe).j+(runEnd mask i-i),more:=(cG mask i pe).more-(runEnd mask i-i) } q:=by
    refine .step (all (runEnd mask i-i) (by omega)) ?_
    have e:adv mask { (cG mask i pe) with j:=(cG mask i pe).j+(runEnd mask i-i),more:=(cG mask i pe).more-(runEnd mask i-i) }=cG mask (leap mask i pe).1 (leap mask i pe).2:=by
     unfold adv
     rw[if_neg (by show ¬ (runEnd mask i-i-(runEnd mask i-i))>0;omega)]
     rfl
    rw[e]
    exact w
   obtain ⟨k,w2⟩:=w0.trans w1
   exact ⟨k,q,w2,eq⟩
theorem uC {mask:Nat}{owner:Array (Option Nat)}(hs:owner.size=mask+1):∀(fuel i pe k:Nat),i<=mask->k<fuel->¬ ocw owner (cg mask k (i,pe)).1->∃j,SetTable.layClean.free mask owner fuel i pe=some j:=by
 intro fuel
 induction fuel with
 | zero=>intro i pe k _ h;omega
 | succ fuel ih =>
  intro i pe k hi hk he
  unfold SetTable.layClean.free
  obtain ⟨r1,r2⟩:=mq hi
  cases hf:(Cc (runEnd mask i+1-i)).find? λk=>(owner.getD (i+k) (some 0)).isNone with
  | some k=>exact ⟨_,rfl⟩
  | none =>
   dsimp only
   rw[GX] at hf
   cases k with
   | zero =>
    have h0:=hf 0 (by omega)
    have:(owner.getD (i+0) (some 0)).isNone=true:=(fH hs (by omega)).mpr he
    rw[this] at h0
    cases h0
   | succ k=>exact ih _ _ k (E8 (D7 _ (Fq mask))) (by omega) he
structure Own (mask:Nat)(owner:Array (Option Nat))(hs:List Int):Prop where
 size:owner.size=mask+1
 cov:∀(k:Nat) (h:Int),hs[k]? = some h->∃j n q,owner[j]? = some (some k)/\Way (ocw owner) mask n (start mask h) q/\q.j=j
 bnd:∀j k:Nat,owner[j]? = some (some k)->k<hs.length
 inj:∀i j k:Nat,owner[i]? = some (some k)->owner[j]? = some (some k)->i=j
theorem Own.step {mask:Nat}(hm:Msk mask){owner:Array (Option Nat)}{hs:List Int}(O:Own mask owner hs)(h:Int)(hl:hs.length<=mask) :
  ∃j,SetTable.layClean.free mask owner (turns mask) (bits h%(mask+1)) (bits h)=some j/\Own mask (owner.setIfInBounds j (some hs.length)) (hs++[h]):=by
 obtain ⟨e,he,hne⟩:=mn (mask:=mask) (n:=hs.length) (ocw owner) (λj=>(owner.getD j none).getD 0)
  (λj _ ⟨k,ek⟩=>by
   have:=gj ek
   show (owner.getD j none).getD 0<_
   rw[show owner.getD j none=some k by rw[Dz,ek];rfl]
   exact O.bnd j k ek)
  (λi j _ _ ⟨a,ea⟩ ⟨b,eb⟩ q=>by
   have q':(owner.getD i none).getD 0=(owner.getD j none).getD 0:=q
   rw[show owner.getD i none=some a by rw[Dz,ea];rfl,show owner.getD j none=some b by rw[Dz,eb];rfl] at q'
   have q'':a=b:=q'
   subst q''
   exact O.inj i j a ea eb) hl
 have i0:bits h%(mask+1)<=mask:=E8 (D7 _ (Fq mask))
 obtain ⟨k,k1,k2⟩:=j7 hm (h:=h) he
 obtain ⟨j,hj⟩:=uC O.size (turns mask) _ _ k i0 k1 (by rw[k2];exact hne)
 obtain ⟨hno,n,q,w,eq⟩:=uB O.size _ _ _ _ i0 hj
 have hjm:j<=mask:=by rw[<- eq];exact w.le (oP mask h)
 have hjs:j<owner.size:=by rw[O.size];omega
 have ej:owner[j]? = some none:=by
  rw[Cw hjs]
  cases ho:owner[j] with
  | none=>rfl
  | some k=>exact absurd ⟨k,by rw[Cw hjs,ho]⟩ hno
 have get:∀i:Nat,(owner.setIfInBounds j (some hs.length))[i]? = if i=j then some (some hs.length) else owner[i]? := λi=>by
  rw[Array.getElem?_setIfInBounds]
  by_cases q:j=i
  ·rw[if_pos q,if_pos q.symm,if_pos hjs]
  ·rw[if_neg q,if_neg (C6 q)]
 have up:∀i,ocw owner i->ocw (owner.setIfInBounds j (some hs.length)) i:=by
  rintro i ⟨k,ek⟩
  refine ⟨k,?_⟩
  rw[get,if_neg (λq=>by rw[q,ej] at ek;cases ek)]
  exact ek
 refine ⟨j,hj,by rw[GV];exact O.size,λk h' eh =>?_,λi k ek =>?_,λi i' k ei ei' =>?_⟩
 ·by_cases lk:k<hs.length
  ·rw[DJ lk] at eh
   obtain ⟨j',n',q',a,b,c⟩:=O.cov k h' eh
   refine ⟨j',n',q',?_,b.mono up,c⟩
   rw[get,if_neg (λq=>by rw[q,ej] at a;cases a)]
   exact a
  ·rw[DD (by omega)] at eh
   have:k-hs.length=0:=by
    cases hk:k-hs.length with
    | zero=>rfl
    | succ m=>rw[hk] at eh;cases eh
   rw[this] at eh
   cases eh
   obtain rfl:k=hs.length:=by omega
   exact ⟨j,n,q,by rw[get,if_pos rfl],w.mono up,eq⟩
 ·rw[Bj,BV]
  rw[get] at ek
  split at ek
  ·cases ek;omega
  ·have:=O.bnd _ _ ek;omega
 ·rw[get] at ei ei'
  by_cases q1:i=j
  ·by_cases q2:i'=j
   ·rw[q1,q2]
   ·rw[if_pos q1] at ei;rw[if_neg q2] at ei'
    cases ei
    have:=O.bnd _ _ ei';omega
  ·rw[if_neg q1] at ei
   by_cases q2:i'=j
   ·rw[if_pos q2] at ei'
    cases ei'
    have:=O.bnd _ _ ei;omega
   ·rw[if_neg q2] at ei'
    exact O.inj _ _ _ ei ei'
theorem oT {mask:Nat}(hm:Msk mask):∀(l:List Int) (owner:Array (Option Nat)) (hs:List Int),Own mask owner hs->hs.length+l.length<=mask+1 →
    ∃owner',l.foldl (λacc h=>do
      let (owner,k) ← acc
      let j ← SetTable.layClean.free mask owner (turns mask) (bits h%(mask+1)) (bits h)
      pure (owner.setIfInBounds j (some k),k+1)) (some (owner,hs.length))=some (owner',hs.length+l.length)/\Own mask owner' (hs++l)
  | [],owner,hs,O,_=>⟨owner,rfl,by rw[Cf];exact O⟩
  | h :: l,owner,hs,O,hl=>by
    rw[Bs] at hl
    obtain ⟨j,hj,O'⟩:=O.step hm h (by omega)
    obtain ⟨owner',e,O''⟩:=oT hm l _ _ O' (by rw[Bj,BV];omega)
    refine ⟨owner',?_,by rw[BZ] at O'';exact O''⟩
    rw[Js]
    have:(do
      let (owner,k) ← some (owner,hs.length)
      let j ← SetTable.layClean.free mask owner (turns mask) (bits h%(mask+1)) (bits h)
      pure (owner.setIfInBounds j (some k),k+1):Option (Array (Option Nat)×Nat))=some (owner.setIfInBounds j (some hs.length),(hs++[h]).length):=by
      show (SetTable.layClean.free mask owner (turns mask) (bits h%(mask+1)) (bits h)).bind _=_
      rw[hj,Bj]
      rfl
    rw[this,e]
    rw[Bj,BV,Bs]
    congr 2
    omega
theorem oU {mask:Nat}(hm:Msk mask)(hs:Array Int)(hl:hs.size<=mask+1):∃owner,SetTable.layClean mask hs=some owner/\Own mask owner hs.toList:=by
  have O0:Own mask (Array.replicate (mask+1) none) []:=by
    refine ⟨by simp,λk h e=>by simp at e,λj k e =>?_,λi j k e =>?_⟩
    · rw[GY] at e;split at e <;> cases e
    · rw[GY] at e;split at e <;> cases e
  obtain ⟨owner,e,O⟩:=oT hm hs.toList _ [] O0 (by rw[Cq,Bl];omega)
  refine ⟨owner,?_,by rw[Fy] at O;exact O⟩
  unfold SetTable.layClean
  rw[<- Array.foldl_toList]
  have e':hs.toList.foldl (λacc h=>do
      let (owner,k) ← acc
      let j ← SetTable.layClean.free mask owner (turns mask) (bits h%(mask+1)) (bits h)
      pure (owner.setIfInBounds j (some k),k+1)) (some (Array.replicate (mask+1) none,0))=some (owner,0+hs.toList.length):=e
  rw[e']
  rfl
theorem filterMap_get {α β:Type}{f:α -> Option β}:∀(l:List α),(∀x∈l,(f x).isSome=true)->∀i:Nat,(l.filterMap f)[i]? = l[i]?.bind f
 | [],_,i=>by simp
 | x :: l,h,i=>by
  obtain ⟨y,hy⟩:=Fp.mp (h x Br)
  rw[List.filterMap_cons_some hy]
  cases i with
  | zero=>simp[hy]
  | succ i =>
   rw[EB,EB]
   exact filterMap_get l (λz hz=>h z (BG _ hz)) i
theorem x9 {mask:Nat}(hm:Msk mask)(finger moves:Nat)(led plain:Bool)(es:Array (Int×Bh))(hl:es.size<=mask) :
  ∃t order,SetTable.laid mask finger moves led plain (es.map (·.1))=some (t,order)/\order.toList.Perm (Cc es.size)/\Tab t ((order.filterMap (es[·]?)).map (·.1))/\(order.filterMap (es[·]?)).toList.Perm es.toList/\t.led=led/\t.plain=plain/\t.mask=mask:=by
 obtain ⟨owner,e,O⟩:=oU hm (es.map (·.1)) (by rw[Di];omega)
 refine ⟨_,_,by unfold SetTable.laid;rw[e];rfl,?_⟩
 generalize hlive:((Cc (mask+1)).filterMap λj=>(owner.getD j none).map (j, ·))=live
 have mem:∀j k,(j,k)∈live↔owner[j]? = some (some k):=λj k=>by
  rw[<- hlive,EO]
  constructor
  ·rintro ⟨a,ha,ea⟩
   rw[Dz] at ea
   cases ho:owner[a]? with
   | none=>rw[ho] at ea;cases ea
   | some x =>
    rw[ho] at ea
    cases x with
    | none=>cases ea
    | some k'=>cases ea;exact ho
  ·intro ho
   refine ⟨j,?_,?_⟩
   ·rw[Cu, <- O.size];exact gj ho
   ·rw[Dz,ho];rfl
 have pw:live.Pairwise (λa b=>a.1<b.1):=by
  rw[<- hlive,List.pairwise_filterMap]
  refine Ka (λ{a b} hab x hx y hy =>?_) Ho
  have hx':x.1=a:=by cases ho:owner.getD a none with
   | none=>rw[ho] at hx;cases hx
   | some k=>rw[ho] at hx;cases hx;rfl
  have hy':y.1=b:=by cases ho:owner.getD b none with
   | none=>rw[ho] at hy;cases hy
   | some k=>rw[ho] at hy;cases hy;rfl
  rw[hx',hy'];exact hab
 have nd:(live.map (·.2)).Nodup:=by
  unfold List.Nodup
  rw[B0]
  refine Fs (λ{a b} ha hb hab q =>?_) pw
  have:=O.inj a.1 b.1 a.2 ((mem _ _).mp ha) (by rw[q];exact (mem _ _).mp hb)
  omega
 have hlen:(es.map (·.1)).toList.length=es.size:=by rw[Bl,Di]
 have perm:(live.map (·.2)).Perm (Cc es.size):=by
  rw[Fb nd Jj]
  intro k
  rw[Cu,Bw]
  constructor
  ·rintro ⟨⟨j,k'⟩,hm',rfl⟩
   have:=O.bnd _ _ ((mem _ _).mp hm')
   rw[hlen] at this
   exact this
  ·intro hk
   obtain ⟨j,_,_,ej,_⟩:=O.cov k _ (BA (by rw[hlen];exact hk))
   exact ⟨(j,k),(mem _ _).mpr ej,rfl⟩
 have all:∀x∈live.map (·.2),(es[x]?).isSome=true:=λx hx=>by
  have:=(perm.mem_iff).mp hx
  rw[Cu] at this
  rw[Cw this];rfl
 have tl:(live.map (·.2)).toArray.toList=live.map (·.2):=rfl
 have ll:live.length=es.size:=by have:=perm.length_eq;rw[Bg,DG] at this;exact this
 have fm:((live.map (·.2)).toArray.filterMap (es[·]?)).toList=(live.map (·.2)).filterMap (es[·]?):=by simp
 have fl:((live.map (·.2)).filterMap (es[·]?)).Perm es.toList:=by
  have p1:=perm.filterMap (es[·]?)
  have:(Cc es.size).filterMap (es[·]?)=es.toList:=by
   apply FK
   intro i
   rw[filterMap_get _ (λx hx=>by rw[Cu] at hx;rw[Cw hx];rfl)]
   by_cases hi:i<es.size
   ·rw[List.getElem?_range hi,Bv];rfl
   ·rw[Eb (by rw[DG];omega),Eb (by rw[Bl];omega)];rfl
  rw[this] at p1
  exact p1
 refine ⟨perm,?_,by rw[fm];exact fl,rfl,rfl,rfl⟩
 have sz:(((live.map (·.2)).toArray.filterMap (es[·]?)).map (·.1)).size=es.size:=by
  rw[Di, <- Bl,fm,fl.length_eq,Bl]
 have occ_of:∀j,ocw owner j->occ { mask:=mask,place:=(live.map (·.1)).toArray,dummies := #[],finger:=finger,led:=led,moves:=moves,plain:=plain } j:=by
  rintro j ⟨k,ek⟩
  obtain ⟨i,hi,ei⟩:=HZ ((mem j k).mpr ek)
  refine ⟨i,?_⟩
  show (live.map (·.1)).toArray[i]? = some j
  rw[Ck,BQ,BA hi,ei]
  rfl
 refine ⟨rfl,λi j a b ea eb hij =>?_,?_,λi j ej =>?_,hm,by rw[sz];exact hl,λi j h ej eh =>?_⟩
 ·have ea':(live.map (·.1)).toArray[i]? = some a:=ea
  have eb':(live.map (·.1)).toArray[j]? = some b:=eb
  rw[Ck] at ea' eb'
  have pw':(live.map (·.1)).Pairwise (· < ·):=by rw[B0];exact pw
  obtain ⟨hi,xi⟩:=Bt.mp ea'
  obtain ⟨hj,xj⟩:=Bt.mp eb'
  rw[<- xi, <- xj]
  exact Ff.mp pw' i j hi hj hij
 ·show (live.map (·.1)).toArray.size=_
  rw[sz,Bm,Bg,ll]
 ·have ej':(live.map (·.1)).toArray[i]? = some j:=ej
  rw[Ck,BQ] at ej'
  cases hx:live[i]? with
  | none=>rw[hx] at ej';cases ej'
  | some x =>
   rw[hx] at ej'
   cases ej'
   have:=gj ((mem x.1 x.2).mp (B4 hx))
   show x.1<=mask
   rw[O.size] at this
   omega
 ·have ej':(live.map (·.1)).toArray[i]? = some j:=ej
  rw[Ck,BQ] at ej'
  cases hx:live[i]? with
  | none=>rw[hx] at ej';cases ej'
  | some x =>
   rw[hx] at ej'
   cases ej'
   have ho:=(mem x.1 x.2).mp (B4 hx)
   have hk:=O.bnd _ _ ho
   rw[Array.getElem?_map, <- Bv,fm,filterMap_get _ all,BQ,hx] at eh
   have eh':(es[x.2]?).map (·.1)=some h:=eh
   obtain ⟨j',n,q,a,b,c⟩:=O.cov x.2 h (by rw[FZ,BQ,Bv];exact eh')
   obtain rfl:=O.inj _ _ _ ho a
   exact ⟨n,q,b.mono occ_of,c⟩
open PySem PySem.SetTable PyProof.Rows
section
variable  {prog:BD}{w:Cb}{A:B9}{E:Bh->Bi->Prop}{s:Bi}
def aW (es:Array (Int×Bh))(ep:Nat)(t:SetTable):Obj:={ cls :=.type "set",dict:=none,data :=.set es ep t }
theorem oV {a:Addr}{es:Array (Int×Bh)}{ep:Nat}{t:SetTable}{Q:(Array (Int×Bh)×Nat×SetTable)->Bi->Prop}(ho:s.heap.get? a=some (aW es ep t))(T:Tab t (es.map (·.1)))(h:Q (es,ep,t) s) :
  BL (B1 prog w) A (setState a) Q E s:=wpAny_setState_of ho rfl (by have:=T.fits;rwa [Di] at this) h
end
open PySem PySem.SetTable PyProof.Rows
section
variable  {prog:BD}{w:Cb}{A:B9}{E:Bh->Bi->Prop}{s:Bi}
def fq (w:Cb)(h:Heap)(a:Addr)(es:Array (Int×Bh)):Prop :=
 ∃ep t,h.get? a=some (aW es ep t)/\Tab t (es.map (·.1))/\es.size*5<t.mask*3/\t.led = !w.params.followText "set-order" /\ t.plain=true
theorem fq.at {h h':Heap}{a:Addr}{es:Array (Int×Bh)}(x:fq w h a es)(e:∀o,h.get? a=some o->h'.get? a=some o):fq w h' a es :=
 let ⟨ep,t,ho,r⟩:=x;⟨ep,t,e _ ho,r⟩
theorem vY {m n:Nat}(hm:Msk m)(h1:n*5<m*3)(h2:(n+1)*5≥m*3)(h3:n<1000):Msk (sizeAbove (grown (n+1))-1)/\n+1<=sizeAbove (grown (n+1))-1/\(n+1)*5<(sizeAbove (grown (n+1))-1)*3/\sizeAbove (grown (n+1))<=2048:=by
 have c:n=4\/n=18\/n=76\/n=306:=by
  rcases hm with rfl | rfl | rfl | rfl | rfl <;> omega
 unfold Msk
 rcases c with rfl | rfl | rfl | rfl <;> decide
theorem uD:2048<=BJ:=by rw[Hf];omega
theorem oW {a:Addr}{es es':Array (Int×Bh)}{ep:Nat}{t t':SetTable}{Q:Unit->Bi->Prop}(ho:s.heap.get? a=some (aW es ep t))(hz:es'.size<=2048)
  (h:∀h',Heap.SameBut a s.heap h'->h'.get? a=some (aW es' (ep+1) t')->Q () { s with heap:=h' }):BL (B1 prog w) A (storeSet a es' t') Q E s:=by
 refine wpAny_storeSet_of (o:=aW es ep t) ho rfl ?_ (BS hz uD)
 refine h _ (EA s.heap a _) ?_
 have:=CB (Obj.putSet es' t') ho (by rw[putSet_of es' t' (o:=aW es ep t) rfl];rfl)
 rw[putSet_of es' t' (o:=aW es ep t) rfl] at this
 exact this
theorem Tab.tooFull {t:SetTable}{hs:Array Int}(T:Tab t hs):t.tooFull=decide (hs.size*5≥t.mask*3):=by
 unfold SetTable.tooFull;rw[T.fill]
theorem uE {t:SetTable}{es:Array (Int×Bh)}(T:Tab t (es.map (·.1))){n:Nat}(hn:es.size=n+1)(h1:n*5<t.mask*3)(h2:(n+1)*5≥t.mask*3)(h3:n<1000) :
  ∃t' order,t.relaid (es.map (·.1)) (grown (n+1))=some (t',order)/\order.toList.Perm (Cc es.size)/\Tab t' ((order.filterMap (es[·]?)).map (·.1))/\(order.filterMap (es[·]?)).toList.Perm es.toList/\t'.led=t.led/\t'.plain=t.plain/\(n+1)*5<t'.mask*3:=by
 obtain ⟨k1,k2,k3,k4⟩:=vY T.msk h1 h2 h3
 obtain ⟨t',order,e,pm,T',pe,l,p,m⟩:=x9 k1 t.finger (t.movedTo (sizeAbove (grown (n+1))-1)) t.led t.plain es (by omega)
 exact ⟨t',order,e,pm,T',pe,l,p,by rw[m];exact k3⟩
end
open PySem PySem.SetTable PyProof.Rows
section
variable  {prog:BD}{w:Cb}{A:B9}{E:Bh->Bi->Prop}{s:Bi}
def ElI (e:Int×Bh)(k:Int):Prop:=∃t,e=(hashInt k,Ds k t)
theorem uF {es:Array (Int×Bh)}(els:∀e∈es,∃k,ElI e k):ElemsOf (intKind prog w) es.toList:=by
 intro e he
 obtain ⟨k,t,rfl⟩:=els e (Ci.mp he)
 exact ⟨⟨k,HI _ _ _ _,rfl⟩,rfl⟩
theorem uG {t:SetTable}{es:Array (Int×Bh)}(T:Tab t (es.map (·.1)))(h:Int)(x:Bh){n:Nat}{q:Probe}(hn:n<10*turns t.mask)(W:Way (occ t) t.mask n (start t.mask h) q)(he:¬ occ t q.j)(hq:q.j<=t.mask)(hz:es.size+1<=t.mask) :
  layNew t es h x=(insertAt es (below t.place q.j) (h,x),{ t with place:=insertAt t.place (below t.place q.j) q.j },false,false):=by
 have hf:t.freeSlot h=some (q.j,false):=by
  unfold SetTable.freeSlot
  rcases vX T (H:=λ_=>h+1) (h:=h) W he hn rfl with ⟨g,_⟩ | ⟨_,_,i,_,_,_,h1,_⟩
  ·rw[show t.probe (λ_=>h+1) h (t.probeStart h)=some (.empty q.j none) from g]
   rfl
  ·have:h+1=h:=h1
   omega
 have T':=T.put W he hq (by rw[Di];exact hz)
 rw[<- iz es (below t.place q.j) (h,x) (·.1)] at T'
 have ft:=T'.fits
 rw[Di] at ft
 unfold layNew
 rw[hf]
 dsimp only
 rw[T.zQ]
 dsimp only
 unfold SetTable.orStandIn
 rw[if_pos ft,ft]
 rfl
theorem oX {t:SetTable}{es:Array (Int×Bh)}{n:Nat}{t':SetTable}{order:Array Nat}(e:t.relaid (es.map (·.1)) n=some (t',order))(pm:order.toList.Perm (Cc es.size))(T':Tab t' ((order.filterMap (es[·]?)).map (·.1))) :
  relayAll t es n=(order.filterMap (es[·]?),t',false):=by
 unfold relayAll
 rw[e]
 dsimp only
 have c:coversAll order es.size=true:=by unfold coversAll;rw[List.isPerm_iff];exact pm
 have f:=T'.fits
 rw[Di] at f
 rw[c,f]
 rfl
theorem add_int {a:Addr}{es:Array (Int×Bh)}{k:Int}{tok:Tok}{Q:Bool->Bi->Prop}(I:fq w s.heap a es)(els:∀e∈es,∃k',ElI e k')(hz:es.size<1000)
  (hin:(∃e∈es,ElI e k)->Q false s)
  (hnew:(¬ ∃e∈es,ElI e k)->∀h' es',Heap.SameBut a s.heap h'->fq w h' a es'->es'.toList.Perm ((hashInt k,.int k tok) :: es.toList)->Q true { s with heap:=h' }) :
  BL (B1 prog w) A (setAddHashed a (.int k tok) (hashInt k)) Q E s:=by
 obtain ⟨ep,t,ho,T,rm,hl,hp⟩:=I
 have hel:=uF (prog:=prog) (w:=w) els
 have hb:es.size<scanBound:=by unfold scanBound;omega
 have hf:t.fits es.size=true:=by have:=T.fits;rwa [Di] at this
 unfold setAddHashed setAddHashedIn
 refine CG (Bd (oV ho T ?_))
 dsimp only
 rw[byScan_of (knd:=intKind prog w) rfl hb hel]
 simp only[↓reduceIte]
 unfold setAddByScan
 refine Bd ?_
 refine Bd (D0 ?_)
 refine Bd (wpAny_setScan_of (knd:=intKind prog w) (k:=k) (HI _ _ _ _) ho rfl hf hel ?_)
 cases hr:List.findIdx? (λe=>(intKind prog w).is k e.2) es.toList with
 | some j =>
  dsimp only
  obtain ⟨hj,hpj,_⟩:=List.findIdx?_eq_some_iff_getElem.mp hr
  refine Bk (Bk (hin ⟨es.toList[j],Ci.mp (EI hj),?_⟩))
  obtain ⟨k',t',e'⟩:=els es.toList[j] (Ci.mp (EI hj))
  obtain ⟨u,e2⟩:=II hpj
  rw[e'] at e2
  cases e2
  exact ⟨_,e'⟩
 | none =>
  dsimp only
  have nx:¬ ∃e∈es,ElI e k:=by
   rintro ⟨e,he,t',rfl⟩
   have:=List.findIdx?_eq_none_iff.mp hr _ (Ci.mpr he)
   rw[HI] at this
   cases this
  have hgw:∀(b:Bool) {s₁:Bi} {Q':Unit->Bi->Prop},Q' () s₁->BL (B1 prog w) A (match b with | true=>rule "set.scan.the-table-gave-way" | false=>pure ()) Q' E s₁ :=
   λb s₁ Q' hq=>by cases b <;> first | exact Bk hq | exact D0 hq
  obtain ⟨n,q,hn,W,he,hq,hd⟩:=T.ends (hashInt k)
  have hz':es.size+1<=t.mask:=by
   rcases T.msk with e | e | e | e | e <;> rw[e] at rm ⊢ <;> omega
  rw[uG T (hashInt k) (.int k tok) hn W he hq hz']
  dsimp only
  refine Bd (Bk (a:=()) ?_)
  have T':=T.put W he hq (by rw[Di];exact hz')
  rw[<- iz es (below t.place q.j) (hashInt k,Ds k tok) (·.1),hp] at T'
  rw[hp]
  simp only[↓reduceIte]
  refine Bd ?_
  rw[show hashByValue 8 (.int k tok)=pure true from rfl]
  refine Bk ?_
  simp only[↓reduceIte]
  have sz:(insertAt es (below t.place q.j) (hashInt k,Ds k tok)).size=es.size+1:=cC _ _ _
  refine Bd (oW ho (by rw[sz];omega) λh1 sb1 ho1 =>?_)
  have pm1:=insertAt_perm es (below t.place q.j) (hashInt k,Ds k tok)
  rw[T'.tooFull,Di,sz]
  by_cases full:(es.size+1)*5≥t.mask*3
  ·rw[if_pos (by simpa using full)]
   obtain ⟨t2,order,e2,pm2,T2,pe2,l2,p2,rm2⟩:=uE T' sz (n:=es.size) (by simpa using rm) full hz
   rw[oX e2 pm2 T2]
   dsimp only
   have z2:(order.filterMap ((insertAt es (below t.place q.j) (hashInt k,Ds k tok))[·]?)).size=es.size+1:=by
    rw[<- Bl,pe2.length_eq,Bl,sz]
   refine Bd (Bk (a:=()) ?_)
   refine Bd (oW (s:={ s with heap:=h1 }) ho1 (by rw[z2];omega) λh2 sb2 ho2 =>?_)
   refine Bk (Bk (hnew nx h2 _ (sb1.trans sb2) ⟨_,_,ho2,T2,by rw[z2];exact rm2,by rw[l2];exact hl,by rw[p2]⟩ (pe2.trans pm1)))
  ·rw[if_neg (by simpa using full)]
   refine Bk (Bk (hnew nx h1 _ sb1 ⟨_,_,ho1,T',?_,hl,rfl⟩ pm1))
   rw[sz]
   exact Fi full
end
open PySem PySem.SetTable PyProof.Rows PySem.Spec
def TS (h h':Heap):Prop:=∀b o,o.cls = .type "tuple" -> h.get? b=some o->h'.get? b=some o
structure Kd (prog:BD)(w:Cb)(κ:Type) where
 El:Heap->Bh -> κ -> Prop
 hash:κ -> Int
 room:B9->Prop
 keeps:∀{h h':Heap} {v:Bh} {k:κ},El h v k->TS h h'->El h' v k
 inj:∀{h:Heap} {v:Bh} {k k':κ},El h v k->El h v k'->k=k'
 add:∀{A:B9} {E:Bh->Bi->Prop} {s:Bi} {a:Addr} {es:Array (Int×Bh)} {v:Bh} {k:κ} {Q:Bool->Bi->Prop},room A->fq w s.heap a es->(∀e∈es,∃k',e.1=hash k'/\El s.heap e.2 k')->El s.heap v k->es.size<1000 →
  ((∃e∈es,El s.heap e.2 k)->∀tk,s.toks<=tk->Q false { s with toks:=tk }) →
  ((¬ ∃e∈es,El s.heap e.2 k)->∀h' es' tk,s.toks<=tk->Heap.SameBut a s.heap h'->fq w h' a es'->es'.toList.Perm ((hash k,v) :: es.toList)->Q true { s with heap:=h',toks:=tk }) →
  BL (B1 prog w) A (setAdd a v) Q E s
def sR (prog:BD)(w:Cb):Kd prog w Int where
 El:=λ_ v k=>∃t,v = .int k t
 hash:=hashInt
 room:=λ_=>True
 keeps:=λx _=>x
 inj:=λ⟨t,e⟩ ⟨t',e'⟩=>by rw[e] at e';injection e'
 add:=by
  intro A E s a es v k Q _ I els hv hz hin hnew
  obtain ⟨t,rfl⟩:=hv
  unfold setAdd
  refine CG (Bd ((intKind prog w).pyHash (k:=k) (HI _ _ _ _) ?_))
  have els':∀e∈es,∃k',ElI e k':=λe he=>by
   obtain ⟨k',e1,t',e2⟩:=els e he
   exact ⟨k',t',Ik e1 e2⟩
  have conv:∀e∈es,(ElI e k↔∃t,e.2=Ds k t):=λe he=>by
   constructor
   ·rintro ⟨t',rfl⟩;exact ⟨t',rfl⟩
   ·rintro ⟨t',e2⟩
    obtain ⟨k',e1,t2,e3⟩:=els e he
    rw[e2] at e3;injection e3 with e3 e4;subst e3
    exact ⟨t',Ik e1 e2⟩
  refine add_int (s:={ s with toks:=s.toks+1 }) I els' hz (λx=>hin ?_ _ (FH _)) λx h' es' sb I' pm=>hnew ?_ h' es' _ (FH _) sb I' pm
  ·obtain ⟨e,he,x⟩:=x;exact ⟨e,he,(conv e he).mp x⟩
  ·rintro ⟨e,he,y⟩;exact x ⟨e,he,(conv e he).mpr y⟩
section
variable  {prog:BD}{w:Cb}{κ:Type}(kd:Kd prog w κ)
structure Good (h:Heap)(es:Array (Int×Bh))(l:List κ):Prop where
 el:∀e∈es,∃k,k∈l/\e.1=kd.hash k/\kd.El h e.2 k
 all:∀k∈l,∃e∈es,kd.El h e.2 k
 dis:es.toList.Pairwise (λe e'=>∀k,kd.El h e.2 k->¬ kd.El h e'.2 k)
 len:es.size<=l.length
variable  {kd}
theorem Good.keeps {h h':Heap}{es:Array (Int×Bh)}{l:List κ}(G:Good kd h es l)(t:TS h h'):Good kd h' es l:=by
 refine ⟨λe he =>?_,λk hk =>?_,?_,G.len⟩
 ·obtain ⟨k,a,b,c⟩:=G.el e he;exact ⟨k,a,b,kd.keeps c t⟩
 ·obtain ⟨e,a,b⟩:=G.all k hk;exact ⟨e,a,kd.keeps b t⟩
 ·refine Fs (λ{e e'} he he' x k y z =>?_) G.dis
  obtain ⟨k1,_,_,c1⟩:=G.el e (Ci.mp he)
  obtain ⟨k2,_,_,c2⟩:=G.el e' (Ci.mp he')
  obtain rfl:=kd.inj y (kd.keeps c1 t)
  obtain rfl:=kd.inj z (kd.keeps c2 t)
  exact x _ c1 c2
theorem Good.nil (h:Heap):Good kd h #[] []:=⟨λe he=>(by simp at he),λk hk=>(by cases hk),(by simp),Bn _⟩
theorem Good.same {h:Heap}{es:Array (Int×Bh)}{l:List κ}(G:Good kd h es l){k:κ}(x:∃e∈es,kd.El h e.2 k):Good kd h es (l++[k]):=by
 refine ⟨λe he =>?_,λk' hk =>?_,G.dis,by rw[Bj];have:=G.len;omega⟩
 ·obtain ⟨k,a,b⟩:=G.el e he;exact ⟨k,Eg _ a,b⟩
 ·rcases BC.mp hk with hk | hk
  ·exact G.all k' hk
  ·rw[Bz] at hk;subst hk;exact x
theorem Good.more {h:Heap}{es es':Array (Int×Bh)}{l:List κ}(G:Good kd h es l){k:κ}{v:Bh}(hv:kd.El h v k)(x:¬ ∃e∈es,kd.El h e.2 k)(pm:es'.toList.Perm ((kd.hash k,v) :: es.toList)):Good kd h es' (l++[k]):=by
 have mem:∀e,e∈es'↔e=(kd.hash k,v)\/e∈es:=λe=>by
  rw[<- Ci,pm.mem_iff,BR,Ci]
 refine ⟨λe he =>?_,λk' hk =>?_,?_,?_⟩
 ·rcases (mem e).mp he with rfl | he
  ·exact ⟨k,BO _ (Bz.mpr rfl),rfl,hv⟩
  ·obtain ⟨k,a,b⟩:=G.el e he;exact ⟨k,Eg _ a,b⟩
 ·rcases BC.mp hk with hk | hk
  ·obtain ⟨e,a,b⟩:=G.all k' hk;exact ⟨e,(mem e).mpr (.inr a),b⟩
  ·rw[Bz] at hk;subst hk;exact ⟨_,(mem _).mpr (.inl rfl),hv⟩
 ·rw[pm.pairwise_iff (λ{a b} z k y1 y2=>z k y2 y1)]
  refine List.Pairwise.cons (λe he k' y1 y2 =>?_) G.dis
  obtain rfl:=kd.inj y1 hv
  exact x ⟨e,Ci.mp he,y2⟩
 ·have:=pm.length_eq
  rw[Bs,Bl,Bl] at this
  rw[Bj,BV]
  have:=G.len
  omega
end
section
variable  {prog:BD}{w:Cb}{A:B9}{R:Result->Bi->Prop}{I:Addr}{fp:List Addr}{G:Array GenState->Array GenState->Prop}{n:Nat}{P:Nat->Bh->Prop}{St:Nat->Bi->Prop}{κ:Type}{kd:Kd prog w κ}
theorem oY (W:WalksS prog w A.in1 I fp [I] G n P St)(hrm:kd.room A.in1)(hI:∀i s,St i s->∃o,s.heap.get? I=some o/\o.cls ≠ .type "tuple")(S:Addr)(hSf:S∉fp)(hIf:I∈fp)(ks:List κ)(hn:n=ks.length)(hb:n<1000) :
  ∀(k i:Nat) (s:Bi) (es:Array (Int×Bh)),n-i=k->i<=n->St i s->(∀j v,P j v->∃q,ks[j]? = some q/\kd.El s.heap v q) →
   fq w s.heap S es->Good kd s.heap es (ks.take i) →
   (∀s' es',Moved [S,I] G s s'->fq w s'.heap S es'->Good kd s'.heap es' ks->R (.ok (.ret .none)) s') →
   GR (B1 prog w) A (.builtin "set.update.loop" ⟨[.ref S,.ref I],[]⟩) R s:=by
 have hSI:S≠I:=λe=>hSf (e ▸ hIf)
 have ts:∀i s s',St i s->Moved [I] G s s'->TS s.heap s'.heap:=λi s s' hst hm b o hc e=>by
  refine hm.heap b o (λhb =>?_) e
  rw[Bz] at hb
  obtain ⟨o',e',c'⟩:=hI i s hst
  rw[hb,e'] at e;cases e;exact c' hc
 intro k
 induction k with
 | zero =>
  intro i s es hk hi hst hv hS hG hR
  have hin:i=n:=by omega
  subst hin
  refine CJ G8 ?_
  rw[CF EC _]
  show BL _ A.in1 (pyNext (.ref I) >>= _) _ _ s
  refine Bd (W.done s _ _ hst λs' hm =>?_)
  show BL _ A.in1 (ret DI) _ _ s'
  rw[B5 (by omega)] at hG
  exact Bk (hR s' es (hm.mono λb hb=>by rw[Bz] at hb;simp[hb]) (hS.at λo e=>hm.heap S o (by rw[Bz];exact hSI) e) (hG.keeps (ts _ _ _ hst hm)))
 | succ k ih =>
  intro i s es hk hi hst hv hS hG hR
  have hlt:i<n:=by omega
  refine CJ G8 ?_
  rw[CF EC _]
  show BL _ A.in1 (pyNext (.ref I) >>= _) _ _ s
  refine Bd (W.item i s _ _ hlt hst λv s' hP hst' hm =>?_)
  have t0:=ts _ _ _ hst hm
  obtain ⟨q,eq,hq⟩:=hv i v hP
  have hS':fq w s'.heap S es:=hS.at λo e=>hm.heap S o (by rw[Bz];exact hSI) e
  have hG':=hG.keeps t0
  have tk:ks.take (i+1)=ks.take i++[q]:=by rw[List.take_succ,eq];rfl
  show BL _ A.in1 (JB [v] (setAdd S v) >>= _) _ _ s'
  have hm2:Moved [S,I] G s s':=hm.mono λb hb=>by rw[Bz] at hb;simp[hb]
  refine Bd (CG (kd.add hrm hS' (λe he =>?_) (kd.keeps hq t0) ?_ (λx tk' htk =>?_) λx h' es' tk' htk sb I' pm =>?_))
  ·obtain ⟨k',_,a,b⟩:=hG'.el e he;exact ⟨k',a,b⟩
  ·have:=hG'.len;rw[CA] at this;omega
  ·refine Bk ⟨DL EC _,ih (i+1) _ es (by omega) hlt (W.frame _ s' _ _ hst' htk λb _ o e=>e) (λj v' p =>?_) hS' (by rw[tk];exact hG'.same x) λs'' es'' hm'' a b =>?_⟩
   ·obtain ⟨q',a,b⟩:=hv j v' p;exact ⟨q',a,kd.keeps b t0⟩
   ·exact hR s'' es'' (JX W.gtrans (hm2.then_heap htk λb o _ e=>e) hm'') a b
  ·have t1:TS s'.heap h':=λb o hc e=>by
    rw[sb.2 b (λhb=>by
     obtain ⟨ep,t,ho,_⟩:=hS'
     rw[hb,ho] at e;cases e;simp[aW] at hc)]
    exact e
   refine Bk ⟨DL EC _,ih (i+1) _ es' (by omega) hlt (W.frame _ s' _ _ hst' htk λb hb o e =>?_) (λj v' p =>?_) I' (by rw[tk];exact (hG'.more (kd.keeps hq t0) x pm).keeps t1) λs'' es'' hm'' a b =>?_⟩
   ·rw[sb.2 b (λh:b=S=>hSf (h ▸ hb))];exact e
   ·obtain ⟨q',a,b⟩:=hv j v' p;exact ⟨q',a,kd.keeps (kd.keeps b t0) t1⟩
   ·refine hR s'' es'' (JX W.gtrans (hm2.then_heap htk λb o hb e =>?_) hm'') a b
    rw[sb.2 b (λh:b=S=>hb (by rw[h];exact Br))];exact e
end
section
variable  {prog:BD}{w:Cb}{A:B9}{E:Bh->Bi->Prop}{s:Bi}
theorem sT (a:Bh){Q₁:Bh->Bi->Prop}
    (h:Q₁ (.ref s.heap.objs.size) { s with heap:=s.heap.push (aW #[] 0 (.fresh 0 0 (!w.params.followText "set-order"))) }) :
    GR (B1 prog w) A (.call (.builtin "set.__new__") ⟨[.type "set",a],[]⟩) (wants Q₁ E) s:=by
  refine HF ?_
  show BL _ A.in1 (do checkBuiltinCall "set.__new__" ⟨[.type "set",a],[]⟩;again (.builtin "set.__new__" ⟨[.type "set",a],[]⟩)) _ _ s
  refine Bd (DH (PySem.F.newCall_set_1 a) (Bk ⟨DL Jw _,CJ F.entry_set_new ?_⟩))
  rw[CF Jw _]
  unfold Builtin.«set.__new__» Builtin.Frozenset.newClass
  have hsub:=sub_set_self
  obtain ⟨hp,g,d,tk,os⟩:=s
  dsimp only
  wp_walk
  refine wpAny_askSetting (Bk ?_)
  dsimp only
  simp only[newObj]
  refine Bd (wpAny_alloc (Bk ?_))
  exact Bk h
theorem uH (led:Bool):Tab (.fresh 0 0 led) #[]:=by
 refine ⟨rfl,λi j a b e =>?_,rfl,λi j e =>?_,.inl rfl,BU _,λi j h e =>?_⟩ <;> (simp[SetTable.fresh] at e)
theorem j8 {h:Heap}{a:Addr}(ho:h.get? a=some (aW #[] 0 (.fresh 0 0 (!w.params.followText "set-order")))):fq w h a #[] :=
 ⟨0,_,ho,(by rw[Array.map_empty];exact uH _),(by show 0*5<7*3;decide),rfl,rfl⟩
theorem sub_tuple_set:isSubtype (.type "tuple") (.type "set")=pure false:=by rw[Ee];kernel_rfl
theorem sub_tuple_frozenset:isSubtype (.type "tuple") (.type "frozenset")=pure false:=by rw[Ee];kernel_rfl
end
open PySem PySem.SetTable PyProof.Rows PySem.Spec
section
variable  {prog:BD}{w:Cb}{A:B9}{E:Bh->Bi->Prop}{s:Bi}
set_option maxHeartbeats 3200000 in
theorem j9 {κ:Type}{kd:Kd prog w κ}{l:Addr}{items:Array Bh}{ks:List κ}{Q:Bh->Bi->Prop}
  (hh:A.handled=none) (hrm:kd.room A.in1.in1.in1) (hl:s.heap.IsTuple l items) (hz:items.size=ks.length) (hi:∀(i:Nat) v,items[i]? = some v->∃q,ks[i]? = some q/\kd.El s.heap v q) (hb:items.size<1000)
  (h:∀(h':Heap) (es:Array (Int×Bh)) (tk:Nat),s.toks<=tk->fq w h' s.heap.objs.size es->Good kd h' es ks →
   (∀b o,s.heap.get? b=some o->h'.get? b=some o)->Q (.ref s.heap.objs.size) { s with heap:=h',toks:=tk }) :
  BL (B1 prog w) A (call (.type "set") [.ref l]) Q E s:=by
 obtain ⟨c,tl,hmro⟩:=C0.mro
 have hmade:=C0.made
 have hsub:=C0.sub
 refine IT (HF ?_)
 show BL _ _ (callAny (.type "set") _) _ _ _
 refine Bk ⟨GA _ (by decide +kernel),CJ IQ ?_⟩
 rw[Ir (HG "set" [.ref l] []) rfl]
 have h1:=C0.notType
 have h2:=C0.canCreate
 have hct:=Hq (.ref l)
 repeat (any_goals (first | assumption | wp_step))
 have gd:(s.heap.push (aW #[] 0 (.fresh 0 0 (!w.params.followText "set-order")))).objs.size=s.heap.objs.size+1:=EK _ _
 refine Fu (sT (w:=w) (.ref l) (E:=E) (Q₁:=λobj s₁=>obj = .ref s.heap.objs.size/\s₁={ s with heap:=s.heap.push (aW #[] 0 (.fresh 0 0 (!w.params.followText "set-order"))) }) ⟨rfl,rfl⟩) λr s₁ hr =>?_
 cases r with
 | error e=>exact hr
 | ok fl =>
  cases fl with
  | ret obj =>
   obtain ⟨rfl,rfl⟩:=hr
   generalize hled:(!w.params.followText "set-order")=led at gd ⊢
   have hS:(s.heap.push (aW #[] 0 (.fresh 0 0 led))).get? s.heap.objs.size=some (aW #[] 0 (.fresh 0 0 led)):=Bp _ rfl
   have hT:Shared.TypeIs { s with heap:=s.heap.push (aW #[] 0 (.fresh 0 0 led)) } (.ref s.heap.objs.size) "set" :=⟨_,hS,rfl⟩
   have hli:=C0.init.lookup
   have hbi:=C0.init.bind (.ref s.heap.objs.size)
   repeat (any_goals (first | assumption | wp_step))
   refine Fu (HP (R:=wants (λr s₂=>r = .none/\∃h' es tk,s₂={ s with heap:=h',toks:=tk }/\s.toks<=tk ∧
     fq w h' s.heap.objs.size es/\Good kd h' es ks ∧
     (∀b o,s.heap.get? b=some o->h'.get? b=some o)) E) C0.init.plain Jk (check_set_init_1 hT ?_)) λr₂ s₂ hr₂ =>?_
   ·obtain ⟨ol,hol,hcl,nl,hdl⟩:=id hl
    obtain ⟨ocls,odict,odata,oslots⟩:=ol
    simp only at hcl hdl
    subst hcl;subst hdl
    have hol':(s.heap.push (aW #[] 0 (.fresh 0 0 led))).get? l=some { cls :=.type "tuple",dict:=odict,data :=.seq items nl,slots:=oslots }:=Bf _ hol
    have hsls:=sub_tuple_set
    have hslf:=sub_tuple_frozenset
    have hne:(Ew "tuple" == Ew "dict")=false:=by decide
    have hl1:(s.heap.push (aW #[] 0 (.fresh 0 0 led))).IsTuple l items:=⟨_,hol',rfl,nl,rfl⟩
    unfold Builtin.«set.__init__» noKeywords Builtin.Frozenset.updateFrom
    generalize hPI:pyIter=PI
    wp_walk
    subst hPI
    refine ET hl1 ?_
    refine Bd (FQ ?_)
    have hlS:l<s.heap.objs.size:=Bq hol
    have hh3:A.in1.in1.in1.handled=none:=by simp[hh]
    have hneI:l≠(s.heap.push (aW #[] 0 (.fresh 0 0 led))).objs.size:=by
     rw[gd];exact BI (CH hlS)
    have hSf:s.heap.objs.size∉[(s.heap.push (aW #[] 0 (.fresh 0 0 led))).objs.size,l]:=by
     rw[gd];simp only[BR,Bz,F1,or_false,not_or]
     exact ⟨BI (D6 _),EU hlS⟩
    refine oY (kd:=kd) ((JY hh3 _ l hneI items).toS) hrm (λi s' st =>?hI) s.heap.objs.size hSf Br ks hz hb (items.size-0) 0 _ #[] (by omega) (BU _)
     ⟨⟨_,Bp _ rfl,rfl,rfl⟩,(hl1.push _)⟩ ?hv (by subst hled;exact j8 (Bf _ hS)) (Good.nil _) ?hR
    case hI =>
     obtain ⟨o,ho,hc,_⟩:=st.1
     exact ⟨o,ho,by rw[hc];decide⟩
    case hv =>
     intro j v hv
     obtain ⟨q,e,x⟩:=hi j v hv
     exact ⟨q,e,kd.keeps x λb o _ e=>Bf _ (Bf _ e)⟩
    case hR =>
     intro s' es' hm hS' hG'
     obtain ⟨h',g',d',tk',os'⟩:=s'
     have eg:g'=s.gens:=hm.gens
     have ed:d'=s.drawn:=hm.drawn
     have eo:os'=s.os:=hm.os
     subst eg;subst ed;subst eo
     show BL _ _ _ _ _ _
     refine Bk ?_
     show BL _ _ (ret DI) _ _ _
     refine Bk ⟨rfl,h',es',tk',rfl,hm.toks,hS',hG',λb o e =>?_⟩
     have hbb:=Bq e
     have hb1:b≠s.heap.objs.size:=BI hbb
     have hb2:b≠(s.heap.push (aW #[] 0 (.fresh 0 0 led))).objs.size:=by
      rw[gd];exact BI (CH hbb)
     exact hm.heap b o (by simp only[BR,Bz,F1,or_false,not_or];exact ⟨hb1,hb2⟩) (Bf _ (Bf _ e))
   ·cases r₂ with
    | error e=>exact hr₂
    | ok fl₂ =>
     cases fl₂ with
     | ret r =>
      obtain ⟨rfl,h',es,tk,rfl,htk,hS',hG',hk'⟩:=hr₂
      repeat (any_goals (first | assumption | wp_step))
      exact h _ _ _ htk hS' hG' hk'
     | _=>exact hr₂.elim
  | _=>exact hr.elim
end
open PySem PySem.SetTable PyProof.Rows PySem.Spec
section
variable  {prog:BD}{w:Cb}{A:B9}{E:Bh->Bi->Prop}{s:Bi}
set_option maxHeartbeats 3200000 in
theorem call_set_list {κ:Type}{kd:Kd prog w κ}{l:Addr}{items:Array Bh}{ks:List κ}{Q:Bh->Bi->Prop}
  (hh:A.handled=none) (hrm:kd.room A.in1.in1.in1) (hl:s.heap.IsList l items) (hz:items.size=ks.length) (hi:∀(i:Nat) v,items[i]? = some v->∃q,ks[i]? = some q/\kd.El s.heap v q) (hb:items.size<1000)
  (h:∀(h':Heap) (es:Array (Int×Bh)) (tk:Nat),s.toks<=tk->fq w h' s.heap.objs.size es->Good kd h' es ks →
   (∀b o,s.heap.get? b=some o->h'.get? b=some o)->Q (.ref s.heap.objs.size) { s with heap:=h',toks:=tk }) :
  BL (B1 prog w) A (call (.type "set") [.ref l]) Q E s:=by
 obtain ⟨c,tl,hmro⟩:=C0.mro
 have hmade:=C0.made
 have hsub:=C0.sub
 refine IT (HF ?_)
 show BL _ _ (callAny (.type "set") _) _ _ _
 refine Bk ⟨GA _ (by decide +kernel),CJ IQ ?_⟩
 rw[Ir (HG "set" [.ref l] []) rfl]
 have h1:=C0.notType
 have h2:=C0.canCreate
 have hct:=Hq (.ref l)
 repeat (any_goals (first | assumption | wp_step))
 have gd:(s.heap.push (aW #[] 0 (.fresh 0 0 (!w.params.followText "set-order")))).objs.size=s.heap.objs.size+1:=EK _ _
 refine Fu (sT (w:=w) (.ref l) (E:=E) (Q₁:=λobj s₁=>obj = .ref s.heap.objs.size/\s₁={ s with heap:=s.heap.push (aW #[] 0 (.fresh 0 0 (!w.params.followText "set-order"))) }) ⟨rfl,rfl⟩) λr s₁ hr =>?_
 cases r with
 | error e=>exact hr
 | ok fl =>
  cases fl with
  | ret obj =>
   obtain ⟨rfl,rfl⟩:=hr
   generalize hled:(!w.params.followText "set-order")=led at gd ⊢
   have hS:(s.heap.push (aW #[] 0 (.fresh 0 0 led))).get? s.heap.objs.size=some (aW #[] 0 (.fresh 0 0 led)):=Bp _ rfl
   have hT:Shared.TypeIs { s with heap:=s.heap.push (aW #[] 0 (.fresh 0 0 led)) } (.ref s.heap.objs.size) "set" :=⟨_,hS,rfl⟩
   have hli:=C0.init.lookup
   have hbi:=C0.init.bind (.ref s.heap.objs.size)
   repeat (any_goals (first | assumption | wp_step))
   refine Fu (HP (R:=wants (λr s₂=>r = .none/\∃h' es tk,s₂={ s with heap:=h',toks:=tk }/\s.toks<=tk ∧
     fq w h' s.heap.objs.size es/\Good kd h' es ks ∧
     (∀b o,s.heap.get? b=some o->h'.get? b=some o)) E) C0.init.plain Jk (check_set_init_1 hT ?_)) λr₂ s₂ hr₂ =>?_
   ·obtain ⟨ol,hol,hcl,nl,hdl⟩:=id hl
    obtain ⟨ocls,odict,odata,oslots⟩:=ol
    simp only at hcl hdl
    subst hcl;subst hdl
    have hol':(s.heap.push (aW #[] 0 (.fresh 0 0 led))).get? l=some { cls :=.type "list",dict:=odict,data :=.seq items nl,slots:=oslots }:=Bf _ hol
    have hsls:=PySem.F.sub_list_set
    have hslf:=PySem.F.sub_list_frozenset
    have hne:(Ew "list" == Ew "dict")=false:=by decide
    have hl1:(s.heap.push (aW #[] 0 (.fresh 0 0 led))).IsList l items:=⟨_,hol',rfl,nl,rfl⟩
    unfold Builtin.«set.__init__» noKeywords Builtin.Frozenset.updateFrom
    generalize hPI:pyIter=PI
    wp_walk
    subst hPI
    refine FL hl1 ?_
    refine Bd (FQ ?_)
    have hlS:l<s.heap.objs.size:=Bq hol
    have hh3:A.in1.in1.in1.handled=none:=by simp[hh]
    have hneI:l≠(s.heap.push (aW #[] 0 (.fresh 0 0 led))).objs.size:=by
     rw[gd];exact BI (CH hlS)
    have hSf:s.heap.objs.size∉[(s.heap.push (aW #[] 0 (.fresh 0 0 led))).objs.size,l]:=by
     rw[gd];simp only[BR,Bz,F1,or_false,not_or]
     exact ⟨BI (D6 _),EU hlS⟩
    refine oY (kd:=kd) ((JO hh3 _ l hneI items).toS) hrm (λi s' st =>?hI) s.heap.objs.size hSf Br ks hz hb (items.size-0) 0 _ #[] (by omega) (BU _)
     ⟨⟨_,Bp _ rfl,rfl,rfl⟩,(hl1.push _)⟩ ?hv (by subst hled;exact j8 (Bf _ hS)) (Good.nil _) ?hR
    case hI =>
     obtain ⟨o,ho,hc,_⟩:=st.1
     exact ⟨o,ho,by rw[hc];decide⟩
    case hv =>
     intro j v hv
     obtain ⟨q,e,x⟩:=hi j v hv
     exact ⟨q,e,kd.keeps x λb o _ e=>Bf _ (Bf _ e)⟩
    case hR =>
     intro s' es' hm hS' hG'
     obtain ⟨h',g',d',tk',os'⟩:=s'
     have eg:g'=s.gens:=hm.gens
     have ed:d'=s.drawn:=hm.drawn
     have eo:os'=s.os:=hm.os
     subst eg;subst ed;subst eo
     show BL _ _ _ _ _ _
     refine Bk ?_
     show BL _ _ (ret DI) _ _ _
     refine Bk ⟨rfl,h',es',tk',rfl,hm.toks,hS',hG',λb o e =>?_⟩
     have hbb:=Bq e
     have hb1:b≠s.heap.objs.size:=BI hbb
     have hb2:b≠(s.heap.push (aW #[] 0 (.fresh 0 0 led))).objs.size:=by
      rw[gd];exact BI (CH hbb)
     exact hm.heap b o (by simp only[BR,Bz,F1,or_false,not_or];exact ⟨hb1,hb2⟩) (Bf _ (Bf _ e))
   ·cases r₂ with
    | error e=>exact hr₂
    | ok fl₂ =>
     cases fl₂ with
     | ret r =>
      obtain ⟨rfl,h',es,tk,rfl,htk,hS',hG',hk'⟩:=hr₂
      repeat (any_goals (first | assumption | wp_step))
      exact h _ _ _ htk hS' hG' hk'
     | _=>exact hr₂.elim
  | _=>exact hr.elim
end
open PySem PySem.SetTable PyProof.Rows Srt
section
variable  {prog:BD}{w:Cb}{A:B9}{E:Bh->Bi->Prop}{s:Bi}{O:Gd}{key:Bh->O.α}
end
end STab
namespace L2
open PySem PySem.Spec PyProof.Rows
section
variable  {X:Cx}
def oZ (w:Cb)(a:Addr)(ys:List V):HO :=.ext λh=>∃es,STab.fq w h a es/\Vals ys (es.toList.map (·.2))
theorem yb {prog:BD}{w:Cb}{H:Hp}{h:Heap}{a:Addr}{ys:List V}{es:Array (Int×Bh)}(I:STab.fq w h a es)(r:Vals ys (es.toList.map (·.2))):ba prog w (upd H a (oZ w a ys)) h a (oZ w a ys):=by
 refine ⟨⟨es,I,r⟩,?_,λh1 h2 ⟨es',I',r'⟩ k=>⟨es',I'.at k,r'⟩⟩
 obtain ⟨ep,t,ho,_⟩:=I
 exact ⟨_,ho⟩
theorem uI (hh:X.A.handled=none):cz X (.type "set") (λxs H Q=>∃(p:Addr) (ns:List Int),xs=[.ref p]/\(SqL X.K H p (ns.map V.int)\/SqT X.K H p (ns.map V.int))/\ns.length<1000 ∧
  ∀(a:Addr) (us:List Int),H a=none->(∀k,k∈us↔k∈ns)->us.Nodup->us.length<=ns.length->Q (.ref a) (upd H a (oZ X.w a (us.map V.int)))):=by
 intro pins s σ H xs vs Q I r h
 obtain ⟨p,ns,rfl,hs,hl,q⟩:=h
 obtain ⟨u,rfl,ru⟩:=vals1 r
 cases (show u=BN p from ru)
 have goal:∀(h':Heap) (es:Array (Int×Bh)) (tk:Nat),s.toks<=tk->STab.fq X.w h' s.heap.objs.size es->STab.Good (STab.sR X.prog X.w) h' es ns →
   (∀b o,s.heap.get? b=some o->h'.get? b=some o)->EP X pins σ Q (.ref s.heap.objs.size) { s with heap:=h',toks:=tk }:=by
  intro h' es tk _ S G k
  have sh:∀v∈es.toList.map (·.2),∃k t,v=Ds k t:=λv hv=>by
   obtain ⟨e,he,rfl⟩:=Bw.mp hv
   obtain ⟨k',_,_,t,e'⟩:=G.el e (Ci.mp he)
   exact ⟨k',t,e'⟩
  have ru:=iu (iS sh)
  have mem:∀k,k∈(es.toList.map (·.2)).map Srt.intOf↔k∈ns:=λk=>by
   constructor
   ·intro m
    obtain ⟨v,hv,rfl⟩:=Bw.mp m
    obtain ⟨e,he,rfl⟩:=Bw.mp hv
    obtain ⟨k',mk,_,t,e'⟩:=G.el e (Ci.mp he)
    rw[e'];exact mk
   ·intro m
    obtain ⟨e,he,t,e'⟩:=G.all k m
    exact Bw.mpr ⟨e.2,Bw.mpr ⟨e,Ci.mpr he,rfl⟩,by rw[e'];rfl⟩
  have nd:((es.toList.map (·.2)).map Srt.intOf).Nodup:=by
   unfold List.Nodup
   rw[B0,B0]
   refine G.dis.imp_of_mem λ{e e'} m m' x y =>?_
   obtain ⟨k1,_,_,t1,e1⟩:=G.el e (Ci.mp m)
   obtain ⟨k2,_,_,t2,e2⟩:=G.el e' (Ci.mp m')
   rw[e1,e2] at y
   have y':k1=k2:=y
   subst y'
   exact x k1 ⟨t1,e1⟩ ⟨t2,e2⟩
  refine ⟨.ref s.heap.objs.size,_,I.laid k (Bn _) (yb S ru),rfl,q _ _ (I.hok.fresh (Bn _)) mem nd (by rw[Bg,Bg,Bl];exact G.len)⟩
 have itm:∀(its:List Bh),Vals (ns.map V.int) its->∀(i:Nat) (v:Bh),its.toArray[i]? = some v->∃q,ns[i]? = some q/\(STab.sR X.prog X.w).El s.heap v q:=by
  intro its rv i v hv
  have hI:=cU rv
  obtain ⟨t,e⟩:=IntsAre.int_at hI i v (by rw[Ck] at hv;exact hv)
  have hlt:i<ns.length:=by
   have:=hI.length
   rw[Ck] at hv
   have:=(Bt.mp hv).1
   omega
  refine ⟨ns.getD i 0,?_,t,e⟩
  rw[B8,BA hlt]
  rfl
 rcases hs with hs | hs
 ·obtain ⟨its,rv,⟨o,n,e,c,dn,d⟩,z⟩:=I.list hs
  have lz:its.length=ns.length:=by have:=rv.length;rw[Bg] at this;exact this.symm
  exact STab.call_set_list (kd:=STab.sR X.prog X.w) (items:=its.toArray) (ks:=ns) hh trivial ⟨o,e,c,n,d⟩ (by simp[lz]) (itm its rv) (by simpa [lz] using hl) goal
 ·obtain ⟨its,rv,⟨o,e,c,n,d⟩,z⟩:=I.tuple hs
  have lz:its.length=ns.length:=by have:=rv.length;rw[Bg] at this;exact this.symm
  exact STab.j9 (kd:=STab.sR X.prog X.w) (items:=its.toArray) (ks:=ns) hh trivial ⟨o,e,c,n,d⟩ (by simp[lz]) (itm its rv) (by simpa [lz] using hl) goal
end
open PySem PySem.Spec PyProof.Rows
section
variable  {X:Cx}{w:Cb}
theorem qO (hw:X.w=w)(hh:X.A.handled=none):cz X (.type "set") (λxs H Q=>∃(p:Addr) (ns:List Int),xs=[.ref p]/\(SqL X.K H p (ns.map V.int)\/SqT X.K H p (ns.map V.int))/\ns.length<1000 ∧
  ∀(a:Addr) (us:List Int),H a=none->(∀k,k∈us↔k∈ns)->us.Nodup->us.length<=ns.length->Q (.ref a) (upd H a (oZ w a (us.map V.int)))):=by
 subst hw
 exact uI hh
end
open PySem PySem.Spec PyProof.Rows
section
variable  {X:Cx}
def tBMT (r:V->List V->Hp->VK->Prop)(to:TE)(t:TA):TE:=λσ H Q=>to σ H λx H1=>(∃p xs,x = .ref p/\H1 p=some (.tup xs))/\t σ H1 λxs H2=>r x xs H2 Q
theorem vZ {o e:Expr}{es:List Expr}{to:TE}{t:TA}{name:Str}{apos cpos:Pos}{id:String}{r:V->List V->Hp->VK->Prop}(slot:Slot "tuple" name id)(hty:typeOf (.builtin id)=pure (.type "method_descriptor"))(hm:MtR X id r)(ho:PE X o to)(ha:PA X (e :: es) t)
  (hbase:attributeBase o name X.env (eval o X.env)=eval o X.env:=by rfl)
  (hfew:((Fd cpos (Ce (e :: es) X.env)).all (λx => !x.1) && (backToKw cpos (keywordEach [] X.env)).all (λx=>x.1.isSome)
   && decide ((e :: es).length+([]:List Keyword).length+(if ([]:List Keyword).isEmpty then 0 else 1)<30))=true:=by rfl)
  (hline:(apos.endLine == cpos.line)=true:=by rfl) (hs:Ce (e :: es) X.env=(false,eval e X.env) :: Ce es X.env:=by rfl) (hplain:(Fd cpos (Ce es X.env)).any (·.1)=false:=by rfl) :
  PE X (.Call (.Attribute o name apos) (e :: es) [] cpos) (tBMT r to t):=by
 intro pins s σ H Q I h
 refine Hu hbase hfew hline rfl (thn (ho pins s σ H _ I h) λv s1 ⟨x,H1,I1,r1,ty,q1⟩ =>?_)
 obtain ⟨p,xs,rfl,hp⟩:=ty
 cases (show v=BN p from r1)
 obtain ⟨_,its,_,ob,e1,⟨c1,d1⟩,n,s1'⟩:=(show ba X.prog X.w H1 s1.heap p (.tup xs) from I1.hok p _ hp)
 refine ⟨"tuple",id,PySem.F.plainAttrs_tuple,slot,hty,⟨ob,e1,c1⟩,λa e=>by cases e;exact ⟨ob,e1,d1⟩,?_⟩
 have hA:=ha cpos pins s1 σ H1 _ I1 q1
 rw[hs] at hA ⊢
 refine FE (by show (false || (Fd cpos (Ce es X.env)).any (·.1))=false;rw[hplain] <;> rfl) (Ga ?_)
 exact thn hA λus s2 ⟨vs,H2,I2,r2,q2⟩=>hm pins s2 σ H2 (.ref p) vs _ us Q I2 rfl r2 q2
theorem gm:∀{ns:List Int} {xs:List Bh} {prog:BD} {w:Cb},C8 xs ns->ItemsAre (intKind prog w) ns xs
 | _,_,_,_,.nil =>.nil
 | _,_,_,_,.cons n t r =>.cons (HI _ _ _ _) (gm r)
theorem Inv.tkA {pins:List (Addr×Obj)}{σ:St}{H:Hp}{s:Bi}(I:Inv X pins σ H s){b:Addr}{ns:List Int}(h:SqT X.K H b (ns.map V.int))(prog:BD)(w:Cb):IsTupleKey (intKind prog w) s.heap ns b:=by
 obtain ⟨its,r,⟨o,e,c,n,d⟩,_⟩:=I.tuple h
 exact ⟨o,_,n,e,c,d,gm (by simpa using intsAre_of r)⟩
theorem Inv.eqT {pins:List (Addr×Obj)}{σ:St}{H:Hp}{s:Bi}(I:Inv X pins σ H s){A:B9}(hu:A.units<cLine){a b:Addr}{ns ms:List Int}(h1:SqT X.K H a (ns.map V.int))(h2:SqT X.K H b (ms.map V.int)):Ex A s (.ref a) (.ref b) (decide (ns=ms)) :=
 λprog w E Q q=>IG hu (I.tkA h1 prog w) (I.tkA h2 prog w) q
theorem gM:∀{ps:List (Addr×List Int)} {us:List Bh},Vals (ps.map λx=>V.ref x.1) us->us=ps.map λx=>BN x.1
 | [],_,r=>by cases r;rfl
 | p :: ps,_,r=>by
  cases r with
  | cons h t=>rw[BF, <- gM t,show _=BN p.1 from h]
noncomputable def kf (ts:List (Addr×List Int))(m:List Int):Bh->Bool:=λv=>decide (∃t∈ts,v = .ref t.1/\t.2=m)
theorem iT {pins:List (Addr×Obj)}{σ:St}{H:Hp}{s:Bi}(I:Inv X pins σ H s){ts:List (Addr×List Int)}(ht:∀t∈ts,SqT X.K H t.1 (t.2.map V.int)){m:List Int}{t:Addr×List Int}(hm:t∈ts):kf ts m (.ref t.1)=decide (t.2=m):=by
 unfold kf
 by_cases e:t.2=m
 ·rw[decide_eq_true e,decide_eq_true ⟨t,hm,rfl,e⟩]
 ·rw[decide_eq_false e,decide_eq_false]
  rintro ⟨t',m',e1,e2⟩
  injection e1 with e1
  have:=I.iN (ht t hm) (by rw[e1];exact ht t' m')
  have inj:Function.Injective V.int:=λa b h=>by injection h
  have:t.2=t'.2:=(Iu (λx y h=>inj h)).mp this
  exact e (this.trans e2)
theorem gN {pins:List (Addr×Obj)}{σ:St}{H:Hp}{s:Bi}(I:Inv X pins σ H s){ts:List (Addr×List Int)}(ht:∀t∈ts,SqT X.K H t.1 (t.2.map V.int)){m:List Int}:∀us:List (Addr×List Int),(∀t∈us,t∈ts)->(us.map λt=>BN t.1).countP (kf ts m)=(us.map (·.2)).count m
 | [],_=>rfl
 | u :: us,h=>by
  rw[BF,BF,List.countP_cons,Cy,gN I ht us (λt hm=>h t (BG _ hm)),iT I ht (h u Br)]
  by_cases e:u.2=m
  ·rw[decide_eq_true e,e];simp
  ·rw[decide_eq_false e];simp[e]
end
end L2
namespace HT
open PySem PySem.Spec PyProof.Rows
section
variable  {prog:BD}{w:Cb}{A:B9}{E:Bh->Bi->Prop}{s:Bi}
theorem gy {t sl:Addr}{items:Array Bh}{vl vu:Bh}{lo hi:Option Int}{Q:Bh->Bi->Prop}(ht:IsTup s.heap t items)(hs:s.heap.IsSliceOf sl vl vu .none)(pl:IsPart vl lo)(pu:IsPart vu hi)
  (hw:sIx items.size 0 lo=0/\sIx items.size items.size hi=items.size) (h:Q (.ref t) s):BL (B1 prog w) A (getItem (.ref t) (.ref sl)) Q E s:=by
 obtain ⟨os,hos,hcs,hds⟩:=id hs
 have hTs:s.TypeIs (.ref sl) "slice" :=⟨os,hos,hcs⟩
 unfold getItem
 try with_reducible refine CG ?_
 first | refine Bd (Bk ?_) | skip
 refine Bd (G1 ht.typeIs (by decide) ?_)
 refine Bd (Ct (name:=Str.ofString "__getitem__") ht.typeIs B3
  (Co B3 ht.typeIs entry_tuple_getitem ?_ (GC _ _)))
 show BL _ _ (Builtin.Tuple.tupleItemsOf (.ref t) >>= _) _ _ s
 refine Bd (ID ht ?_)
 refine Bd (Ec hTs ?_)
 rw[if_pos (by decide)]
 refine Bd (dH hs pl pu ?_)
 show BL _ _ (if (((sIx items.size 0 lo:Nat):Int) == 0 && (1:Int) == 1 && (sIx items.size items.size hi-sIx items.size 0 lo) == items.size)=true then _ else _) _ _ s
 rw[hw.1,hw.2,if_pos (by simp)]
 unfold Builtin.Tuple.tupleIsExact
 refine Bd (Bd (Ec ht.typeIs (Bk ?_)))
 rw[if_pos (by decide)]
 exact Bd (D0 (Bk ⟨_,rfl,Bk h⟩))
end
end HT
namespace L2
open PySem PySem.Spec PyProof.Rows
section
variable  {X:Cx}
theorem yc:SlR X (λx lo hi H Q=>∃a xs,x = .ref a/\SqT X.K H a xs/\((HT.sIx xs.length 0 lo=0/\HT.sIx xs.length xs.length hi=xs.length)->Q (.ref a) H) ∧
  (¬ (HT.sIx xs.length 0 lo=0/\HT.sIx xs.length xs.length hi=xs.length)->∀p,H p=none->Q (.ref p) (upd H p (.tup (ie xs lo hi))))):=by
 intro pins s σ H x v vl vu lo hi sl Q I rx hs pl pu h
 obtain ⟨a,xs,rfl,hx,q1,q2⟩:=h
 by_cases hw:HT.sIx xs.length 0 lo=0/\HT.sIx xs.length xs.length hi=xs.length
 ·cases rx
  obtain ⟨its,r,ht,hz⟩:=I.tuple hx
  have hlen:its.toArray.size=xs.length:=by rw[Bm];exact r.length.symm
  refine ⟨"tuple",_,B3.lookup,ht.typeIs,?_⟩
  exact HT.gy ht hs pl pu (by rw[hlen];exact hw) ⟨.ref a,H,I,rfl,q1 hw⟩
 ·exact zx pins s σ H _ v vl vu lo hi sl Q I rx hs pl pu ⟨a,xs,rfl,hx,hw,q2 hw⟩
theorem o6:cz X (.type "range") (λxs H Q=>∃n:Int,xs=[.int n]/\∀a,H a=none->Q (.ref a) (upd H a (.rng 0 n))):=by
 intro pins s σ H xs us Q I r h
 obtain ⟨n,rfl,q⟩:=h
 obtain ⟨u,rfl,⟨t,rfl⟩⟩:=vals1 r
 refine call_range_1 ?_
 exact ⟨.ref s.heap.objs.size,_,I.laid (o :=.rng 0 n) (λb ob q=>Bf _ q) (Bn _) ⟨_,_,_,Bp _ rfl⟩,rfl,q _ (I.hok.fresh (Bn _))⟩
end
section
variable  {prog:BD}{w:Cb}{A:B9}{E:Bh->Bi->Prop}{s:Bi}
theorem lE {R:List Bh->Bi->Prop}{r:Addr}{n:Nat}{t u v:Tok}(hh:A.handled=none)(hr:IsRange s.heap r 0 n 1 t u v)(hn:n<=2 ^ 24)
    (h:∀(h1:Heap) (tk:Nat) (vs:List Bh),vs.length=n->(∀(i:Nat) (x:Bh),vs[i]? = some x->∃t,x = .int i t)->(∀b o,s.heap.get? b=some o->h1.get? b=some o)->R vs { s with heap:=h1,toks:=tk }) :
    BL (B1 prog w) A (collect (.ref r)) R E s:=by
  have hlt:r<s.heap.objs.size:=Bq (show s.heap.get? r=some _ from hr)
  unfold collect
  refine Bd (FQ (CJ Gk ?_))
  rw[CF Gm _]
  show BL _ A.in1 (newList [] >>= λl=>again (.builtin "list.__iadd__" ⟨[l,.ref r],[]⟩)) _ _ s
  refine Bd (Ca ?_)
  refine Bk ⟨DL ED _,CJ G9 ?_⟩
  rw[CF ED _]
  show BL _ A.in1 (Cz (.ref s.heap.objs.size) (.ref r) (.ref s.heap.objs.size)) _ _ { s with heap:=s.heap.push { cls :=.type "list",data :=.seq ([]:List Bh).toArray } }
  have hr1:IsRange (s.heap.push { cls :=.type "list",data :=.seq ([]:List Bh).toArray }) r 0 n 1 t u v:=Bf _ hr
  have rs:Builtin.Range.rangeSize 0 (n:Int) 1=(n:Int):=by
    rw[rangeSize_one]
    split <;> omega
  have hlen24:n<=16777216:=hn
  have hS0:(s.heap.push { cls :=.type "list",data :=.seq ([]:List Bh).toArray }).get? s.heap.objs.size=some { cls :=.type "list",data :=.seq #[] 0 }:=Bp _ rfl
  refine wpAny_extend_range (A:=A) (R:=λres s'=>match res with
      | .ok (.ret v)=>BL (B1 prog w) A (match v with | .ref a=>(do match (← load a).data with | .seq xs _=>pure xs.toList | _=>unsupported "internal:collect") | _=>unsupported "internal:collect") R E s'
      | .ok _=>False
      | .error e=>E e s') (s:={ s with heap:=s.heap.push { cls :=.type "list",data :=.seq ([]:List Bh).toArray } }) hh hr1 (small_one (by omega) (by omega) (by omega) (by omega)) rs hn s.heap.objs.size (.ref s.heap.objs.size) 0 hS0 λh' tk acc' c' kk hS' hacc =>?_
  show BL _ A (load s.heap.objs.size >>= _) _ _ { s with heap:=h',toks:=tk }
  refine Bd (IS hS' ?_)
  refine Bk (h h' tk acc'.toList (by rw[Bl];exact hacc.1) (λi x hx =>?_) λb o e=>kk b o (BI (Bq e)) (Bf _ e))
  rw[Bv] at hx
  obtain ⟨t',e⟩:=hacc.2 i x hx
  exact ⟨t',by rw[e];simp⟩
theorem fw (r:Addr)(n:Nat)(t u v:Tok)(hn:n<=1000) :
  Meets (Builtin.«tuple.__new__» ⟨[.type "tuple",.ref r],[]⟩)
   (λA R s=>A.handled=none/\IsRange s.heap r 0 n 1 t u v/\∀(h':Heap) (tk:Nat) (vs:List Bh),vs.length=n->(∀(i:Nat) (x:Bh),vs[i]? = some x->∃t,x = .int i t)->(∀b o',s.heap.get? b=some o'->h'.get? b=some o')->R (.ok (.ret (.ref h'.objs.size))) { s with heap:=h'.push { cls :=.type "tuple",data :=.seq vs.toArray },toks:=tk }) :=
 .of_wp λprog w A R s h=>by
  obtain ⟨hp,g,d,tk,os⟩:=s;obtain ⟨hh,ht,h⟩:=h
  have hsub:=sub_tuple_self
  have hinit:=IW
  have hmh:=madeHere_tuple
  have hT:Shared.TypeIs ⟨hp,g,d,tk,os⟩ (.ref r) "range" :=⟨_,ht,rfl⟩
  wp_walk using Ec hT,lE (by simpa using hh) ht (by omega)
  intro h' tk' vs lv hv hk
  show BL _ _ (Builtin.Tuple.tupleExact vs.toArray >>= λv=>ret v) _ _ _
  unfold Builtin.Tuple.tupleExact
  refine Bd (Ca ?_ (by show vs.toArray.size<=BJ;rw[Bm,lv];exact small hn))
  exact Bk ⟨_,rfl,h h' tk' vs lv hv hk⟩
end
section
variable  {X:Cx}
theorem qP:∀{vs:List Bh},(∀(i:Nat) (x:Bh),vs[i]? = some x->∃t,x=Ds i t)->Vals ((Cc vs.length).map λi=>V.int (i:Nat)) vs:=by
 suffices h:∀(vs:List Bh) (k:Nat),(∀(i:Nat) (x:Bh),vs[i]? = some x->∃t,x=Ds ((i+k:Nat):Int) t)->Vals ((List.range' k vs.length).map λi=>V.int (i:Nat)) vs by
  intro vs hv
  have:=h vs 0 hv
  rw[List.range_eq_range']
  exact this
 intro vs
 induction vs with
 | nil=>intro k _;exact .nil
 | cons x vs ih =>
  intro k hv
  rw[Bs,List.range'_succ,BF]
  refine .cons ?_ (ih (k+1) λi y hy =>?_)
  ·obtain ⟨t,e⟩:=hv 0 x rfl
   exact ⟨t,by rw[e,Ea]⟩
  ·obtain ⟨t,e⟩:=hv (i+1) y (by rw[EB];exact hy)
   exact ⟨t,by rw[e,show i+1+k=i+(k+1) by omega]⟩
theorem o8 (hh:X.A.handled=none):cz X (.type "tuple") (λxs H Q=>∃(a:Addr) (n:Nat),xs=[.ref a]/\H a=some (.rng 0 n)/\n<=1000/\∀l,H l=none->Q (.ref l) (upd H l (.tup ((Cc n).map λi=>V.int (i:Nat))))):=by
 intro pins s σ H xs us Q I r h
 obtain ⟨a,n,rfl,ha,hn,q⟩:=h
 obtain ⟨u,rfl,ru⟩:=vals1 r
 cases (show u=BN a from ru)
 obtain ⟨t,u,v,e⟩:=(show ba X.prog X.w H s.heap a (.rng 0 n) from I.hok a _ ha)
 refine HE HL (by decide) (GZ _) (Ha _) (λobj=>Fc obj _) Hb
  (fw a n t u v hn) ⟨by simpa using hh,e,λh' tk vs lv hv k=>⟨⟨_,Bp _ rfl,rfl⟩,?_⟩⟩
 have I1:Inv X pins σ H { s with heap:=h',toks:=tk }:=I.kept k
 have rv:=qP hv
 rw[lv] at rv
 exact ⟨.ref h'.objs.size,_,I1.laid (o :=.tup ((Cc n).map λi=>V.int (i:Nat))) (λb ob q=>Bf _ q) (Bn _) ⟨by rw[Bg,DG];exact small hn,vs,rv,cN.new _ _⟩,rfl,q _ (I1.hok.fresh (Bn _))⟩
end
open PySem PySem.Spec PyProof.Rows
section
variable  {κ:Type}[DecidableEq κ]
def cy (kvs:List (κ×V))(k:κ):Option V:=(kvs.find? λkv=>decide (kv.1=k)).map (·.2)
def putK (kvs:List (κ×V))(k:κ)(v:V):List (κ×V) :=
 if (kvs.any λkv=>decide (kv.1=k))=true then kvs.map (λkv=>if kv.1=k then (kv.1,v) else kv) else kvs++[(k,v)]
theorem bP {p:κ×V}{r:List (κ×V)}{k:κ}(e:p.1=k):cy (p :: r) k=some p.2:=by simp[cy,EZ,e]
theorem bQ {p:κ×V}{r:List (κ×V)}{k:κ}(e:¬ p.1=k):cy (p :: r) k=cy r k:=by simp[cy,EZ,e]
theorem cH (k:κ):∀kvs:List (κ×V),(kvs.any λkv=>decide (kv.1=k))=(cy kvs k).isSome
 | []=>rfl
 | p :: r=>by
  rw[E6]
  by_cases e:p.1=k
  ·simp only[bP e,decide_eq_true e,Bool.true_or,Option.isSome_some]
  ·rw[bQ e,decide_eq_false e,Iw];exact cH k r
theorem pf (k j:κ)(y:V):∀kvs:List (κ×V),cy (kvs.map λkv=>if kv.1=k then (kv.1,y) else kv) j=(cy kvs j).map λx=>if j=k then y else x
 | []=>rfl
 | p :: r=>by
  have ih:=pf k j y r
  rw[BF]
  by_cases h:p.1=k
  ·rw[if_pos h]
   by_cases e:p.1=j
   ·rw[bP (p:=(p.1,y)) e,bP e,Em,if_pos (e.symm.trans h)]
   ·rw[bQ (p:=(p.1,y)) e,bQ e,ih]
  ·rw[if_neg h]
   by_cases e:p.1=j
   ·rw[bP (p:=p) e,bP e,Em,if_neg (λz=>h (e.trans z))]
   ·rw[bQ (p:=p) e,bQ e,ih]
theorem mw (k j:κ)(y:V):∀kvs:List (κ×V),cy kvs k=none->cy (kvs++[(k,y)]) j=if j=k then some y else cy kvs j
 | [],_=>by
  by_cases e:k=j
  ·rw[if_pos e.symm];exact bP (p:=(k,y)) e
  ·rw[if_neg (λz=>e z.symm)];exact bQ (p:=(k,y)) e
 | p :: r,hn=>by
  rw[Fh]
  have hk:¬ p.1=k:=λz=>by rw[bP z] at hn;cases hn
  rw[bQ hk] at hn
  have ih:=mw k j y r hn
  by_cases e:p.1=j
  ·rw[bP e,bP e,if_neg (λz=>hk (e.trans z))]
  ·rw[bQ e,bQ e,ih]
theorem v8 (kvs:List (κ×V))(k j:κ)(y:V):cy (putK kvs k y) j=if j=k then some y else cy kvs j:=by
 unfold putK
 by_cases a:(kvs.any λkv=>decide (kv.1=k))=true
 ·rw[if_pos a,pf]
  rw[cH] at a
  by_cases e:j=k
  ·obtain ⟨x,hx⟩:=Fp.mp a
   rw[if_pos e,e,hx,Em,if_pos rfl]
  ·rw[if_neg e]
   cases cy kvs j with
   | none=>rfl
   | some x=>rw[Em,if_neg e]
 ·rw[if_neg a]
  refine mw k j y kvs ?_
  rw[cH] at a
  cases q:cy kvs k with
  | none=>rfl
  | some x=>rw[q] at a;exact (a rfl).elim
theorem fI (kvs:List (κ×V))(k:κ)(v:V):(putK kvs k v).length<=kvs.length+1:=by
 unfold putK
 split
 ·rw[Bg];omega
 ·rw[Bj,Bs,Cq];omega
theorem v9 {kvs:List (κ×V)}{k:κ}(v:V)(h:cy kvs k=none):putK kvs k v=kvs++[(k,v)]:=by
 unfold putK
 rw[cH,h]
 exact if_neg (by decide)
theorem jq.uJ {o:Option V}{u:Option Bh}(r:jq o u):o.isSome=u.isSome:=by
 cases o with
 | none=>cases u with
  | none=>rfl
  | some _=>exact (show False from r).elim
 | some _=>cases u with
  | none=>exact (show False from r).elim
  | some _=>rfl
theorem jq.getD {o:Option V}{u:Option Bh}{d:V}{d':Bh}(r:jq o u)(rd:RelV d d'):RelV (o.getD d) (u.getD d'):=by
 cases o with
 | none=>cases u with
  | none=>exact rd
  | some _=>exact (show False from r).elim
 | some _=>cases u with
  | none=>exact (show False from r).elim
  | some _=>exact r
theorem KV.val {kvs:List (κ×V)}{vs:List (κ×Bh)}(r:KV kvs vs)(k:κ):jq (cy kvs k) (valueAt vs k):=by
 unfold KV at r
 induction r with
 | nil=>exact True.intro
 | @cons p q ps qs h t ih =>
  obtain ⟨h1,h2⟩:=h
  by_cases e:p.1=k
  ·have e':q.1=k:=h1.symm.trans e
   have b:valueAt (q :: qs) k=some q.2:=by simp[valueAt,EZ,e']
   rw[bP e,b];exact h2
  ·have e':¬ q.1=k:=λz=>e (h1.trans z)
   have b:valueAt (q :: qs) k=valueAt qs k:=by simp[valueAt,EZ,e']
   rw[bQ e,b];exact ih
theorem KV.any {kvs:List (κ×V)}{vs:List (κ×Bh)}(r:KV kvs vs)(k:κ):(kvs.any λkv=>decide (kv.1=k))=vs.any λkv=>decide (kv.1=k):=by
 unfold KV at r
 induction r with
 | nil=>rfl
 | cons h t ih=>rw[E6,E6,ih,h.1]
theorem KV.zR {kvs:List (κ×V)}{vs:List (κ×Bh)}(r:KV kvs vs)(k:κ){y:V}{u:Bh}(ry:RelV y u) :
  KV (kvs.map λkv=>if kv.1=k then (kv.1,y) else kv) (vs.map λkv=>if kv.1=k then (kv.1,u) else kv):=by
 unfold KV at r ⊢
 induction r with
 | nil=>exact .nil
 | @cons p q ps qs h t ih =>
  rw[BF,BF]
  refine .cons ?_ ih
  obtain ⟨h1,h2⟩:=h
  by_cases e:p.1=k
  ·rw[if_pos e,if_pos (h1.symm.trans e)];exact ⟨h1,ry⟩
  ·rw[if_neg e,if_neg (λz=>e (h1.trans z))];exact ⟨h1,h2⟩
theorem KV.put {kvs:List (κ×V)}{vs:List (κ×Bh)}(r:KV kvs vs)(k:κ){y:V}{u:Bh}(ry:RelV y u):KV (putK kvs k y) (stored vs k u):=by
 unfold putK stored
 rw[r.any k]
 by_cases e:(vs.any λkv=>decide (kv.1=k))=true
 ·rw[if_pos e,if_pos e];exact r.zR k ry
 ·rw[if_neg e,if_neg e];exact JZ r ⟨rfl,ry⟩
theorem KV.length {kvs:List (κ×V)}{vs:List (κ×Bh)}(r:KV kvs vs):kvs.length=vs.length:=Fv r
end
theorem sU {P:BD}{w:Cb}{k:Key}{u:Bh}(r:RelV (kV k) u):(bD P w).is k u=true:=by
 cases k with
 | inl i=>obtain ⟨t,e⟩:=(show ∃t,u=Ds i t from r);subst e;exact ou P w i t
 | inr x=>obtain ⟨t,e⟩:=(show ∃t,u=Value.str x t from r);subst e;exact ow P w x t
theorem mB {P:BD}{w:Cb}:∀{ks:List Key} {us:List Bh},Vals (ks.map kV) us->ItemsAre (bD P w) ks us
 | [],_,r=>by rw[IX] at r;cases r;exact .nil
 | k :: ks,_,r=>by
  rw[BF] at r
  cases r with
  | cons h t=>exact .cons (sU h) (mB t)
abbrev KT (H:Hp):List (List Key×V)->List (List Key×Addr×Bh)->Prop:=Paired λp q=>p.1=q.1/\H q.2.1=some (.tup (p.1.map kV))/\RelV p.2 q.2.2
theorem KT.val {H:Hp}{kvs:List (List Key×V)}{xs:List (List Key×Addr×Bh)}(r:KT H kvs xs)(k:List Key):jq (cy kvs k) ((atKey xs k).map (·.2)):=by
 induction r with
 | nil=>exact True.intro
 | @cons p q ps qs h t ih =>
  obtain ⟨h1,_,h2⟩:=h
  by_cases e:p.1=k
  ·have e':q.1=k:=h1.symm.trans e
   have b:atKey (q :: qs) k=some q.2:=by simp[atKey,EZ,e']
   rw[bP e,b];exact h2
  ·have e':¬ q.1=k:=λz=>e (h1.trans z)
   have b:atKey (q :: qs) k=atKey qs k:=by simp[atKey,EZ,e']
   rw[bQ e,b];exact ih
theorem KT.zR {H:Hp}{kvs:List (List Key×V)}{xs:List (List Key×Addr×Bh)}(r:KT H kvs xs)(k:List Key){y:V}{u:Bh}(ry:RelV y u) :
  KT H (kvs.map λkv=>if kv.1=k then (kv.1,y) else kv) (xs.map (putAt k u)):=by
 induction r with
 | nil=>exact .nil
 | @cons p q ps qs h t ih =>
  rw[BF,BF]
  refine .cons ?_ ih
  obtain ⟨h1,h2,h3⟩:=h
  unfold putAt
  by_cases e:p.1=k
  ·rw[if_pos e,if_pos (h1.symm.trans e)];exact ⟨h1,h2,ry⟩
  ·rw[if_neg e,if_neg (λz=>e (h1.trans z))];exact ⟨h1,h2,h3⟩
theorem KT.put {H:Hp}{kvs:List (List Key×V)}{xs:List (List Key×Addr×Bh)}(r:KT H kvs xs)(k:List Key){b:Addr}{y:V}{u:Bh}(hb:H b=some (.tup (k.map kV)))(ry:RelV y u) :
  KT H (putK kvs k y) (storedH xs k b u):=by
 have e:(kvs.any λkv=>decide (kv.1=k))=(atKey xs k).isSome:=by
  rw[cH,(r.val k).uJ,Option.isSome_map]
 unfold putK storedH
 rw[e]
 by_cases q:(atKey xs k).isSome=true
 ·rw[if_pos q,if_pos q];exact r.zR k ry
 ·rw[if_neg q,if_neg q];exact JZ r ⟨rfl,hb,ry⟩
theorem KT.keeps {H H':Hp}{kvs:List (List Key×V)}{xs:List (List Key×Addr×Bh)}(r:KT H kvs xs)(ht:∀b ys,H b=some (.tup ys)->H' b=some (.tup ys)):KT H' kvs xs :=
 Paired.zh r λ_ _ z=>⟨z.1,ht _ _ z.2.1,z.2.2⟩
section
variable  {P:BD}{w:Cb}{H:Hp}{h:Heap}{a:Addr}
theorem yY {u:HO}(ok:HOk P w H h)(e:Rd H a u):ba P w H h a u:=e.ok ok
theorem pg {kvs:List (Key×V)}(ok:HOk P w H h)(e:Rd H a (.dK kvs)):kvs.length<=BJ/\(a == sysModules)=false/\∃vs,KV kvs vs/\h.DictOf (bD P w) a vs :=
 show ba P w H h a (.dK kvs) from yY ok e
theorem A1 {kvs:List (Key×V)}(ok:HOk P w H h)(e:H a=some (.dK kvs)):kvs.length<=BJ/\(a == sysModules)=false/\∃vs,KV kvs vs/\h.DictOf (bD P w) a vs:=pg ok (.inl e)
theorem nF {ks:List Key}(ok:HOk P w H h)(e:H a=some (.tup (ks.map kV))):(tupleKind (bD P w)).is h ks a:=by
 obtain ⟨_,its,r,o,h1,h2,n,h3⟩:=(show ba P w H h a (.tup (ks.map kV)) from ok a _ e)
 exact ⟨o,its.toArray,n,h1,h2.1,h3,by simpa using mB r⟩
theorem mC {kvs:List (List Key×V)}(ok:HOk P w H h)(e:Rd H a (.dT kvs)):kvs.length<=BJ/\(a == sysModules)=false ∧
  ∃xs,KT H kvs xs/\h.DictOfH (tupleKind (bD P w)) a xs:=by
 obtain ⟨z,y,xs,r,o,es,ep,h1,h2,h3,h4,h5⟩:=(show ba P w H h a (.dT kvs) from yY ok e)
 refine ⟨z,y,xs,r,o,es,ep,h1,h2,h3,h4,λx hx =>?_,h5⟩
 have all:∀{l:List (List Key×V)} {m:List (List Key×Addr×Bh)},KT H l m->∀x∈m,(tupleKind (bD P w)).is h x.1 x.2.1:=by
  intro l m q
  induction q with
  | nil=>intro x hx;exact nomatch hx
  | @cons p q ps qs hq t ih =>
   intro x hx
   rcases BR.mp hx with e | hx
   ·subst e
    exact nF ok (by rw[<- hq.1];exact hq.2.1)
   ·exact ih x hx
 exact all r x hx
theorem yZ {kvs:List (List Key×V)}(ok:HOk P w H h)(e:H a=some (.dT kvs)):kvs.length<=BJ/\(a == sysModules)=false ∧
  ∃xs,KT H kvs xs/\h.DictOfH (tupleKind (bD P w)) a xs:=mC ok (.inl e)
end
def kg (H:Hp)(a:Addr)(y:V)(r:Option V):Prop :=
 (∃kvs k,Rd H a (.dK kvs)/\y=kV k/\r=cy kvs k)\/∃kvs k b,Rd H a (.dT kvs)/\y = .ref b/\H b=some (.tup (k.map kV))/\r=cy kvs k
def wa (H:Hp)(a:Addr)(y v:V)(H':Hp):Prop :=
 (∃kvs k,H a=some (.dK kvs)/\y=kV k/\kvs.length<BJ/\H'=upd H a (.dK (putK kvs k v))) ∨
 ∃kvs k b,H a=some (.dT kvs)/\y = .ref b/\H b=some (.tup (k.map kV))/\kvs.length<BJ/\H'=upd H a (.dT (putK kvs k v))
theorem kg.t {H:Hp}{a b:Addr}{kvs:List (List Key×V)}{k:List Key}(e:H a=some (.dT kvs))(eb:H b=some (.tup (k.map kV))):kg H a (.ref b) (cy kvs k) :=.inr ⟨kvs,k,b,.inl e,rfl,eb,rfl⟩
theorem wa.t {H:Hp}{a b:Addr}{kvs:List (List Key×V)}{k:List Key}{v:V}(e:H a=some (.dT kvs))(eb:H b=some (.tup (k.map kV)))(hl:kvs.length<BJ) :
  wa H a (.ref b) v (upd H a (.dT (putK kvs k v))) :=.inr ⟨kvs,k,b,e,rfl,eb,hl,rfl⟩
section
variable  {X:Cx}{pins:List (Addr×Obj)}{σ:St}{H:Hp}{s:Bi}{a:Addr}{y v:V}{u r:Bh}{o:Option V}{A:B9}{E:Bh->Bi->Prop}
theorem Inv.big (I:Inv X pins σ H s):sysModules<s.heap.objs.size:=by
 have h:Cg<s.heap.objs.size:=(I.mod.glob.keeps I.bk).lt
 exact Nat.lt_trans (by decide) h
theorem uK {Q:Bh->Bi->Prop}(hu:A.units+1<cLine)(I:Inv X pins σ H s)(g:kg H a y (some v))(ry:RelV y u)(h:∀w' s',Inv X pins σ H s'->RelV v w'->Q w' s') :
  BL (B1 X.prog X.w) A (getItem (.ref a) u) Q E s:=by
 rcases g with ⟨kvs,k,e,ey,l⟩ | ⟨kvs,k,b,e,ey,eb,l⟩
 ·subst ey
  obtain ⟨z,hd,vs,rel,dd⟩:=pg I.hok e
  obtain ⟨w',hw,rw'⟩:=jq.some_of (v:=v) (o:=valueAt vs k) (by rw[l];exact rel.val k)
  exact wpAny_getItem_of (sU ry) dd.mapOf hw (h w' _ (I.tok _) rw')
 ·subst ey
  cases (show u=BN b from ry)
  obtain ⟨z,hd,xs,rel,dd⟩:=mC I.hok e
  obtain ⟨w',hw,rw'⟩:=jq.some_of (v:=v) (o:=(atKey xs k).map (·.2)) (by rw[l];exact rel.val k)
  obtain ⟨p,hp,hp2⟩:=FF.mp hw
  refine wpAny_getItem_heap (GF hu) (nF I.hok eb) dd hp ?_
  rw[hp2]
  exact h w' _ (I.tok _) rw'
theorem sV {h':Heap}{t':Nat}{ob:HO}(I:Inv X pins σ H s)(mu:Mut (H a))(hs:Heap.SameBut a s.heap h')(he:∃q,h'.get? a=some q)(new:ba X.prog X.w (upd H a ob) h' a ob) :
  Inv X pins σ (upd H a ob) { s with heap:=h',toks:=t' } :=
 I.write (x:=a) (e:=a) mu (.inl rfl) (λb q hb z=>(hs.2 b hb).trans z) he new
theorem zS {P:BD}{w:Cb}{H':Hp}{h':Heap}{kvs:List (Key×V)}{vs:List (Key×Bh)}(z:kvs.length<=BJ)(hd:(a == sysModules)=false)(rel:KV kvs vs)(dd:h'.DictOf (bD P w) a vs) :
  ba P w H' h' a (.dK kvs):=⟨z,hd,vs,rel,dd⟩
theorem uL {H':Hp}{Q:Unit->Bi->Prop}(hu:A.units+1<cLine)(I:Inv X pins σ H s)(g:wa H a y v H')(ry:RelV y u)(rv:RelV v r)(h:∀s',Inv X pins σ H' s'->Q () s') :
  BL (B1 X.prog X.w) A (setItem (.ref a) u r) Q E s:=by
 rcases g with ⟨kvs,k,e,ey,l,eH⟩ | ⟨kvs,k,b,e,ey,eb,l,eH⟩
 ·subst ey eH
  obtain ⟨z,hd,vs,rel,dd⟩:=A1 I.hok e
  have hz:vs.length<=BJ:=by rw[<- rel.length];exact z
  have hl:(putK kvs k v).length<=BJ:=by have:=fI kvs k v;omega
  refine wpAny_setItem_pairs (hsz:=hz) (sU ry) dd λh' dd' hs=>h _ ?_
  have he:∃q,h'.get? a=some q:=let ⟨q,_,_,hq,_⟩:=dd';⟨q,hq⟩
  exact sV I (by rw[e];exact True.intro) hs he (zS hl hd (rel.put k rv) dd')
 ·subst ey eH
  cases (show u=BN b from ry)
  obtain ⟨z,hd,xs,rel,dd⟩:=yZ I.hok e
  have hz:xs.length<=BJ:=by rw[<- Fv rel];exact z
  have hl:(putK kvs k v).length<=BJ:=by have:=fI kvs k v;omega
  refine wpAny_setItem_heap (hsz:=hz) (GF hu) (nF I.hok eb) dd λh' dd' hs=>h _ ?_
  obtain ⟨q,es,ep,hq,h2,h3,h4,_,h5⟩:=dd'
  refine sV I (by rw[e];exact True.intro) hs ⟨q,hq⟩ ⟨hl,hd,_,(rel.put k eb rv).keeps λc ys ec =>?_,q,es,ep,hq,h2,h3,h4,h5⟩
  rw[ao (jK ec e (λz=>nomatch z))]
  exact ec
end
section
variable  {X:Cx}{pins:List (Addr×Obj)}{σ:St}{H:Hp}{s:Bi}{a:Addr}{kvs:List (Key×V)}{k:Key}{u:Bh}{A:B9}{E:Bh->Bi->Prop}
end
def A2 (i:Expr):Prop:=∀ov iv,subscripted i false ov iv=operate [ov,iv] (getItem ov iv)
theorem yd {prog:BD}{w:Cb}{A:B9}{E:Bh->Bi->Prop}{s:Bi}{env:Env}{value slice:Expr}{pos:Pos}{T id:String}{Q:Bh->Bi->Prop}
  (hl:typeLookup (.type T) "__getitem__" = pure (some (.builtin id))) (hs:A2 slice)
  (h:BL (B1 prog w) A (eval value env) (λo s₁=>BL (B1 prog w) A (eval slice env) (λi s₂=>s₂.TypeIs o T/\BL (B1 prog w) A (getItem o i) Q E s₂) E s₁) E s) :
  BL (B1 prog w) A (eval (.Subscript value slice pos) env) Q E s:=by
 refine Subscript_ (Dg h (λo s₁ h₁=>Dg h₁ (λi s₂ h₂ =>?_) λ_ _ x=>x) λ_ _ x=>x)
 obtain ⟨hT,h₂⟩:=h₂
 unfold subscriptTail
 refine Bd ?_
 rw[getitemInPython_of_ne hT.not_modules]
 refine Bd (E3 hT hl ?_)
 have fin:BL (B1 prog w) A (subscripted slice false o i) (λr s₃=>BL (B1 prog w) A (letTemporaryGo value o r >>= λ_=>pure r) Q E s₃) E s₂:=by
  rw[hs o i]
  exact wpAny_operating (Dg h₂ (λr s₃ h₃=>Bd (wpAny_letTemporaryGo (Bk h₃))) λ_ _ x=>x)
 first
  | exact Bk (Bd fin)
  | exact Bd (Bk (Bd fin))
  | exact Bd fin
theorem ph {X:Cx}{pins:List (Addr×Obj)}{σ:St}{H:Hp}{s:Bi}{a:Addr}{y:V}{o:Option V}(I:Inv X pins σ H s)(g:kg H a y o):s.TypeIs (.ref a) "dict" := by
 rcases g with ⟨kvs,k,e,_,_⟩ | ⟨kvs,k,b,e,_,_,_⟩
 ·obtain ⟨_,_,vs,_,dd⟩:=pg I.hok e
  exact dd.typeIs
 ·obtain ⟨_,_,xs,_,dd⟩:=mC I.hok e
  exact dd.typeIs
def A3 (td ty:TE):TE:=λσ H Q=>td σ H λx H1=>ty σ H1 λy H2=>∃a v,x = .ref a/\kg H2 a y (some v)/\Q v H2
def A4 (td ty tv:TE):TS:=λD σ H=>tv σ H λv H1=>td σ H1 λx H2=>ty σ H2 λy H3=>∃a H4,x = .ref a/\wa H3 a y v H4/\D.nx σ H4
section
variable  {X:Cx}{o i e value:Expr}{pos pos' tpos:Pos}{td ty tv:TE}
theorem ye (hu:X.A.units+1<cLine)(ho:PE X o td)(hi:PE X i ty)(hs:A2 i):PE X (.Subscript o i pos) (A3 td ty):=by
 intro pins s σ H Q I h
 refine yd PySem.F.slot_dict_getitem.lookup hs (thn (ho pins s σ H _ I h) λu s1 ⟨x,H1,I1,rx,q1⟩=>thn (hi pins s1 σ H1 _ I1 q1) λiv s2 ⟨y,H2,I2,ry,a,v,ex,g,q2⟩ =>?_)
 subst ex
 obtain rfl:u=BN a:=rx
 exact ⟨ph I2 g,uK hu I2 g ry λw' s3 I3 rw'=>⟨v,H2,I3,rw',q2⟩⟩
theorem yf (hu:X.A.units+1<cLine)(ho:PE X o td)(hi:PE X i ty)(hv:PE X value tv)(hs:swapsWith value (some (.Subscript o i pos')) pos.line X.env=pure false) :
  PS X (.Assign [.Subscript o i pos'] value pos) (A4 td ty tv):=by
 intro pins s σ H D I h
 refine wpAny_Assign_Subscript (thn (hv pins s σ H _ I h) λr s1 ⟨v,H1,I1,rv,q1⟩=>thn (ho pins s1 σ H1 _ I1 q1) λu s2 ⟨x,H2,I2,rx,q2⟩=>thn (hi pins s2 σ H2 _ I2 q2) λiv s3 ⟨y,H3,I3,ry,a,H4,ex,g,q3⟩ =>?_) hs
 subst ex
 obtain rfl:u=BN a:=rx
 exact uL hu I3 g ry rv λs4 I4=>⟨σ,H4,I4,q3⟩
end
theorem we {P:BD}{w:Cb}{H:Hp}(h:Heap)(hb:sysModules<h.objs.size):ba P w H (h.push { cls :=.type "dict",data :=.dict #[] }) h.objs.size (.dT []) :=
 ⟨BU _,beq_eq_false_iff_ne.mpr (C6 (BI hb)),[],.nil,_, #[],0,Bp _ rfl,⟨rfl,rfl,rfl⟩,rfl,rfl,HS⟩
def zT:TE:=λ_ H Q=>∀p,H p=none->Q (.ref p) (upd H p (.dT []))
section
variable  {X:Cx}{pos:Pos}
theorem wg:PE X (.Dict [] [] pos) zT:=λpins s σ H Q I h =>
 wpAny_Dict_empty ⟨.ref s.heap.objs.size,_,I.laid (a:=s.heap.objs.size) (o :=.dT []) (t':=s.toks) (λ_ _ q=>Bf _ q) (Bn _) (we s.heap I.big),rfl,h _ (I.hok.fresh (Bn _))⟩
end
structure M2 (X:Cx)(o:Expr)(m:Str)(apos:Pos)(e f:Expr)(cpos:Pos):Prop where
 base:attributeBase o m X.env (eval o X.env)=eval o X.env
 few:((Fd cpos (Ce [e,f] X.env)).all (λx => !x.1) && (backToKw cpos (keywordEach [] X.env)).all (λx=>x.1.isSome)
  && decide (([e,f]:List Expr).length+([]:List Keyword).length+(if ([]:List Keyword).isEmpty then 0 else 1)<30))=true
 line:(apos.endLine == cpos.line)=true
 trees:Fd cpos (Ce [e,f] X.env)=[(false,eval e X.env),(false,eval f X.env)]
def IsD (H:Hp)(a:Addr):Prop:=(∃kvs,Rd H a (.dK kvs))\/∃kvs,Rd H a (.dT kvs)
theorem zU {X:Cx}{pins:List (Addr×Obj)}{σ:St}{H:Hp}{s:Bi}{a:Addr}(I:Inv X pins σ H s)(d:IsD H a) :
  s.TypeIs (.ref a) "dict" /\ (∀b,BN a = .ref b->∃ob,s.heap.get? b=some ob/\ob.dict=none)/\(a == sysModules)=false:=by
 rcases d with ⟨kvs,e⟩ | ⟨kvs,e⟩
 ·obtain ⟨_,hd,vs,_,dd⟩:=pg I.hok e
  refine ⟨dd.typeIs,λb q =>?_,hd⟩
  cases q
  obtain ⟨ob,_,_,h1,h2,_⟩:=dd
  exact ⟨ob,h1,h2.2.1⟩
 ·obtain ⟨_,hd,xs,_,dd⟩:=mC I.hok e
  refine ⟨dd.typeIs,λb q =>?_,hd⟩
  cases q
  obtain ⟨ob,_,_,h1,h2,_⟩:=dd
  exact ⟨ob,h1,h2.2.1⟩
section
variable  {X:Cx}{pins:List (Addr×Obj)}{σ:St}{H:Hp}{s:Bi}{a:Addr}{y d:V}{u r:Bh}{o:Option V}{A:B9}{E:Bh->Bi->Prop}
theorem zV {Q:Bh->Bi->Prop}(hu:A.units+1<cLine)(I:Inv X pins σ H s)(g:kg H a y o)(ry:RelV y u)(rd:RelV d r)(h:∀w' s',Inv X pins σ H s'->RelV (o.getD d) w'->Q w' s') :
  BL (B1 X.prog X.w) A (call (.builtin "dict.get") [.ref a,u,r]) Q E s:=by
 rcases g with ⟨kvs,k,e,ey,l⟩ | ⟨kvs,k,b,e,ey,eb,l⟩
 ·subst ey
  obtain ⟨z,hd,vs,rel,dd⟩:=pg I.hok e
  refine call_meetsIn FU dd.typeIs Hr (Hc _ _ _) (meets_dict_get_default (bD X.prog X.w) a (sU ry) hd r) ⟨_,dd.mapOf,h _ _ (I.tok _) ?_⟩
  rw[l]
  exact (rel.val k).getD rd
 ·subst ey
  cases (show u=BN b from ry)
  obtain ⟨z,hd,xs,rel,dd⟩:=mC I.hok e
  refine call_meetsIn FU dd.typeIs Hr (Hc _ _ _) (meetsH_dict_get_default (tupleKind (bD X.prog X.w)) a b hd r) ⟨GF hu,k,xs,nF I.hok eb,dd,h _ _ (I.tok _) ?_⟩
  rw[l]
  exact (rel.val k).getD rd
end
def zW (td ty tx:TE):TE:=λσ H Q=>td σ H λx H1=>∃a,x = .ref a/\IsD H1 a/\ty σ H1 λy H2=>tx σ H2 λz H3=>∃o,kg H3 a y o/\Q (o.getD z) H3
section
variable  {X:Cx}{o e f:Expr}{apos cpos:Pos}{td ty tx:TE}
theorem wj (hu:X.A.units+1<cLine)(ho:PE X o td)(he:PE X e ty)(hf:PE X f tx)(m:M2 X o "get" apos e f cpos):PE X (.Call (.Attribute o "get" apos) [e,f] [] cpos) (zW td ty tx):=by
 intro pins s σ H Q I h
 refine wpAny_Call_method m.base m.few m.line PySem.F.plainAttrs_dict FU PySem.F.type_dict_get (thn (ho pins s σ H _ I h) λu s1 ⟨x,H1,I1,rx,a,ex,d,q1⟩ =>?_)
 subst ex
 obtain rfl:u=BN a:=rx
 obtain ⟨t1,t2,_⟩:=zU I1 d
 refine ⟨t1,t2,?_⟩
 rw[m.trees]
 refine FE rfl (Ga (Fw (thn (he pins s1 σ H1 _ I1 q1) λiv s2 ⟨y,H2,I2,ry,q2⟩ =>
  Fw (thn (hf pins s2 σ H2 _ I2 q2) λfv s3 ⟨z,H3,I3,rz,ov,g,q3⟩=>GS ?_))))
 exact zV hu I3 g ry rz λw' s4 I4 rw'=>⟨_,H3,I4,rw',q3⟩
end
section
variable  {X:Cx}{pins:List (Addr×Obj)}{σ:St}{H:Hp}{s:Bi}{a:Addr}{kvs:List (Key×V)}{A:B9}{E:Bh->Bi->Prop}
end
section
variable  {X:Cx}{pins:List (Addr×Obj)}{σ:St}{H:Hp}{s:Bi}{a:Addr}{y:V}{u:Bh}{A:B9}{E:Bh->Bi->Prop}
end
open PySem PySem.Spec PyProof.Rows
section
variable  {X:Cx}
end
section
variable  {κ:Type}[DecidableEq κ]
theorem pA {kvs:List (κ×V)}{k:κ}(h:cy kvs k=none):¬ k∈kvs.map (·.1):=by
 intro m
 obtain ⟨p,hp,e⟩:=Bw.mp m
 have q:(kvs.any λkv=>decide (kv.1=k))=true:=F2.mpr ⟨p,hp,decide_eq_true e⟩
 rw[cH,h] at q
 exact absurd q (by simp)
theorem yg {kvs:List (κ×V)}{k:κ}{v:V}(h:cy kvs k=some v):k∈kvs.map (·.1):=by
 have q:(kvs.any λkv=>decide (kv.1=k))=true:=by
  rw[cH,h]
  all_goals rfl
 obtain ⟨p,hp,e⟩:=F2.mp q
 exact Bw.mpr ⟨p,hp,of_decide_eq_true e⟩
theorem sW:∀{l:List κ} {k:κ},l.Nodup->¬ k∈l->(l++[k]).Nodup
 | [],k,_,_=>by simp
 | a :: r,k,h,hk=>by
  obtain ⟨h1,h2⟩:=DM.mp h
  show (a :: (r++[k])).Nodup
  refine DM.mpr ⟨λm =>?_,sW h2 λm=>hk (BR.mpr (Or.inr m))⟩
  rcases BC.mp m with q | q
  ·exact h1 q
  ·exact hk (BR.mpr (Or.inl (Bz.mp q).symm))
theorem yh {kvs:List (κ×V)}{k:κ}(v:V)(hn:(kvs.map (·.1)).Nodup)(h:cy kvs k=none):((putK kvs k v).map (·.1)).Nodup:=by
 rw[v9 v h,BB]
 exact sW hn (pA h)
end
open PySem PyProof.Rows
section
variable  {X:Cx}
def zX (ns ms:List Int)(j:Nat):Bool:=ns.getD j 0 == ms.getD j 0
theorem wk {ns ms:List Int}(h:ns.length=ms.length):((Cc ns.length).all λj=>zX ns ms j)=decide (ns=ms):=by
 rw[CO,decide_eq_true_iff,D5]
 constructor
 ·intro hh
  refine Jl h λj h1 h2 =>?_
  have:=hh j (Cu.mpr h1)
  unfold zX at this
  rw[B8,B8,BA h1,BA h2] at this
  exact of_decide_eq_true (by simpa using this)
 ·rintro rfl j _
  exact beq_self_eq_true _
theorem intAt {ns:List Int}{us:List Bh}(r:Vals (ns.map V.int) us){j:Nat}(h:j<us.toArray.size):∃t,us.toArray[j] = .int (ns.getD j 0) t:=by
 have l:=r.length
 rw[Bg] at l
 rw[Bm] at h
 have e1:(ns.map V.int)[j]? = some (.int (ns.getD j 0)):=by
  rw[BQ,B8,BA (by omega)]
  rfl
 obtain ⟨u,g1,q1⟩:=r.get e1
 have f1:us.toArray[j]=u:=by simp[Bt] at g1;obtain ⟨_,g⟩:=g1;simpa using g
 rw[f1]
 exact q1
theorem nG {k:Nat}(hr:bL k X.A):OpR X (CV .NotEq) (λx y H Q=>∃(a b:Addr) (ns ms:List Int),x = .ref a/\y = .ref b/\SqL X.K H a (ns.map V.int)/\SqL X.K H b (ms.map V.int)/\Q (.bl (!decide (ns=ms))) H):=by
 intro pins s σ H x y v u Q I rx ry h
 obtain ⟨a,b,ns,ms,rfl,rfl,h1,h2,q⟩:=h
 cases (show v=BN a from rx)
 cases (show u=BN b from ry)
 obtain ⟨its,r1,⟨⟨c1,d1,da1,sl1⟩,n1,e1,k1,_,k3⟩,_⟩:=I.list h1
 obtain ⟨its2,r2,⟨⟨c2,d2,da2,sl2⟩,n2,e2,g1,_,g3⟩,_⟩:=I.list h2
 simp only at k1 k3 g1 g3
 subst k1 k3 g1 g3
 have l1:=r1.length
 have l2:=r2.length
 rw[Bg] at l1 l2
 have hu:=hr.un
 have hu1:X.A.units<cLine:=by omega
 by_cases hl:ns.length=ms.length
 ·refine DE (op :=.NotEq) ⟨_,e1,rfl⟩ ⟨_,e2,rfl⟩ GH Gh (FV _ _) (Jr a b its.toArray its2.toArray n1 n2 d1 d2 sl1 sl2 (by rw[Bm,Bm];omega) (zX ns ms)) ⟨e1,e2,?_,?_⟩ hu1
  ·intro j h1 h2
   obtain ⟨t1,g1⟩:=intAt r1 h1
   obtain ⟨t2,g2⟩:=intAt r2 h2
   rw[g1,g2]
   exact D8 _ t1 _ t2
  ·have ez:its.toArray.size=ns.length:=by rw[Bm];omega
   rw[ez,wk hl]
   exact ⟨(λz=>nomatch z),⟨.bl _,H,I,rfl,q⟩⟩
 ·have ne:ns≠ms:=λz=>hl (by rw[z])
  rw[decide_eq_false ne] at q
  refine DE (op :=.NotEq) ⟨_,e1,rfl⟩ ⟨_,e2,rfl⟩ GH Gh (FV _ _) (G4 a b its.toArray its2.toArray n1 n2 d1 d2 sl1 sl2 (by simp;omega)) ⟨e1,e2,?_⟩ hu1
  exact ⟨(λz=>nomatch z),⟨.bl true,H,I,rfl,q⟩⟩
end
open PySem PyProof.Rows
section
variable  {X:Cx}
def Wd (i:Int):Prop:=i.natAbs<2 ^ 4000
def A5 (_ j:Int):Prop:=0<j/\Wd j
theorem wo:OpR X (binaryOp .FloorDiv) (rI A5 λi j =>.int (i/j)):=opI λi j _ _ _ _ _ hc q=>by
 have h1:(0:Int)<j:=hc.1
 have h2:j.natAbs.log2<9000:=by
  have:j.natAbs.log2<4000:=(Nat.log2_lt (by omega)).mpr hc.2
  omega
 refine floordiv_int (by omega) ?_ (.inl (PyProof.noPylong_of_log2 h2))
 rw[Gu i (by omega)]
 exact q
end
section
variable  {P:BD}{w:Cb}{K:Be}{mg:Str->Option Bh}{base:Heap}
end
end L2
namespace L2.Rev
open PySem
open Sem (wp)
section
variable  {prog:BD}{w:Cb}{A:B9}{E:Bh->Bi->Prop}{s:Bi}
end
end L2.Rev
namespace L2
open PySem PySem.Spec PyProof.Rows
section
variable  {X:Cx}
theorem pB:CM "reversed" = some (.type "reversed"):=by decide +kernel
theorem pC:∀{xs:List V} {us:List Bh},Vals xs us->Vals xs.reverse us.reverse
 | [],[],_ =>.nil
 | x :: xs,u :: us,.cons h t=>by
  rw[Dn,Dn]
  exact (pC t).append (.cons h .nil)
end
end L2
namespace L2.Rem
open PySem PySem.SeqAt PySem.MeetsSeq
open AutoSeq1 (wpAny_loadPart')
end L2.Rem
namespace L2
open PySem PySem.Spec PyProof.Rows
section
variable  {X:Cx}
theorem any_range {bs:List Bool}:((Cc bs.length).any λi=>bs.getD i false)=bs.any id:=by
 rw[CO,F2,F2]
 constructor
 ·rintro ⟨i,hi,h⟩
  have lt:=Cu.mp hi
  rw[B8,BA lt] at h
  exact ⟨bs[i],EI lt,h⟩
 ·rintro ⟨b,hb,h⟩
  obtain ⟨i,lt,e⟩:=HZ hb
  refine ⟨i,Cu.mpr lt,?_⟩
  rw[B8,BA lt,e]
  exact h
theorem wq (hc:X.calm=true):cz X (.builtin "any") (λxs H Q=>∃(p:Addr) (bs:List Bool),xs=[.ref p]/\SqL X.K H p (bs.map V.bl)/\Q (.bl (bs.any id)) H):=by
 intro pins s σ H xs us Q I r h
 obtain ⟨p,bs,rfl,hs,q⟩:=h
 obtain ⟨u,rfl,ru⟩:=vals1 r
 cases (show u=BN p from ru)
 obtain ⟨its,rv,pl,hz⟩:=I.list hs
 have l:=rv.length
 rw[Bg] at l
 have hpl:p<s.heap.objs.size:=by obtain ⟨o,_,e,_⟩:=pl;exact Bq e
 refine call_any_walk (FL pl.isList ?_)
 have hd:X.A.in1.handled=none:=I.ok.hd hc
 refine ⟨s.heap.objs.size,_,_,_,_,_,_,rfl,JO hd s.heap.objs.size p (BI hpl) its.toArray,⟨⟨_,Bp _ rfl,rfl,rfl⟩,?_⟩,jh rv,λh' tk k =>?_⟩
 ·exact pl.isList.at λo e=>Bf _ e
 ·have e:((Cc its.toArray.size).any λi=>bs.getD i false)=bs.any id:=by rw[Bm, <- l,any_range]
  rw[e]
  refine ⟨.bl (bs.any id),H,I.kept (t':=tk) (λb o eb=>k b o ?_ (Bf _ eb)),rfl,q⟩
  intro hb
  have:b=s.heap.objs.size:=by simpa using hb
  exact absurd (Bq eb) (by rw[this];exact CN _)
end
open PySem PySem.Spec PyProof.Rows
section
variable  {X:Cx}
def y3 (K:Be):R2:=λx y H Q=>∃a b xs ys,x = .ref a/\y = .ref b/\SqT K H a xs/\SqT K H b ys/\ys≠[]/\xs.length+ys.length<=BJ/\(xs=[]->Q (.ref b) H)/\(xs≠[]->∀p,H p=none->Q (.ref p) (upd H p (.tup (xs++ys))))
theorem kh:OpR X (binaryOp .Add) (y3 X.K):=by
 intro pins s σ H x y v u Q I rx ry h
 obtain ⟨a,b,xs,ys,rfl,rfl,ha,hb,hy,hz,q1,q2⟩:=h
 by_cases hx:xs=[]
 ·cases rx
  cases ry
  obtain ⟨its,r1,p1,_⟩:=I.tuple ha
  obtain ⟨its2,r2,p2,_⟩:=I.tuple hb
  obtain ⟨⟨c1,d1,da1,s1⟩,o1,k1,n1,g1⟩:=id p1
  obtain ⟨⟨c2,d2,da2,s2⟩,o2,k2,n2,g2⟩:=id p2
  simp only at k1 g1 k2 g2
  subst k1 g1 k2 g2
  have e0:its=[]:=r1.ig.mpr hx
  exact GB ⟨_,o1,rfl⟩ ⟨_,o2,rfl⟩ F6 Hg EM Ez (Ej _ _)
   (tuple_addW0 a b its.toArray its2.toArray n1 n2 d1 d2 s1 s2 (by simp[e0])) ⟨o1,o2,⟨.ref b,H,I,rfl,q1 hx⟩⟩
 ·exact sr pins s σ H _ _ v u Q I rx ry ⟨a,b,xs,ys,rfl,rfl,ha,hb,hx,hz,λz=>absurd z hy,λ_=>q2 hx⟩
end
open PySem PySem.Spec PyProof.Rows
section
variable  {X:Cx}
theorem pD:cz X (.builtin "len") (λxs H Q=>∃(a:Addr) (ys:List V),xs=[.ref a]/\H a=some (oZ X.w a ys)/\ys.length<1000/\Q (.int ys.length) H):=by
 intro pins s σ H xs us Q I r h
 obtain ⟨a,ys,rfl,ha,hl,q⟩:=h
 obtain ⟨u,rfl,ru⟩:=vals1 r
 cases (show u=BN a from ru)
 obtain ⟨⟨es,⟨ep,t,ho,T,_⟩,rv⟩,_⟩:=(show ba X.prog X.w H s.heap a (oZ X.w a ys) from I.hok a _ ha)
 have l:=rv.length
 have l2:es.size=ys.length:=by simpa using l.symm
 refine call_len_set ho ⟨rfl,rfl,rfl⟩ rfl (by have:=T.fits;rwa [Di] at this) (by omega) ?_
 rw[l2]
 exact ⟨.int ys.length,H,I.tok _,⟨_,rfl⟩,q⟩
end
open PySem PySem.Spec PyProof.Rows
theorem uM (ns:List Int)(lo hi:Option Int):∃ms:List Int,ie (ns.map V.int) lo hi=ms.map V.int/\ms.length<=ns.length/\∀v∈ms,v∈ns:=by
 refine ⟨(ns.drop (HT.sIx (ns.map V.int).length 0 lo)).take (HT.sIx (ns.map V.int).length (ns.map V.int).length hi-HT.sIx (ns.map V.int).length 0 lo),?_,?_,λv hv=>Eh (Dc hv)⟩
 ·unfold ie
  rw[G7,JT]
 ·rw[CA,DT]
  omega
def Pt (n:Nat)(H:Hp)(p:Addr):Prop:=∃xs:List Int,xs.length=n/\H p=some (.lst (xs.map V.int))
structure Bu (n:Nat)(p:Addr)(H H':Hp):Prop where
 pot:Pt n H' p
 st:∀q o,q≠p->H q=some o->H' q=some o
theorem Pt.same {n:Nat}{p:Addr}{H H1:Hp}(a:Pt n H p)(s:ax H H1):Pt n H1 p:=by obtain ⟨xs,l,e⟩:=a;exact ⟨xs,l,s _ _ e⟩
theorem Pt.ne {n:Nat}{p b:Addr}{H:Hp}(a:Pt n H p)(h:H b=none):b≠p:=by
 obtain ⟨xs,_,e⟩:=a
 exact C6 (aA e h)
theorem Pt.neT {n:Nat}{p b:Addr}{H:Hp}{ys:List V}(a:Pt n H p)(h:H b=some (.tup ys)):b≠p:=by
 obtain ⟨xs,_,e⟩:=a
 exact jK h e (by intro z;cases z)
theorem Bu.refl {n:Nat}{p:Addr}{H:Hp}(h:Pt n H p):Bu n p H H:=⟨h,λ_ _ _ z=>z⟩
theorem Bu.trans {n:Nat}{p:Addr}{H H1 H2:Hp}(a:Bu n p H H1)(b:Bu n p H1 H2):Bu n p H H2:=⟨b.pot,λq o m z=>b.st q o m (a.st q o m z)⟩
theorem Bu.same {n:Nat}{p:Addr}{H H1 H2:Hp}(a:Bu n p H H1)(b:ax H1 H2):Bu n p H H2:=⟨a.pot.same b,λq o m z=>b _ _ (a.st q o m z)⟩
theorem Bu.put {n:Nat}{p:Addr}{H H1:Hp}(a:Bu n p H H1){ys:List Int}(l:ys.length=n):Bu n p H (upd H1 p (.lst (ys.map V.int))):=⟨⟨ys,l,af⟩,λq o m z=>by rw[ao m];exact a.st q o m z⟩
theorem Bu.ki {n:Nat}{p l:Addr}{H H1:Hp}(a:Bu n p H H1)(hl:H l=none)(np:l≠p)(o:HO):Bu n p H (upd H1 l o):=⟨by obtain ⟨xs,z,e⟩:=a.pot;exact ⟨xs,z,by rw[ao np.symm];exact e⟩,λq u m z=>by rw[ao (aA z hl)];exact a.st q u m z⟩
theorem Bu.tup {n:Nat}{p q:Addr}{H H1:Hp}(a:Bu n p H H1)(h:Pt n H p){xs:List V}(t:H q=some (.tup xs)):H1 q=some (.tup xs):=a.st q _ (h.neT t) t
theorem Bu.fresh {n:Nat}{p:Addr}{H H':Hp}{o:HO}(h:H p=none)(b:Bu n p (upd H p o) H'):ax H H':=λq u e=>by
 have m:q≠p:=aA e h
 refine b.st q u m ?_
 rw[ao m]
 exact e
variable  {X:Cx}
open PySem PySem.Spec PyProof.Rows
section
variable  {X:Cx}
def y6 (K:Be):R2:=λx y H Q=>∃a b xs ys,x = .ref a/\y = .ref b/\SqT K H a xs/\SqT K H b ys/\xs.length+ys.length<=BJ/\(xs=[]->Q (.ref b) H)/\(ys=[]->Q (.ref a) H)/\(xs≠[]->ys≠[]->∀p,H p=none->Q (.ref p) (upd H p (.tup (xs++ys))))
theorem pE:OpR X (binaryOp .Add) (y6 X.K):=by
 intro pins s σ H x y v u Q I rx ry h
 obtain ⟨a,b,xs,ys,rfl,rfl,ha,hb,hz,q1,q2,q3⟩:=h
 by_cases hx:xs=[]
 ·cases rx
  cases ry
  obtain ⟨its,r1,p1,_⟩:=I.tuple ha
  obtain ⟨its2,r2,p2,_⟩:=I.tuple hb
  obtain ⟨⟨c1,d1,da1,s1⟩,o1,k1,n1,g1⟩:=id p1
  obtain ⟨⟨c2,d2,da2,s2⟩,o2,k2,n2,g2⟩:=id p2
  simp only at k1 g1 k2 g2
  subst k1 g1 k2 g2
  have e0:its=[]:=r1.ig.mpr hx
  exact GB ⟨_,o1,rfl⟩ ⟨_,o2,rfl⟩ F6 Hg EM Ez (Ej _ _)
   (tuple_addW0 a b its.toArray its2.toArray n1 n2 d1 d2 s1 s2 (by simp[e0])) ⟨o1,o2,⟨.ref b,H,I,rfl,q1 hx⟩⟩
 ·exact sr pins s σ H _ _ v u Q I rx ry ⟨a,b,xs,ys,rfl,rfl,ha,hb,hx,hz,q2,λhy=>q3 hx hy⟩
end
end L2
namespace L2.RvT
open PySem PyProof.Rows
open Sem (wp)
theorem iU:Manifest.owners.lookup (String.ofList ['d', 'e', 's', 'r', 'e', 'v', 'e', 'r'].reverse)=some Manifest.sig_reversed:=by kernel_rfl
theorem slot_next:Slot "reversed" "__next__" "reversed.__next__" :=
 .of (owner := "reversed") (n := "__next__") (by rw[E4,DQ];kernel_rfl) (by decide +kernel) (by decide +kernel) (by decide +kernel)
  (by first | exact .inl (by decide +kernel) | exact .inr (by decide +kernel)) (by rw[Ee];kernel_rfl)
theorem entry_next:entryFor table "reversed.__next__" = some Builtin.«reversed.__next__» := entryFor_of_tree (by kernel_rfl)
theorem args_next (a:Bh):argsOk "reversed.__next__" ⟨[a],[]⟩:=by
 unfold argsOk;rw[IH (id := "reversed.__next__") (n:=['_', '_', 't', 'x', 'e', 'n', '_', '_']) (o:=['d', 'e', 's', 'r', 'e', 'v', 'e', 'r']) (by kernel_rfl) iU];kernel_rfl
theorem mD:Slot "reversed" "__iter__" "reversed.__iter__" :=
 .of (owner := "reversed") (n := "__iter__") (by rw[E4,DQ];kernel_rfl) (by decide +kernel) (by decide +kernel) (by decide +kernel)
  (by first | exact .inl (by decide +kernel) | exact .inr (by decide +kernel)) (by rw[Ee];kernel_rfl)
theorem uN (a:Bh):argsOk "reversed.__iter__" ⟨[a],[]⟩:=by
 unfold argsOk;rw[IH (id := "reversed.__iter__") (n:=['_', '_', 'r', 'e', 't', 'i', '_', '_']) (o:=['d', 'e', 's', 'r', 'e', 'v', 'e', 'r']) (by kernel_rfl) iU];kernel_rfl
theorem qQ:entryFor table "reversed.__iter__" = some Builtin.«dict_keyiterator.__iter__» :=
 entryFor_alias (id' := "dict_keyiterator.__iter__") (by kernel_rfl) (by first | rfl | decide +kernel | (unfold String.splitOn;simp +decide [String.splitOnAux])) (by decide +kernel) (by kernel_rfl)
theorem zY:typeLookup (.type "tuple") "__reversed__" = pure none:=by rw[E4,DQ];kernel_rfl
theorem zZ:typeLookup (.type "reversed") "__len__" = pure none:=by rw[E4,DQ];kernel_rfl
theorem pF:typeLookup (.type "reversed") "__length_hint__" = pure (some (.builtin "reversed.__length_hint__")):=by rw[E4,DQ];kernel_rfl
theorem sub_self:isSubtype (.type "reversed") (.type "reversed")=pure true:=by rw[Ee];kernel_rfl
theorem wt:isSubtype (.type "tuple") (.type "dict")=pure false:=by rw[Ee];kernel_rfl
theorem uO:Slot "reversed" "__init__" "object.__init__" :=
 .of (owner := "object") (n := "__init__") (by rw[E4,DQ];kernel_rfl) (by decide +kernel) (by decide +kernel) (by decide +kernel)
  (by first | exact .inl (by decide +kernel) | exact .inr (by decide +kernel)) (by rw[Ee];kernel_rfl)
theorem called:TypeCalled "reversed" "reversed.__new__" "object.__init__" :=
 ⟨by decide +kernel,by decide +kernel,⟨_,_,HM⟩,madeBy_type HM PySem.F.lookup_reversed_new (by decide +kernel),by decide +kernel,by rw[Ee];kernel_rfl,uO⟩
def rvO (t:Addr)(i:Int):Obj:={ cls :=.type "reversed",data :=.fields #[.ref t,DX i] }
def gz (h:Heap)(a t:Addr)(i:Int):Prop:=∃o,h.get? a=some o/\o.cls = .type "reversed" /\ o.data = .fields #[.ref t,DX i]
section
variable  {prog:BD}{w:Cb}{A:B9}{E:Bh->Bi->Prop}{s:Bi}
theorem gz.typeIs {a t:Addr}{i:Int}(x:gz s.heap a t i):s.TypeIs (.ref a) "reversed" := let ⟨o,ho,hc,_⟩:=x;⟨o,ho,hc⟩
theorem gz.at {h h':Heap}{a t:Addr}{i:Int}(x:gz h a t i)(e:∀o,h.get? a=some o->h'.get? a=some o):gz h' a t i:=let ⟨o,ho,r⟩:=x;⟨o,e _ ho,r⟩
theorem pH {h h':Heap}{a:Addr}{its:Array Bh}(x:IsTup h a its)(e:∀o,h.get? a=some o->h'.get? a=some o):IsTup h' a its:=let ⟨o,ho,r⟩:=x;⟨o,e _ ho,r⟩
theorem uP (t:Addr)(its:Array Bh)(hz:(its.size:Int)<2 ^ 63) :
  Meets (Builtin.«reversed.__new__» ⟨[.type "reversed",.ref t],[]⟩) (λ_ R s=>IsTup s.heap t its/\R (.ok (.ret (.ref s.heap.objs.size))) { s with heap:=s.heap.push (rvO t ((its.size:Int)-1)),toks:=s.toks+1+1 }) :=
 .of_wp λprog w A R s h=>by
  obtain ⟨ht,h⟩:=h
  unfold Builtin.«reversed.__new__»
  refine Bd (DH (newClass_reversed _) ?_)
  try dsimp only
  refine Bd (DH (a:=()) (by first | rfl | kernel_rfl) ?_)
  refine Bd (DH (a:=()) (by first | rfl | kernel_rfl) ?_)
  try dsimp only
  refine Bd (E3 ht.typeIs zY ?_)
  try dsimp only
  refine Bd ?_
  show BL _ _ (isInstance (.ref t) (.type "dict") >>= _) _ _ s
  refine Bd (Fl (T := "tuple") (b:=false) ht.typeIs wt ?_)
  refine C4 (λhab=>absurd hab (by decide)) (λ_ =>?_)
  refine Bd (E3 ht.typeIs B3.lookup ?_)
  refine C4 (λ_=>Bk ?_) (λhab=>absurd (by decide +kernel) hab)
  refine C4 (λhab=>absurd hab (by decide)) (λ_ =>?_)
  refine Bd (len_tuple ht hz ?_)
  refine Bd (DH (a:=some (its.size:Int)) rfl ?_)
  refine Bd ?_
  show BL _ _ (newObj (.type "reversed") (.fields #[.ref t,DX ((its.size:Int)-1)])) _ _ _
  exact Ca (Bk ⟨_,rfl,h⟩)
theorem wu {t:Addr}{its:Array Bh}{Q:Bh->Bi->Prop}(ht:IsTup s.heap t its)(hz:(its.size:Int)<2 ^ 63)
  (h:Q (.ref s.heap.objs.size) { s with heap:=s.heap.push (rvO t ((its.size:Int)-1)),toks:=s.toks+1+1 }):BL (B1 prog w) A (call (.type "reversed") [.ref t]) Q E s:=by
 refine HE called (by decide) (PySem.F.typeCall_reversed_1 _) (PySem.F.newCall_reversed_1 _) (λobj=>Fc obj _) PySem.F.entry_reversed_new (uP t its hz) ⟨ht,?_⟩
 exact ⟨⟨_,Bp _ rfl,rfl⟩,h⟩
theorem next_item {I t:Addr}{i:Nat}{its:Array Bh}{x:Bh}{Q:Option Bh->Bi->Prop}(hit:gz s.heap I t (i:Int))(ht:IsTup s.heap t its)(hx:its[i]? = some x)(hi:(i:Int)<2 ^ 63)
  (hQ:∀h' tk,gz h' I t ((i:Int)-1)->Heap.SameBut I s.heap h'->Q (some x) { s with heap:=h',toks:=tk }):BL (B1 prog w) A (pyNext (.ref I)) Q E s:=by
 obtain ⟨o,ho,hc,hd⟩:=id hit
 unfold pyNext
 refine Bd (DC (Ct (name:=Str.ofString "__next__") hit.typeIs slot_next (Co slot_next hit.typeIs entry_next ?_ (args_next _))))
 unfold Builtin.«reversed.__next__»
 refine Bd (DH (a:=(BN I,[])) rfl ?_)
 try dsimp only
 refine Bd (C3 ho hd (x :=.ref t) rfl ?_)
 refine Bd (C3 ho hd (x:=DX (i:Int)) rfl ?_)
 show BL _ _ (if (i:Int)<0 then _ else _) _ _ s
 rw[if_neg (by omega)]
 show BL _ _ (specialOf (.ref t) "__getitem__" >>= _) _ _ s
 refine Bd (E3 ht.typeIs B3.lookup ?_)
 refine C4 (λhab=>absurd hab (by decide)) (λ_ =>?_)
 refine Bd (wpAny_mkInt ?_)
 refine Bd (DC ?_)
 refine PyProof.Rows.getItem_tuple (j:=i) ht (by omega) hi (Ie (by omega) (by have:=(C9.mp hx).1;omega)) hx ?_
 refine Bd (C3 ho hd (x:=DX (i:Int)) rfl ?_)
 show BL _ _ (setField (.ref I) 1 (DX ((i:Int)-1)) >>= λ_=>ret x) _ _ _
 refine Bd (FP ho hd (by simp) ?_)
 refine Bk ⟨x,rfl,Bk (hQ _ _ ?_ (EA ..))⟩
 exact ⟨_,CB _ ho (FR (D9 hd _)),(IL ..).trans hc,by rw[D9 hd];simp⟩
theorem next_end {I t:Addr}{Q:Option Bh->Bi->Prop}(hh:A.handled=none)(hit:gz s.heap I t (-1))
  (hQ:∀h',Heap.ExtBut I s.heap h'->Q none { s with heap:=h' }):BL (B1 prog w) A (pyNext (.ref I)) Q E s:=by
 obtain ⟨o,ho,hc,hd⟩:=id hit
 unfold pyNext
 refine Bd (DC (Ct (name:=Str.ofString "__next__") hit.typeIs slot_next (Co slot_next hit.typeIs entry_next ?_ (args_next _))))
 unfold Builtin.«reversed.__next__»
 refine Bd (DH (a:=(BN I,[])) rfl ?_)
 try dsimp only
 refine Bd (C3 ho hd (x :=.ref t) rfl ?_)
 refine Bd (C3 ho hd (x:=DX (-1)) rfl ?_)
 show BL _ _ (if (-1:Int)<0 then _ else _) _ _ s
 rw[if_pos (by decide)]
 refine Bd (D0 ?_)
 refine Bd ?_
 show BL _ _ (setField (.ref I) 1 (DX (-1)) >>= λ_=>setField (.ref I) 0 .none) _ _ s
 refine Bd (FP ho hd (by simp) ?_)
 have h1:=CB (Obj.mapFields λfs=>fs.setIfInBounds 1 (DX (-1))) ho (FR (D9 hd _))
 refine FP h1 (D9 hd _) (by simp) ?_
 refine Bd ?_
 show BL _ _ (newExc (.type "StopIteration") [] >>= _) _ _ _
 refine Bd ?_
 simp only[newExc,newTuple]
 refine Bd (Ca ?_ (by size_fits))
 refine Bd (m:=firstArgMember _ _) (DH (a:=DI) (by first | rfl | (simp only[firstArgMember];rfl)) ?_)
 refine Ca ?_ (by size_fits)
 simp only[raiseNew]
 refine Bd (wpAny_handled ?_)
 first | rw[show A.in1.handled=none from hh] | rw[hh]
 refine Bd (Bk (wpAny_throw ?_))
 refine Bd (Fl (T := "StopIteration") (b:=true) ⟨_,Bp _ rfl,rfl⟩ HV ?_)
 refine Bk (hQ _ ?_)
 refine Jm (Jm (λb o hb eo =>?_) _) _
 exact (Cm _ _ (C6 hb)).trans ((Cm _ _ (C6 hb)).trans eo)
theorem sZ {I t:Addr}{i:Int}{Q:Bh->Bi->Prop}(hit:gz s.heap I t i)(h:Q (.ref I) s):BL (B1 prog w) A (pyIter (.ref I)) Q E s:=by
 refine FN hit.typeIs mD (Co mD hit.typeIs qQ ?_ (uN _))
 show BL _ _ (ret (.ref I)) _ _ s
 exact Bk ⟨_,rfl, "reversed",_,hit.typeIs,slot_next.lookup,h⟩
theorem mE:Slot "reversed" "__length_hint__" "reversed.__length_hint__" :=
 .of (owner := "reversed") (n := "__length_hint__") pF (by decide +kernel) (by decide +kernel) (by decide +kernel)
  (by first | exact .inl (by decide +kernel) | exact .inr (by decide +kernel)) sub_self
theorem qR:entryFor table "reversed.__length_hint__" = some Builtin.«reversed.__length_hint__» := entryFor_of_tree (by kernel_rfl)
theorem uQ (a:Bh):argsOk "reversed.__length_hint__" ⟨[a],[]⟩:=by
 unfold argsOk;rw[IH (id := "reversed.__length_hint__") (n:=['_', '_', 't', 'n', 'i', 'h', '_', 'h', 't', 'g', 'n', 'e', 'l', '_', '_']) (o:=['d', 'e', 's', 'r', 'e', 'v', 'e', 'r']) (by kernel_rfl) iU];kernel_rfl
theorem uS {I t:Addr}{its:Array Bh}{Q:Bh->Bi->Prop}(hit:gz s.heap I t ((its.size:Int)-1))(ht:IsTup s.heap t its)(hz:(its.size:Int)<2 ^ 63)
  (h:∀u tk,Q (.int its.size u) { s with toks:=tk }):BL (B1 prog w) A (call (.builtin "reversed.__length_hint__") [.ref I]) Q E s:=by
 obtain ⟨o,ho,hc,hd⟩:=id hit
 refine Co mE hit.typeIs qR ?_ (uQ _)
 unfold Builtin.«reversed.__length_hint__»
 refine Bd (DH (a:=BN I) rfl ?_)
 refine Bd (C3 ho hd (x :=.ref t) rfl ?_)
 refine C4 (λhab=>absurd hab (show ¬ (false=true) from Bo)) (λ_ =>?_)
 refine Bd (len_tuple ht hz ?_)
 refine Bd (DH (a:=some (its.size:Int)) rfl ?_)
 refine Bd (C3 ho hd (x:=DX ((its.size:Int)-1)) rfl ?_)
 show BL _ _ (if (its.size:Int)<((its.size:Int)-1)+1 then _ else retInt (((its.size:Int)-1)+1)) _ _ _
 rw[if_neg (by omega),show ((its.size:Int)-1)+1=its.size by omega]
 exact Bd (wpAny_mkInt (Bk ⟨_,rfl,h _ _⟩))
theorem yi {I t:Addr}{its:Array Bh}{Q:Bool->Bi->Prop}(hit:gz s.heap I t ((its.size:Int)-1))(ht:IsTup s.heap t its)(hz:its.size<=2 ^ 24)(h:∀b tk,Q b { s with toks:=tk }):BL (B1 prog w) A (Gr (.ref I)) Q E s:=by
 unfold Gr
 refine Bd (E3 hit.typeIs zZ ?_)
 wp_delta
 refine Bd (E3 hit.typeIs pF ?_)
 generalize hid:("reversed.__length_hint__" : String)=id0
 wp_delta
 rw[show splitId id0=some ("reversed", "__length_hint__") from by subst hid;decide +kernel]
 subst hid
 refine Bd (Fl (T := "reversed") (b:=true) hit.typeIs sub_self ?_)
 refine C4 (λhab=>absurd hab (by decide)) (λ_ =>?_)
 refine C4 (λhab=>absurd hab (by decide +kernel)) (λ_ =>?_)
 refine Bd (D0 ?_)
 refine Bd (DH (mE.bind _) ?_)
 refine Bd (DC (uS hit ht (by omega) λu tk =>?_))
 show BL _ A (asInt? (.int (its.size:Int) u) >>= _) Q E _
 have ea:asInt? (Ds (its.size:Int) u)=pure (some (its.size:Int)):=rfl
 rw[ea,pure_bind]
 generalize hn:(its.size:Int)=n
 dsimp only
 refine C4 (λhab=>absurd hab ?_) (λ_ =>?_)
 ·unfold Builtin.List.listFitsIndex;simp;omega
 refine C4 (λhab=>absurd hab (by omega)) (λ_ =>?_)
 refine C4 (λhab=>absurd hab ?_) (λ_ =>?_)
 ·rw[L2.oF (by rw[Hf];omega)];exact Bo
 exact Bk (h _ _)
end
theorem walk {prog:BD}{w:Cb}{A:B9}(hh:A.handled=none)(I t:Addr)(hne:t≠I)(its:Array Bh)(hz:(its.size:Int)<2 ^ 63) :
  Walks prog w A I [I,t] [I] its.size (λi v=>its[its.size-1-i]? = some v) (λi h=>i<=its.size/\gz h I t ((its.size:Int)-1-(i:Int))/\IsTup h t its) where
 sub:=λb hb=>by simp at hb;simp[hb]
 frame:=λ_ _ _ x hk=>⟨x.1,x.2.1.at λo e=>hk I (by simp) o e,pH x.2.2 λo e=>hk t (by simp) o e⟩
 item:=λi s Q E hi x hQ=>by
  have e:(its.size:Int)-1-(i:Int)=((its.size-1-i:Nat):Int):=by omega
  have hit:=x.2.1
  rw[e] at hit
  have hx:its[its.size-1-i]? = some (its[its.size-1-i]'(by omega)):=Cw (by omega)
  refine next_item hit x.2.2 hx (by omega) λh' tk hit' hs' =>?_
  have e2:((its.size-1-i:Nat):Int)-1=(its.size:Int)-1-((i+1:Nat):Int):=by omega
  rw[e2] at hit'
  exact hQ _ h' tk hx ⟨hi,hit',pH x.2.2 λo eo=>(hs'.2 t hne).trans eo⟩ λb o hb eo=>hs'.extBut b o (λh=>hb (by simp[h])) eo
 done:=λs Q E x hQ=>by
  have e:(its.size:Int)-1-(its.size:Int) = -1:=by omega
  have hit:=x.2.1
  rw[e] at hit
  exact next_end hh hit λh' he'=>hQ h' s.toks λb o hb eo=>he' b o (λh=>hb (by simp[h])) eo
 self:=λ_ _ _ _ x hQ=>sZ x.2.1 hQ
section
variable  {prog:BD}{w:Cb}{A:B9}{E:Bh->Bi->Prop}{s:Bi}
theorem uT {R:Result->Bi->Prop}{I t:Addr}{items:Array Bh}(hh:A.handled=none)(hit:gz s.heap I t ((items.size:Int)-1))(hl:IsTup s.heap t items)(hne:t≠I)(hlen:items.size<=2 ^ 24)
  (S:Addr) (hSI:S≠I) (hSl:S≠t) (res:Bh) (c₀:Nat) (hS:s.heap.get? S=some { cls :=.type "list",data :=.seq #[] c₀ })
  (hR:∀h' tk acc' c',(∀b o,b≠S->b≠I->s.heap.get? b=some o->h'.get? b=some o)->h'.get? S=some { cls :=.type "list",dict:=none,data :=.seq acc' c',slots := #[] } →
   ItemsOf (λi v=>items[items.size-1-i]? = some v) acc' items.size->R (.ok (.ret res)) { s with heap:=h',toks:=tk }) :
  BL (B1 prog w) A.in1 (Cz (.ref S) (.ref I) res)
   (λfin s'=>match fin with | .done f=>R (.ok f) s' | .again c'=>c'.quiet=true/\GR (B1 prog w) A c' R s') (λe s'=>R (.error e) s') s:=by
 have hSf:S∉[I,t]:=λhm=>by
  rcases BR.mp hm with e | hm
  ·exact hSI e
  ·exact hSl (Bz.mp hm)
 have W:=(walk (prog:=prog) (w:=w) (A:=A.in1) hh I t hne items (by omega)).toS
 unfold Cz
 refine Bd (Ec (T := "reversed") hit.typeIs ?_)
 have h1:G3 (.ref S) (.ref I)=false:=by simp[G3,hSI]
 have h2:(Ew "reversed" == Ew "list")=false:=by decide +kernel
 have h3:(Ew "reversed" == Ew "tuple")=false:=by decide +kernel
 simp only[h1,h2,h3,Bool.or_false,CK,if_false]
 refine Bd (sZ hit ?_)
 refine Bd (CG (yi hit hl hlen λb tk =>?_))
 refine C4 (λ_ =>?_) (λ_=>Bk ⟨DL GN _,?_⟩)
 ·refine Bd (D0 ?_)
  refine Bd ?_
  show BL _ A.in1 (updateSeq S (·.push .none) >>= λ_=>updateSeq S (·.pop)) _ _ _
  refine Bd (E5 hS rfl ?_)
  have hS₂:=CB (Cs (·.push DI)) hS rfl
  refine E5 (hz:=by seq_fits) hS₂ rfl ?_
  have hS₃:=CB (Cs (·.pop)) hS₂ rfl
  have oth:∀b o,b≠S->s.heap.get? b=some o->((s.heap.update S (Cs (·.push DI))).update S (Cs (·.pop))).get? b=some o :=
   λb o hb e=>(Cm _ _ (C6 hb)).trans ((Cm _ _ (C6 hb)).trans e)
  refine Bk ⟨DL GN _,HQ W (by rw[Hf];omega) S hSf res items.size 0 _ _ _ rfl (BU _) ⟨BU _,by simpa using hit.at λo e=>oth I o (C6 hSI) e,pH hl λo e=>oth t o (C6 hSl) e⟩ hS₃ (J0 _) λs' acc' c' hm hS' hacc =>?_⟩
  rw[JU hm]
  refine hR s'.heap s'.toks acc' c' (λb o hb hbI e=>hm.heap b o (λhmem =>?_) (oth b o hb e)) hS' hacc
  rcases BR.mp hmem with e' | hmem
  ·exact hb e'
  ·exact hbI (Bz.mp hmem)
 refine HQ W (by rw[Hf];omega) S hSf res items.size 0 _ #[] c₀ rfl (BU _) ⟨BU _,by simpa using hit,hl⟩ hS (J0 _) λs' acc' c' hm hS' hacc =>?_
 rw[JU hm]
 refine hR s'.heap s'.toks acc' c' (λb o hb hbI e=>hm.heap b o (λhmem =>?_) e) hS' hacc
 rcases BR.mp hmem with e' | hmem
 ·exact hb e'
 ·exact hbI (Bz.mp hmem)
theorem qS {R:List Bh->Bi->Prop}{I t:Addr}{items:Array Bh}(hh:A.handled=none)(hit:gz s.heap I t ((items.size:Int)-1))(hl:IsTup s.heap t items)(hne:t≠I)(hlen:items.size<=2 ^ 24)
    (h:∀(h1:Heap) (tk:Nat) (vs:List Bh),vs=items.toList.reverse->(∀b o,b≠I->s.heap.get? b=some o->h1.get? b=some o)->R vs { s with heap:=h1,toks:=tk }) :
    BL (B1 prog w) A (collect (.ref I)) R E s:=by
  obtain ⟨oi,hoi,_⟩:=id hit
  obtain ⟨ol,hol,_⟩:=id hl
  unfold collect
  refine Bd (FQ (CJ Gk ?_))
  rw[CF Gm _]
  show BL _ A.in1 (newList [] >>= λl=>again (.builtin "list.__iadd__" ⟨[l,.ref I],[]⟩)) _ _ s
  refine Bd (Ca ?_)
  refine Bk ⟨DL ED _,CJ G9 ?_⟩
  rw[CF ED _]
  show BL _ A.in1 (Cz (.ref s.heap.objs.size) (.ref I) (.ref s.heap.objs.size)) _ _ { s with heap:=s.heap.push { cls :=.type "list",data :=.seq ([]:List Bh).toArray } }
  have hS0:(s.heap.push { cls :=.type "list",data :=.seq ([]:List Bh).toArray }).get? s.heap.objs.size=some { cls :=.type "list",data :=.seq #[] 0 }:=Bp _ rfl
  refine uT (A:=A) (R:=λres s'=>match res with
      | .ok (.ret v)=>BL (B1 prog w) A (match v with | .ref a=>(do match (← load a).data with | .seq xs _=>pure xs.toList | _=>unsupported "internal:collect") | _=>unsupported "internal:collect") R E s'
      | .ok _=>False
      | .error e=>E e s') (s:={ s with heap:=s.heap.push { cls :=.type "list",data :=.seq ([]:List Bh).toArray } }) hh (hit.at λo e=>Bf _ e) (pH hl λo e=>Bf _ e) hne hlen s.heap.objs.size (C6 (BI (Bq hoi))) (C6 (BI (Bq hol))) (.ref s.heap.objs.size) 0 hS0 λh' tk acc' c' kk hS' it =>?_
  show BL _ A (load s.heap.objs.size >>= _) _ _ { s with heap:=h',toks:=tk }
  refine Bd (IS hS' ?_)
  refine Bk (h h' tk acc'.toList ?_ λb o hb e=>kk b o (BI (Bq e)) hb (Bf _ e))
  refine FK λj =>?_
  rw[Bv]
  have h1:acc'.size=items.toList.length:=it.1
  by_cases hj:j<items.toList.length
  · obtain ⟨v,hv⟩:∃v,acc'[j]? = some v:=⟨acc'[j]'(by omega),Cw _⟩
    have:=it.2 j v hv
    dsimp only at this
    rw[<- Bv] at this
    rw[hv,HA hj, <- this]
    rfl
  · rw[De (by omega),Eb (by rw[CZ];omega)]
theorem ju (I t:Addr)(items:Array Bh)(hne:t≠I)(hn:items.size<=1000) :
  Meets (Builtin.«tuple.__new__» ⟨[.type "tuple",.ref I],[]⟩)
   (λA R s=>A.handled=none/\gz s.heap I t ((items.size:Int)-1)/\IsTup s.heap t items/\∀(h':Heap) (tk:Nat),(∀b o',b≠I->s.heap.get? b=some o'->h'.get? b=some o')->R (.ok (.ret (.ref h'.objs.size))) { s with heap:=h'.push { cls :=.type "tuple",data :=.seq items.toList.reverse.toArray },toks:=tk }) :=
 .of_wp λprog w A R s h=>by
  obtain ⟨hp,g,d,tk,os⟩:=s;obtain ⟨hh,hr,ht,h⟩:=h
  have hsub:=sub_tuple_self
  have hinit:=IW
  have hmh:=madeHere_tuple
  have hT:Shared.TypeIs ⟨hp,g,d,tk,os⟩ (.ref I) "reversed" := gz.typeIs (s:=⟨hp,g,d,tk,os⟩) hr
  wp_walk using Ec hT,qS (by simpa using hh) hr ht hne (by omega)
  rintro h' tk' vs rfl hk
  show BL _ _ (Builtin.Tuple.tupleExact items.toList.reverse.toArray >>= λv=>ret v) _ _ _
  unfold Builtin.Tuple.tupleExact
  refine Bd (Ca ?_ (by show items.toList.reverse.toArray.size<=BJ;rw[Bm,CZ,Bl];exact small hn))
  exact Bk ⟨_,rfl,h h' tk' hk⟩
end
end L2.RvT
namespace L2
open PySem PySem.Spec PyProof.Rows
section
variable  {X:Cx}
theorem uU:CM "tuple" = some (.type "tuple"):=by decide +kernel
def yj (K:Be)(te:TE):TE:=λσ H Q=>te σ H λx H1=>∃l xs,x = .ref l/\SqT K H1 l xs/\xs.length<=1000/\∀p,H1 p=none->Q (.ref p) (upd H1 p (.tup xs.reverse))
theorem mG {e:Expr}{te:TE}{p1 p2 pos1 pos2:Pos}(hh:X.A.handled=none)(hg1:Gl X "tuple")(hm1:X.mg "tuple" = none)(hg2:Gl X "reversed")(hm2:X.mg "reversed" = none)(he:PE X e te)
  (hs1:Ce [Expr.Call (.Name "reversed" p2) [e] [] pos2] X.env=(false,eval (.Call (.Name "reversed" p2) [e] [] pos2) X.env) :: Ce [] X.env:=by rfl) (hp1:(Fd pos1 (Ce [] X.env)).any (·.1)=false:=by rfl)
  (hs2:Ce [e] X.env=(false,eval e X.env) :: Ce [] X.env:=by rfl) (hp2:(Fd pos2 (Ce [] X.env)).any (·.1)=false:=by rfl) :
  PE X (.Call (.Name "tuple" p1) [.Call (.Name "reversed" p2) [e] [] pos2] [] pos1) (yj X.K te):=by
 intro pins s σ H Q I h
 refine DS (gH I hg1 hm1 uU ?_ (by decide) (by decide))
 refine Dt ?_ hs1 hp1
 rw[hs1]
 show BL _ _ (spliced ((false,eval (.Call (.Name "reversed" p2) [e] [] pos2) X.env) :: Fd pos1 (Ce [] X.env))) _ _ s
 refine Fw ?_
 refine DS (gH I hg2 hm2 pB ?_ (by decide) (by decide))
 refine Dt (thn ((aa he ag hs2) pos2 pins s σ H (λvs H1=>match vs with | [x]=>∃l xs,x = .ref l/\SqT X.K H1 l xs/\xs.length<=1000/\∀p,H1 p=none->Q (.ref p) (upd H1 p (.tup xs.reverse)) | _=>False) I ?_) λus s1 ⟨vs,H1,I1,r1,q1⟩ =>?_) hs2 hp2
 ·exact h
 ·match vs,q1 with
  | [x],q1 =>
  obtain ⟨t,xs,rfl,hx,h1000,q⟩:=q1
  obtain ⟨u,rfl,ru⟩:=vals1 r1
  cases (show u=BN t from ru)
  obtain ⟨its,r,ht,hz⟩:=I1.tuple hx
  have ll:=r.length
  have lz:its.toArray.size=xs.length:=by rw[Bm];exact ll.symm
  refine RvT.wu ht (by rw[lz];omega) ?_
  refine GS ?_
  obtain ⟨ot,hot,_⟩:=id ht
  refine HE HL (by decide) (GZ _) (Ha _) (λobj=>Fc obj _) Hb
   (RvT.ju s1.heap.objs.size t its.toArray (BI (Bq hot)) (by rw[lz];exact h1000)) ⟨by simpa using hh,⟨_,Bp _ rfl,rfl,rfl⟩,RvT.pH ht (λo e=>Bf _ e),λh' tk k=>⟨⟨_,Bp _ rfl,rfl⟩,?_⟩⟩
  have I2:Inv X pins σ H1 { s1 with heap:=h',toks:=tk }:=I1.kept λb o e=>k b o (BI (Bq e)) (Bf _ e)
  exact ⟨.ref h'.objs.size,_,I2.laid (o :=.tup xs.reverse) (λb ob q=>Bf _ q) (Bn _) ⟨by rw[CZ];exact small h1000,its.reverse,pC r,cN.new _ _⟩,rfl,q _ (I2.hok.fresh (Bn _))⟩
theorem lF (l b:Addr)(its its2:Array Bh)(n:Nat)(hz:its.size+its2.size<=BJ) :
  Meets (Builtin.«list.extend» ⟨[.ref l,.ref b],[]⟩) (λ_ R s=>s.heap.get? l=some { cls :=.type "list",dict:=none,data :=.seq its n,slots := #[] }/\IsTup s.heap b its2/\R (.ok (.ret DI)) { s with heap:=s.heap.update l (Cs λx=>x++its2),toks:=s.toks }) :=
 .of_wp λprog w A R s h=>by
  obtain ⟨hl,hb,h⟩:=h
  obtain ⟨o,ho,hc,k,hd⟩:=id hb
  unfold Builtin.«list.extend»
  refine Bd (DH (a:=(BN l,BN b)) rfl ?_)
  show BL _ _ (Cz (.ref l) (.ref b) .none) _ _ s
  unfold Cz
  refine Bd (Ec hb.typeIs ?_)
  rw[if_pos (by rw[show (Ew "tuple" == Ew "tuple")=true from by decide];exact Bool.or_true _)]
  refine Bd (wpAny_listItems ho hd ?_)
  refine Bd (wpAny_listItems hl rfl ?_)
  refine C4 (λhab=>absurd hab ?_) (λ_ =>?_)
  ·rw[oF hz,JJ];exact Bo
  refine Bd ?_
  show BL _ _ (updateSeq l (· ++ its2)) _ _ _
  exact E5 hl rfl (hz:=by omega) (_hz':=by rw[Ep];omega) (Bk ⟨_,rfl,h⟩)
end
end L2
namespace Srt
open PySem PyProof.Rows
section
variable  {prog:BD}{w:Cb}{A:B9}{E:Bh->Bi->Prop}{s:Bi}{O:Gd}{key:Bh->O.α}
theorem pI {v:Bh}{vs:List Bh}{Q:Bh->Bi->Prop}(hv:ir prog w s v vs)(hz:vs.length<=BJ)
  (C:2<=vs.length->∀(B:B9) (h6:Heap),B.units<=A.units+6->(∀b o,s.heap.get? b=some o->h6.get? b=some o)->∃κ,(∀(Q:SortKind->Bi->Prop) (E:Bh->Bi->Prop),Q κ { s with heap:=h6 }->BL (B1 prog w) B (keyKind' vs.toArray) Q E { s with heap:=h6 }) ∧
  Cmp prog w B { s with heap:=h6 } O (λp=>key p.1) (λp=>p.1=p.2/\p.1∈vs) κ)
  (h:∀(h':Heap) (p:Addr) (out:List Bh) (n:Nat),(∀b o,s.heap.get? b=some o->h'.get? b=some o)->s.heap.objs.size<=p->h'.get? p=some (seqObj "list" out.toArray n)->out.Perm vs->out.Pairwise (λx y=>O.kle (key x) (key y))->Q (.ref p) { s with heap:=h' }) :
  BL (B1 prog w) A (call (.builtin "sorted") [v]) Q E s:=by
 refine GK Jz Jb Jc (args_sorted1 _) ?_
 unfold Builtin.«sorted»
 refine Bd (m:=checkCount "sorted" 1 1 _) (Bk ?_)
 refine Bd (hv _ _ _ λh1 k1 z1=>Bd (FD ?_ hz))
 have hoL:(h1.push (seqObj "list" vs.toArray 0)).get? h1.objs.size=some (seqObj "list" vs.toArray 0):=Bp _ rfl
 have kL:∀b o,s.heap.get? b=some o->(h1.push (seqObj "list" vs.toArray 0)).get? b=some o:=λb o e=>Bf _ (k1 b o e)
 refine Bd (CG (Co slot_list_sort ⟨_,hoL,rfl⟩ entry_list_sort (gE (key:=key) (O:=O) hoL hz (λh2 h6 k6 =>?_) λout pm ps=>⟨_,rfl,?_⟩) (args_list_sort _)))
 ·refine C h2 _ h6 ?_ λb o e=>k6 b o (BI (BE (Bq e) z1)) (kL b o e)
  simp only[Around.in1_units]
  omega
 ·obtain ⟨n,en⟩:=sortedHeap_at (out:=out.toArray) hoL
  refine Bk ⟨_,rfl,h _ _ out n (λb o e =>?_) z1 en pm ps⟩
  have lt:=BE (Bq e) z1
  rw[sortedHeap_old (BI lt) (by rw[IV];exact CH lt)]
  exact kL b o e
end
theorem cu.isTup {h:Heap}{a:Addr}{ns:List Int}(x:cu h (.ref a) ns):∃its:Array Bh,IsTup h a its/\C8 its.toList ns:=by
 obtain ⟨p,o,xs,n,e,g,c,d,r⟩:=x
 cases e
 exact ⟨xs,⟨o,g,c,n,d⟩,r⟩
theorem mH {A:B9}{s:Bi}{a b:Addr}{ns ms:List Int}(hu:A.units<cLine)(x:cu s.heap (.ref a) ns)(y:cu s.heap (.ref b) ms):Ex A s (.ref a) (.ref b) (decide (ns=ms)):=by
 obtain ⟨p,o,xs,n,e,g,c,d,r⟩:=x
 cases e
 obtain ⟨p',o',xs',n',e',g',c',d',r'⟩:=y
 cases e'
 exact λprog w E Q q=>IG (knd:=intKind prog w) hu ⟨o,_,n,g,c,d,L2.gm r⟩ ⟨o',_,n',g',c',d',L2.gm r'⟩ q
section
variable  {prog:BD}{w:Cb}{s:Bi}
end
end Srt
namespace L2
open PySem PySem.Spec PyProof.Rows
section
variable  {X:Cx}
end
open PySem PySem.Spec PyProof.Rows
section
variable  {X:Cx}
variable  {o e:Expr}{es:List Expr}{to:TE}{t:TA}{name:Str}{apos cpos:Pos}{T id:String}{r:V->List V->Hp->VK->Prop}
theorem z5 {K:Be}(pa:PlainAttrs T)(slot:Slot T name id)(hty:typeOf (.builtin id)=pure (.type "method_descriptor"))(hm:MtR X id r)(ho:PE X o to)(ha:PA X (e :: es) t)(hK:X.K=K:=by rfl)
  (hbase:attributeBase o name X.env (eval o X.env)=eval o X.env:=by rfl)
  (hfew:((Fd cpos (Ce (e :: es) X.env)).all (λx => !x.1) && (backToKw cpos (keywordEach [] X.env)).all (λx=>x.1.isSome)
   && decide ((e :: es).length+([]:List Keyword).length+(if ([]:List Keyword).isEmpty then 0 else 1)<30))=true:=by rfl)
  (hline:(apos.endLine == cpos.line)=true:=by rfl) (hs:Ce (e :: es) X.env=(false,eval e X.env) :: Ce es X.env:=by rfl) (hplain:(Fd cpos (Ce es X.env)).any (·.1)=false:=by rfl) :
  PE X (.Call (.Attribute o name apos) (e :: es) [] cpos) (tBM K T r to t):=by
 subst hK
 exact fD pa slot hty hm ho ha hbase hfew hline hs hplain
end
open PySem PySem.Spec PyProof.Rows
theorem mI {α β:Type}{f:α -> Option β}{g:α -> β}:∀{l:List α},(∀k∈l,f k=some (g k))->l.filterMap f=l.map g
 | [],_=>rfl
 | x :: l,h=>by
  rw[Ey,h x Br,BF,mI λk hk=>h k (BG _ hk)]
end L2
namespace HT
open PySem PyProof.Rows
section
variable  {prog:BD}{w:Cb}{A:B9}{E:Bh->Bi->Prop}{s:Bi}
theorem qT (n:Nat):Builtin.Slice.sliceAdjust none none (-1) (n:Int)=((n:Int)-1, -1):=by
 unfold Builtin.Slice.sliceAdjust
 simp
theorem qU (n:Nat):Builtin.Slice.slicePlaces ((n:Int)-1) (-1) (-1)=n:=by
 unfold Builtin.Slice.slicePlaces
 simp
 omega
theorem iV {sl:Addr}{t:Tok}{n:Nat}{Q:Int×Int×Nat->Bi->Prop}(hs:s.heap.IsSliceOf sl .none .none (.int (-1) t))
  (h:Q ((n:Int)-1, -1,n) s):BL (B1 prog w) A (Builtin.Slice.sliceApplied (.ref sl) (pure (n:Int))) Q E s:=by
 obtain ⟨os,hos,hcs,hds⟩:=id hs
 unfold Builtin.Slice.sliceApplied Builtin.Slice.sliceFields
 refine Bd (Bd (C3 hos hds (x :=.none) rfl (Bd (C3 hos hds (x :=.none) rfl (Bd (C3 hos hds (x :=.int (-1) t) rfl (Bk ?_)))))))
 refine Bd (slicePart_int ?_)
 show BL _ _ (if ((-1:Int) == 0)=true then _ else _) _ _ s
 rw[if_neg (by decide)]
 refine Bd (GP (Bd (GP (Bd (Bk ?_)))))
 show BL _ _ (match Builtin.Slice.sliceAdjust none none (-1) (n:Int) with | (lo,hi)=>pure (lo,(-1:Int),Builtin.Slice.slicePlaces lo hi (-1))) _ _ s
 rw[qT n]
 show BL _ _ (pure ((n:Int)-1,(-1:Int),Builtin.Slice.slicePlaces ((n:Int)-1) (-1) (-1))) _ _ s
 rw[qU]
 exact Bk h
theorem A6 (xs:List Bh):((Cc xs.length).filterMap λ(m:Nat)=>xs.toArray[(((xs.length:Int)-1)+(m:Int)*(-1)).toNat]?).toArray=xs.reverse.toArray:=by
 congr 1
 have h1:∀k∈Cc xs.length,xs.toArray[(((xs.length:Int)-1)+(k:Int)*(-1)).toNat]? = some (xs.reverse.getD k .none):=λk hk=>by
  have hk':=Cu.mp hk
  have:(((xs.length:Int)-1)+(k:Int)*(-1)).toNat=xs.length-1-k:=by omega
  rw[this,Ck,B8,HA hk',BA (show xs.length-1-k<xs.length by omega)]
  rfl
 rw[L2.mI h1]
 apply Jl
 ·rw[Bg,DG,CZ]
 ·intro n h2 h3
  rw[List.getElem_map,List.getElem_range,B8,BA h3]
  rfl
theorem iB {t sl:Addr}{its:List Bh}{tk:Tok}{Q:Bh->Bi->Prop}(ht:IsTup s.heap t its.toArray)(hs:s.heap.IsSliceOf sl .none .none (.int (-1) tk))
  (h:Q (.ref s.heap.objs.size) { s with heap:=s.heap.push { cls :=.type "tuple",data :=.seq its.reverse.toArray } })
  (hsz:its.length<=BJ):BL (B1 prog w) A (getItem (.ref t) (.ref sl)) Q E s:=by
 have htake:sizeOk (.seq its.reverse.toArray):=by
  show its.reverse.toArray.size<=BJ
  rw[Bm,CZ];exact hsz
 obtain ⟨os,hos,hcs,hds⟩:=id hs
 have hTs:s.TypeIs (.ref sl) "slice" :=⟨os,hos,hcs⟩
 unfold getItem
 try with_reducible refine CG ?_
 first | refine Bd (Bk ?_) | skip
 refine Bd (G1 ht.typeIs (by decide) ?_)
 refine Bd (Ct (name:=Str.ofString "__getitem__") ht.typeIs B3
  (Co B3 ht.typeIs entry_tuple_getitem ?_ (GC _ _)))
 show BL _ _ (Builtin.Tuple.tupleItemsOf (.ref t) >>= _) _ _ s
 refine Bd (ID ht ?_)
 refine Bd (Ec hTs ?_)
 rw[if_pos (by decide)]
 refine Bd (iV hs ?_)
 have hno:¬ (((((its.toArray.size:Nat):Int)-1) == 0 && (-1:Int) == 1 && its.toArray.size == its.toArray.size)=true):=by
  intro q
  rw[Cj,Cj] at q
  have:=q.1.2
  revert this
  decide
 show BL _ _ (if ((((its.toArray.size:Nat):Int)-1) == 0 && (-1:Int) == 1 && its.toArray.size == its.toArray.size)=true then _ else _) _ _ s
 rw[if_neg hno,Bm,A6]
 first
  | exact Bd (m:=Builtin.Tuple.tupleExact _) (Ca (Bk ⟨_,rfl,Bk h⟩) htake)
  | exact Bd (m:=Builtin.Tuple.tupleExact _) (Ca (Bd (Bk (Bk ⟨_,rfl,Bk h⟩))) htake)
  | exact Bd (Bd (m:=Builtin.Tuple.tupleExact _) (Ca (Bk (Bk ⟨_,rfl,Bk h⟩)) htake))
  | exact Bd (Bd (m:=Builtin.Tuple.tupleExact _) (Ca (Bk ⟨_,rfl,Bk h⟩) htake))
end
end HT
namespace L2
open PySem PySem.Spec PyProof.Rows
def A7 (K:Be)(te:TE):TE:=λσ H Q=>te σ H λx H1=>∃a xs,x = .ref a/\SqT K H1 a xs/\∀p,H1 p=none->Q (.ref p) (upd H1 p (.tup xs.reverse))
theorem yk {X:Cx}{e:Expr}{te:TE}{j:Nat}{p1 p2 p3 pos:Pos}(he:PE X e te):PE X (.Subscript e (.Slice none none (some (.UnaryOp .USub (.Constant (.int 1) j p1) p3)) p2) pos) (A7 X.K te):=by
 intro pins s σ H Q I h
 refine Subscript_ (thn (he pins s σ H _ I h) λv s1 ⟨x,H1,I1,r1,q1⟩ =>?_)
 obtain ⟨a,xs,rfl,hx,q⟩:=q1
 cases r1
 refine wpAny_Slice ?_
 rw[IE]
 refine Bk (Bk ?_)
 rw[evalPart_some]
 have un:PE X (.UnaryOp .USub (.Constant (.int 1) j p1) p3) _:=vy qy ai
 refine thn (un pins s1 σ H1 (λy H'=>y = .int (-1)/\H'=H1) I1 ⟨1,rfl,rfl,rfl⟩) λu s2 ⟨y,H2,I2,r2,ey,eH⟩ =>?_
 subst ey eH
 obtain ⟨t,rfl⟩:=r2
 have I4:Inv X pins σ H2 { s2 with heap:=s2.heap.push { cls :=.type "slice",data :=.fields #[.none,.none,.int (-1) t] } }:=I2.kept (t':=s2.toks) λb ob q=>Bf _ q
 obtain ⟨its,r,ht,hz⟩:=I4.tuple hx
 have hlen:=r.length
 show BL (B1 X.prog X.w) X.A (subscriptTail e (.Slice none none (some (.UnaryOp .USub (.Constant (.int 1) j p1) p3)) p2) (.ref a) (.ref s2.heap.objs.size)) (EP X pins σ Q) X.xe { s2 with heap:=s2.heap.push { cls :=.type "slice",data :=.fields #[.none,.none,.int (-1) t] } }
 refine tail_any (ops:=[.ref a,.ref s2.heap.objs.size]) ht.typeIs B3.lookup ?_ (by with_unfolding_all rfl)
 refine HT.iB ht (Il ..) ?_ (by omega)
 refine ⟨.ref _,_,I4.laid (t':=s2.toks) (o :=.tup xs.reverse) (λb ob q=>Bf _ q) (Bn _) ?_,rfl,q _ (I4.hok.fresh (Bn _))⟩
 exact ⟨by rw[CZ];exact hz,_,Vals.reverse r,cN.new _ _⟩
end L2
namespace L2.MnT
open PySem PyProof.Rows
section
variable  {prog:BD}{w:Cb}{A:B9}{E:Bh->Bi->Prop}{I:Addr}{fp wr:List Addr}{n:Nat}{P:Nat->Bh->Prop}{St:Nat->Heap->Prop}
def Cmp (prog:BD)(w:Cb)(A:B9)(P:Nat->Bh->Prop)(St:Nat->Heap->Prop)(bt:Nat->Nat->Bool):Prop :=
 ∀k i j x y (s:Bi) (Q E:Bh->Bi->Prop),St k s.heap->P i x->P j y->Q (.bool (bt i j)) s->BL (B1 prog w) A (richCompare .Lt x y) Q E s
abbrev Bag (S:Addr)(xs:Array Bh)(c:Nat)(h:Heap):Prop:=h.get? S=some { cls :=.type "list",dict:=none,data :=.seq xs c,slots := #[] }
abbrev Kept (wr:List Addr)(S:Addr)(h h':Heap):Prop:=∀b o,b∉wr->b≠S->h.get? b=some o->h'.get? b=some o
theorem loop {R:Result->Bi->Prop}(W:Walks prog w A.in1 I fp wr n P St){bt:Nat->Nat->Bool}(C:Cmp prog w A.in1 P St bt){S:Addr}(nS:S∉fp):∀(d j:Nat) (s:Bi) (best:Bh) (c:Nat),n=j+1+d->St (j+1) s.heap->P (argBest bt j) best->Bag S #[best,best] c s.heap →
  (∀v h' tk,P (argBest bt (n-1)) v->Kept wr S s.heap h'->R (.ok (.ret v)) { s with heap:=h',toks:=tk })->GR (B1 prog w) A (.builtin "min.loop" ⟨[.ref I,.none,.ref S],[]⟩) R s:=by
 have nw:S∉wr:=λh=>nS (W.sub _ h)
 have nm:(toString "min" ++ toString ".loop" : String) = "min.loop" := by decide
 intro d
 induction d with
 | zero =>
  intro j s best c hn st pb bg hR
  have e:j+1=n:=by omega
  rw[e] at st
  refine CJ FG ?_
  rw[CF Df _]
  show BL _ _ (seqItems? (.ref S) >>= _) _ _ s
  refine Bd (FO bg rfl ?_)
  show BL _ _ (tryCatch (pyNext (.ref I)) _ >>= _) _ _ s
  refine Bd (GQ (W.done s _ _ st λh1 tk kp =>?_))
  show BL _ _ (updateSeq S (λ_ => #[]) >>= _) _ _ _
  refine Bd ?_
  refine E5 (kp S _ nw bg) rfl (Bd (Hh (Bk (hR best _ tk (by rw[<- e];exact pb) ?_))))
  exact λb o nb ns eb=>(Cm _ _ (C6 ns)).trans (kp b o nb eb)
 | succ d ih =>
  intro j s best c hn st pb bg hR
  refine CJ FG ?_
  rw[CF Df _]
  show BL _ _ (seqItems? (.ref S) >>= _) _ _ s
  refine Bd (FO bg rfl ?_)
  show BL _ _ (tryCatch (pyNext (.ref I)) _ >>= _) _ _ s
  refine Bd (GQ (W.item (j+1) s _ _ (by omega) st λv h1 tk pv st1 kp =>?_))
  have bg1:=kp S _ nw bg
  show BL _ _ (tryCatch (JB [v,v] (richCompare .Lt v best >>= _)) _ >>= _) _ _ _
  refine Bd (GQ (CG (Bd (C (j+1+1) (j+1) (argBest bt j) v best _ _ _ st1 pv pb ?_))))
  refine Bd (CG (C7 ?_))
  refine Bd (Hh (Bk ?_))
  by_cases hb:bt (j+1) (argBest bt j)=true
  ·have ea:argBest bt (j+1)=j+1:=by simp only[argBest,hb,if_true]
   rw[hb]
   simp only[if_true]
   refine Bd ?_
   refine E5 bg1 rfl (Bd (Hh ?_))
   rw[nm]
   refine Bk ⟨DL Df _,ih (j+1) _ v _ (by omega) (W.frame _ _ _ st1 λb fb o eb =>?_) (by rw[ea];exact pv) (CB _ bg1 rfl) λv2 h2 tk2 p2 k2=>hR v2 h2 tk2 p2 λb o nb ns eb=>k2 b o nb ns ?_⟩
   ·exact (Cm _ _ (λz:S=b=>nS (z ▸ fb))).trans eb
   ·exact (Cm _ _ (C6 ns)).trans (kp b o nb eb)
  ·have ea:argBest bt (j+1)=argBest bt j:=by simp only[argBest,hb];rfl
   rw[DZ.mpr hb]
   simp only[CK,if_false]
   refine Bd (Hh ?_)
   rw[nm]
   exact Bk ⟨DL Df _,ih (j+1) _ best c (by omega) st1 (by rw[ea];exact pb) bg1 λv2 h2 tk2 p2 k2=>hR v2 h2 tk2 p2 λb o nb ns eb=>k2 b o nb ns (kp b o nb eb)⟩
theorem first {R:Result->Bi->Prop}(W:Walks prog w A.in1 I fp wr n P St){bt:Nat->Nat->Bool}(C:Cmp prog w A.in1 P St bt){S:Addr}(nS:S∉fp)(hn:0<n){s:Bi}{c:Nat}(st:St 0 s.heap)(bg:Bag S #[] c s.heap)
  (hR:∀v h' tk,P (argBest bt (n-1)) v->Kept wr S s.heap h'->R (.ok (.ret v)) { s with heap:=h',toks:=tk }):GR (B1 prog w) A (.builtin "min.loop" ⟨[.ref I,.none,.ref S],[]⟩) R s:=by
 have nw:S∉wr:=λh=>nS (W.sub _ h)
 have nm:(toString "min" ++ toString ".loop" : String) = "min.loop" := by decide
 refine CJ FG ?_
 rw[CF Df _]
 show BL _ _ (seqItems? (.ref S) >>= _) _ _ s
 refine Bd (FO bg rfl ?_)
 show BL _ _ (tryCatch (pyNext (.ref I)) _ >>= _) _ _ s
 refine Bd (GQ (W.item 0 s _ _ hn st λv h1 tk pv st1 kp =>?_))
 have bg1:=kp S _ nw bg
 show BL _ _ (updateSeq S (λ_ => #[v,v]) >>= _) _ _ _
 refine Bd ?_
 refine E5 bg1 rfl ?_
 rw[nm]
 refine Bk ⟨DL Df _,loop W C nS (n-1) 0 _ v _ (by omega) (W.frame _ _ _ st1 λb fb o eb =>?_) pv (CB _ bg1 rfl) λv2 h2 tk2 p2 k2=>hR v2 h2 tk2 p2 λb o nb ns eb=>k2 b o nb ns ?_⟩
 ·exact (Cm _ _ (λz:S=b=>nS (z ▸ fb))).trans eb
 ·exact (Cm _ _ (C6 ns)).trans (kp b o nb eb)
def Goes (prog:BD)(w:Cb)(A:B9)(Q:Bh->Bi->Prop)(it:Bh)(s:Bi):Prop:=∃I fp wr n P St bt,it = .ref I/\Walks prog w A.in1 I fp wr n P St/\St 0 s.heap/\(∀b∈fp,b<s.heap.objs.size)/\0<n/\Cmp prog w A.in1 P St bt ∧
 ∀v h' tk,P (argBest bt (n-1)) v->(∀b o,b∉wr->s.heap.get? b=some o->h'.get? b=some o)->Q v { s with heap:=h',toks:=tk }
theorem call2 {s:Bi}{a b:Bh}{Q:Bh->Bi->Prop}(h:BL (B1 prog w) A.in1 (pyIter (.ref s.heap.objs.size)) (Goes prog w A Q) E { s with heap:=s.heap.push { cls :=.type "tuple",data :=.seq #[a,b] } }):BL (B1 prog w) A (call (.builtin "min") [a,b]) Q E s:=by
 have nm:(toString "min" ++ toString ".loop" : String) = "min.loop" := by decide
 refine call_function_tree PySem.F.kind_min PySem.F.plain_min PySem.F.entry_min (PySem.F.args_min2 _ _) ?_
 show BL _ _ (Builtin.Builtins.bindParams "min" ["key", "default"] 0 ⟨[],[]⟩ >>= _) _ _ s
 refine Bd (DH (a:=[none,none]) rfl ?_)
 show BL _ _ (newTuple [a,b] >>= _) _ _ s
 refine Bd (Ca ?_)
 refine Bd (Dg h (λit s2 g =>?_) λ_ _ e=>e)
 obtain ⟨I,fp,wr,n,P,St,bt,rfl,W,st,hf,hn,C,hq⟩:=g
 refine Bd (Ca ?_)
 rw[nm]
 refine Bk ⟨DL Df _,first W C (S:=s2.heap.objs.size) (λhm=>CN _ (hf _ hm)) hn (W.frame _ _ _ st λb _ o e=>Bf _ e) (Bp _ rfl) λv h' tk pv kp =>?_⟩
 exact hq v h' tk pv λb o nb e=>kp b o nb (BI (Bq e)) (Bf _ e)
def TI (h:Heap)(t:Addr×List Int):Prop:=∃its:Array Bh,IsTup h t.1 its/\C8 its.toList t.2
theorem TI.at {h h':Heap}{t:Addr×List Int}(x:TI h t)(e:∀o,h.get? t.1=some o->h'.get? t.1=some o):TI h' t:=let ⟨its,⟨o,ho,r⟩,y⟩:=x;⟨its,⟨o,e o ho,r⟩,y⟩
theorem more (W:Walks prog w A I fp wr n P St)(ts:List (Addr×List Int))(nw:∀t∈ts,t.1∉wr):Walks prog w A I (fp++ts.map (·.1)) wr n P (λi h=>St i h/\∀t∈ts,TI h t) where
 sub:=λb hb=>BC.mpr (.inl (W.sub b hb))
 frame:=λi h h' x hk=>⟨W.frame i h h' x.1 λb hb o e=>hk b (BC.mpr (.inl hb)) o e,λt ht=>(x.2 t ht).at (hk t.1 (BC.mpr (.inr (EE (f:=(·.1)) ht))))⟩
 item:=λi s Q E hi x hQ=>W.item i s Q E hi x.1 λv h' tk pv st' kp=>hQ v h' tk pv ⟨st',λt ht=>(x.2 t ht).at λo=>kp t.1 o (nw t ht)⟩ kp
 done:=λs Q E x hQ=>W.done s Q E x.1 hQ
 self:=λi s Q E x hQ=>W.self i s Q E x.1 hQ
theorem cmp (ts:List (Addr×List Int))(hu:A.units<cLine)(hP:∀i v,P i v->∃t,ts[i]? = some t/\v = .ref t.1):Cmp prog w A P (λi h=>St i h/\∀t∈ts,TI h t) (λi j=>HT.lexLt (ts.getD i (0,[])).2 (ts.getD j (0,[])).2):=by
 intro k i j x y s Q E st hx hy h
 obtain ⟨t,et,rfl⟩:=hP i x hx
 obtain ⟨u,eu,rfl⟩:=hP j y hy
 obtain ⟨i1,p1,a1⟩:=st.2 t (B4 et)
 obtain ⟨i2,p2,a2⟩:=st.2 u (B4 eu)
 dsimp only at h
 rw[B8,B8,et,eu] at h
 exact HT.jT p1 p2 a1 a2 hu h
theorem best (g:Nat->List Int):∀k,(argBest (λi j=>HT.lexLt (g i) (g j)) k<=k)/\∀j,j<=k->HT.lexLt (g j) (g (argBest (λi j=>HT.lexLt (g i) (g j)) k))=false
 | 0=>⟨Bn _,λj hj=>by rw[Nat.le_zero.mp hj];exact Srt.lex_irrefl _⟩
 | k+1=>by
  obtain ⟨l,ih⟩:=best g k
  by_cases hb:HT.lexLt (g (k+1)) (g (argBest (λi j=>HT.lexLt (g i) (g j)) k))=true
  ·have ea:argBest (λi j=>HT.lexLt (g i) (g j)) (k+1)=k+1:=by simp only[argBest,hb,if_true]
   rw[ea]
   refine ⟨Bn _,λj hj =>?_⟩
   by_cases e:j=k+1
   ·rw[e];exact Srt.lex_irrefl _
   ·refine DZ.mpr λz =>?_
    have:=ih j (by omega)
    rw[Srt.lex_trans _ _ _ z hb] at this
    cases this
  ·have ea:argBest (λi j=>HT.lexLt (g i) (g j)) (k+1)=argBest (λi j=>HT.lexLt (g i) (g j)) k:=by simp only[argBest,hb];rfl
   rw[ea]
   refine ⟨by omega,λj hj =>?_⟩
   by_cases e:j=k+1
   ·rw[e];exact DZ.mpr hb
   ·exact ih j (by omega)
end
end L2.MnT
namespace L2
open PySem PySem.Spec PyProof.Rows
section
variable  {X:Cx}
theorem qV (hc:X.calm=true)(hu:X.A.units+8<cLine):cz X (.builtin "min") (λxs H Q=>∃(a b:Addr) (ns ms:List Int),xs=[.ref a,.ref b]/\SqT X.K H a (ns.map V.int)/\SqT X.K H b (ms.map V.int)/\(HT.lexLt ms ns=true->Q (.ref b) H)/\(HT.lexLt ms ns=false->Q (.ref a) H)):=by
 intro pins s σ H xs us Q I r h
 obtain ⟨a,b,ns,ms,rfl,ha,hb,q1,q2⟩:=h
 obtain ⟨u,v,rfl,ru,rv⟩:=vals2 r
 cases (show u=BN a from ru)
 cases (show v=BN b from rv)
 have TIs:∀t∈[(a,ns),(b,ms)],MnT.TI s.heap t:=λt ht=>by
  rcases BR.mp ht with rfl | ht
  ·obtain ⟨i2,r2,p2,_⟩:=I.tuple ha
   exact ⟨_,p2,intsAre_of r2⟩
  ·rw[Bz.mp ht]
   obtain ⟨i2,r2,p2,_⟩:=I.tuple hb
   exact ⟨_,p2,intsAre_of r2⟩
 have hlt:∀t∈[(a,ns),(b,ms)],t.1<s.heap.objs.size:=λt ht=>by
  obtain ⟨_,⟨o,ho,_⟩,_⟩:=TIs t ht
  exact Bq ho
 have hT:(s.heap.push { cls :=.type "tuple",data :=.seq #[.ref a,.ref b] }).IsTuple s.heap.objs.size #[.ref a,.ref b]:=⟨_,Bp _ rfl,rfl,0,rfl⟩
 have hz:(s.heap.push { cls :=.type "tuple",data :=.seq #[.ref a,.ref b] }).objs.size=s.heap.objs.size+1:=EK ..
 have at_:∀(i:Nat) (v:Bh),(#[.ref a,.ref b]:Array Bh)[i]? = some v->∃t:Addr×List Int,[(a,ns),(b,ms)][i]? = some t/\v=BN t.1:=λi v hv=>by
  match i,hv with
  | 0,hv=>exact ⟨_,rfl,(BW hv).symm⟩
  | 1,hv=>exact ⟨_,rfl,(BW hv).symm⟩
  | i+2,hv=>simp at hv
 refine MnT.call2 (ET hT ?_)
 refine ⟨_,_,_,_,_,_,_,rfl,MnT.more (JY (A:=X.A.in1) (I.ok.hd hc) _ s.heap.objs.size (by rw[hz];exact BI (D6 _)) #[.ref a,.ref b]) [(a,ns),(b,ms)] (λt ht hm =>?_),⟨⟨⟨_,Bp _ rfl,rfl,rfl⟩,hT.push _⟩,λt ht=>(TIs t ht).at λo e=>Bf _ (Bf _ e)⟩,λc hc' =>?_,Nat.zero_lt_two,MnT.cmp [(a,ns),(b,ms)] ?_ at_,λv h' tk pv kp =>?_⟩
 ·have:=hlt t ht
  rw[Bz.mp hm,hz] at this
  exact CN _ (E7 this)
 ·show c<((s.heap.push _).push _).objs.size
  rw[EK,hz]
  rcases BC.mp hc' with hc' | hc'
  ·rcases BR.mp hc' with rfl | hc'
   ·rw[hz];exact D6 _
   ·rw[Bz.mp hc'];exact CH (D6 _)
  ·obtain ⟨t,ht,rfl⟩:=Bw.mp hc'
   exact CH (CH (hlt t ht))
 ·show X.A.units+_<cLine
  omega
 ·have kept:∀b o,s.heap.get? b=some o->h'.get? b=some o:=λb o e=>kp b o (λhm=>by
   have:=Bq e
   rw[Bz.mp hm,hz] at this
   exact CN _ (E7 this)) (Bf _ (Bf _ e))
  by_cases z:HT.lexLt ms ns=true
  ·have e:argBest (λi j=>HT.lexLt ([(a,ns),(b,ms)].getD i (0,[])).2 ([(a,ns),(b,ms)].getD j (0,[])).2) 1=1:=by
    show (if HT.lexLt ms ns=true then 1 else 0)=1
    rw[if_pos z]
   rw[show (#[BN a,BN b]:Array Bh).size-1=1 from rfl,e] at pv
   have pv:=(BW pv).symm
   exact ⟨.ref b,H,I.kept kept,pv,q1 z⟩
  ·have e:argBest (λi j=>HT.lexLt ([(a,ns),(b,ms)].getD i (0,[])).2 ([(a,ns),(b,ms)].getD j (0,[])).2) 1=0:=by
    show (if HT.lexLt ms ns=true then 1 else 0)=0
    rw[if_neg z]
   rw[show (#[BN a,BN b]:Array Bh).size-1=1 from rfl,e] at pv
   have pv:=(BW pv).symm
   exact ⟨.ref a,H,I.kept kept,pv,q2 (DZ.mpr z)⟩
end
open PySem PySem.Spec PyProof.Rows
def uV (P:BD)(w:Cb)(K:Be)(mg:Str->Option Bh)(base:Heap)(k:Nat)(f:Addr)(ps:List Str)(sp:Sp):Prop:=∃fd,bF P w K mg base CX0 k f fd ps sp/\PySem.W.keepIn K (.ref f)=true/\Binds K fd ps []
theorem Cal.val {P:BD}{w:Cb}{K:Be}{mg:Str->Option Bh}{base:Heap}{k:Nat}{x:Str}{ps:List Str}{sp:Sp}(c:Cal P w K mg base k x ps sp):∃f,mg x=some (.ref f)/\uV P w K mg base k f ps sp:=by
 obtain ⟨f,fd,F,m,kp,b⟩:=c.ex
 exact ⟨f,m,fd,F,kp,b⟩
def z6 (X:Cx)(k:Nat)(tf:TE)(t:TA):TE:=λσ H Q=>tf σ H λx H1=>∃f ps sp,x = .ref f/\uV X.prog X.w X.K X.mg X.base k f ps sp/\t σ H1 λvs H2=>sp vs H2 Q E0
theorem pK {X:Cx}(k:Nat){j:Nat}{x:Str}{e:Expr}{es:List Expr}{tf:TE}{t:TA}{p pos:Pos}(hv:PE X (.Name x p) tf)(hr:bL j X.A)(hj:k<=j)(ha:PA X (e :: es) t)
  (he:Ce (e :: es) X.env=(false,eval e X.env) :: Ce es X.env:=by rfl) (hpl:(Fd pos (Ce es X.env)).any (·.1)=false:=by rfl) :
  PE X (.Call (.Name x p) (e :: es) [] pos) (z6 X k tf t):=by
 intro pins s σ H Q I h
 refine DS (thn (hv pins s σ H _ I h) λv s1 p1 =>?_)
 obtain ⟨_,H1,I1,r1,f,ps,sp,rfl,C,q⟩:=p1
 cases r1
 obtain ⟨fd,F,kp,b⟩:=C
 refine Ii (h₀:=X.base) I1.ok.mod.kin kp (thn (ha pos pins s1 σ H1 _ I1 q) λus s2 p2 =>?_) he hpl
 obtain ⟨vs,H2,I2,r,q2⟩:=p2
 exact ⟨I2.kIn,vD F (hr.mono hj) b .nil yV I2 r (by rw[Cf];exact q2)⟩
open PySem PySem.Spec PyProof.Rows
def wx (tb:Addr->Option (Array Bh))(H:Hp):Prop:=∀b,H b=none\/(∃o xs,H b=some (.frz o (.lst xs)))\/∃ps,tb b=some ps/\H b=some (.tbl ps)
theorem uW {P:BD}{w:Cb}{K:Be}{mg mb:Str->Option Bh}{CX:CXT}{k:Nat}{fa a:Addr}{fd:Cr}{x:Str}{sp:Sp}{s₁:Bi}{vs:List Bh}{ns:List Int}{tb:Addr->Option (Array Bh)}
  (hT:∀P' ps,tb P'=some ps->(∃c,PySem.W.codeHdIn K c P'=true)/\K.lookup P'=none/\s₁.heap.get? P'=some (PySem.W.tabObj #[])/\∀pos c,¬ cAt ps pos c)
  (KX:K.In s₁.heap) (hns:s₁.heap.Ns Cg mg) (hb:s₁.heap.Ns builtinsNs mb) (hbb:∀x:Str,x ≠ "__name__" -> mb x=CM x) (hlim:s₁.heap.NoLimit) (hbm:∃bm ob,mg "__builtins__" = some (.ref bm)/\bm≠builtinsNs/\s₁.heap.get? bm=some ob/\ob.cls = .type "module" /\ ob.dict=some builtinsNs/\ob.data = .plain) (hg:s₁.gens = #[])
  (ha:s₁.heap.get? a=some { cls :=.type "list",data :=.seq vs.toArray }) (hi:C8 vs ns) (hl:ns.length<=BJ) (hr:bL k callerA)
  (F:∀base:Heap,K.In base->base.Ns Cg mg->bF P w K mg base CX k fa fd [x] sp) (hbind:∀(s:Bi) (u:Bh),BindsTo s fd ⟨[u],[]⟩ [(x,u)])
  (hsp:∀H:Hp,wx tb H->(∀P' ps,tb P'=some ps->H P'=some (.tbl ps))->SqL K H a (ns.map V.int)->sp [.ref a] H (λv _=>v = .bl true) λ_ _ _=>False)
  (hCX:∀H e s',CX [] H s₁ (λ_ _ _=>False) e s'->False) :
  GR (B1 P w) callerA (.call (.ref fa) ⟨[.ref a],[]⟩) (λr s'=>r = .ok (.ret (.bool true))/\OldK s₁.heap s'.heap/\s'.os=s₁.os/\AllBare s'.gens) s₁:=by
 have rv:=iQ hi
 have lenV:=hi.length
 have core:∀H:Hp,wx tb H->(∀P' ps,tb P'=some ps->H P'=some (.tbl ps))->SqL K H a (ns.map V.int)->HOk P w H s₁.heap->(∀b,H b≠none->b=a\/∃ps,tb b=some ps)->(H a≠none->K.lookup a=none) →
   GR (B1 P w) callerA (.call (.ref fa) ⟨[.ref a],[]⟩) (λr s'=>r = .ok (.ret (.bool true))/\OldK s₁.heap s'.heap/\s'.os=s₁.os/\AllBare s'.gens) s₁:=by
  intro H hO hTb hS hok hA hK
  have base_of:∀{b:Addr} {o:Obj},s₁.heap.get? b=some o->H b=none->(mW s₁.heap H).get? b=some o:=λe n=>vn e n
  have noA:∀{b:Addr} {o:Obj} {es:Array DictEntry} {ep:Nat},s₁.heap.get? b=some o->o.data = .dict es ep->H b=none:=λ{b o es ep} e d=>by
   cases q:H b with
   | none=>rfl
   | some u =>
    rcases hA b (by rw[q];simp) with e' | ⟨ps,e'⟩
    ·subst e'
     rw[ha] at e;cases e
     have d':Data.seq vs.toArray _=Data.dict es ep:=d
     cases d'
    ·rw[(hT b ps e').2.2.1] at e;cases e
     have d':Data.fields #[]=Data.dict es ep:=d
     cases d'
  have noP:∀{b:Addr} {o:Obj},s₁.heap.get? b=some o->o.data = .plain->H b=none:=λ{b o} e d=>by
   cases q:H b with
   | none=>rfl
   | some u =>
    rcases hA b (by rw[q];simp) with e' | ⟨ps,e'⟩
    ·subst e'
     rw[ha] at e;cases e
     have d':Data.seq vs.toArray _=Data.plain:=d
     cases d'
    ·rw[(hT b ps e').2.2.1] at e;cases e
     have d':Data.fields #[]=Data.plain:=d
     cases d'
  have nsK:∀{b:Addr} {m:Str->Option Bh},s₁.heap.Ns b m->(mW s₁.heap H).Ns b m:=λ{b m} ⟨o,es,ep,e,d,r⟩=>⟨o,es,ep,base_of e (noA e d),d,r⟩
  have hKb:K.In (mW s₁.heap H):=λb o e=>base_of (KX b o e) (by
   cases q:H b with
   | none=>rfl
   | some u =>
    rcases hA b (by rw[q];simp) with e' | ⟨ps,e'⟩
    ·subst e'
     rw[hK (by rw[q];simp)] at e;cases e
    ·rw[(hT b ps e').2.1] at e;cases e)
  have hM:Mod K mg (mW s₁.heap H):=⟨hKb,nsK hns,⟨mb,nsK hb,hbb⟩,let ⟨mc,h1,h2⟩:=hlim;⟨mc,nsK h1,h2⟩,let ⟨bm,ob,b1,b2,b3,b4,b5,b6⟩:=hbm;⟨bm,ob,b1,b2,base_of b3 (noP b3 b6),b4,b5,b6⟩⟩
  have e0:xD P w K mg (mW s₁.heap H) callerA [] s₁ H:=⟨rfl,hM,λb o e=>xx e,Nat.le_of_eq (t8 _ _),trivial,λb hb=>absurd (show b∈([]:List Addr) from hb) (by simp),hok,.of_eq hg⟩
  refine Fu ((F _ hKb (nsK hns)).run callerA [] s₁ H ⟨[.ref a],[]⟩ [.ref a] [.ref a] _ _ hr e0 (hbind s₁ (.ref a)) (.cons rfl .nil) (hsp H hO hTb hS)) λr s' h =>?_
  cases r with
  | error e=>exact (hCX H e s' h).elim
  | ok fl =>
   cases fl with
   | next=>exact False.elim h
   | brk=>exact False.elim h
   | cont=>exact False.elim h
   | ret u =>
    obtain ⟨v,H',os,bare,un,hok',r',q⟩:=h
    have q':v = .bl true:=q
    subst q'
    obtain rfl:u=Value.bool true:=r'
    have step:∀b o,s₁.heap.get? b=some o->asItWas s₁.heap s'.heap b o/\∃o',s'.heap.get? b=some o':=λb o e=>by
     cases q:H b with
     | none =>
      have:=un.keep b o e q (by intro z;exact absurd (show b∈([]:List Addr) from z) (by simp)) (by simp)
      exact ⟨.inl this,_,this⟩
     | some u =>
      rcases hO b with z | ⟨ob,xs,z⟩ | ⟨ps,z1,z⟩
      ·rw[q] at z;cases z
      ·have z2:=un.frzs b ob _ z
       obtain ⟨e1,_⟩:=hok b _ z
       obtain ⟨e2,_⟩:=hok' b _ z2
       rw[e] at e1;cases e1
       exact ⟨.inl e2,_,e2⟩
      ·obtain ⟨more,z2⟩:=un.tbls b ps z
       obtain ⟨rows,e2,_⟩:=hok' b _ z2
       obtain ⟨⟨c,hc⟩,_,e1,_⟩:=hT b ps z1
       obtain ⟨oc,vc,_,_,_,_,_,_,_,c1,c2,c3,c4,_⟩:=Ia KX hc
       rw[e] at e1;cases e1
       refine ⟨.inr (.inl ⟨⟨c,oc,vc,c1,c2,c3,c4⟩,rfl, #[],rows,rfl,?_⟩),_,e2⟩
       rw[e2]
       simp[PySem.W.tabObj]
    exact ⟨rfl,⟨λb o e=>(step b o e).1,λb o e=>(step b o e).2⟩,os,bare⟩
 have okT:∀{H:Hp} {b:Addr} {ps:Array Bh},tb b=some ps->ba P w H s₁.heap b (.tbl ps):=λ{H b ps} e=>⟨#[],(hT b ps e).2.2.1,trivial,(λpos v hv=>by cases hv),λpos c z=>absurd z ((hT b ps e).2.2.2 pos c)⟩
 cases hk:K.lookup a with
 | some o =>
  have e:=KX a o hk
  rw[ha] at e
  cases e
  refine core (λb=>(tb b).map HO.tbl) (λb =>?_) (λP' ps e=>by show (tb P').map HO.tbl=_;rw[e];rfl) (.inr ⟨_,vs.toArray,_,hk,rfl,rfl,rfl,by rw[Bm,lenV];exact hl,by simpa using rv⟩) (λb u z =>?_) (λb z =>?_) λz=>hk ▸ absurd ?_ z
  ·cases e:tb b with
   | none=>exact .inl (by show (tb b).map HO.tbl=none;rw[e];rfl)
   | some ps=>exact .inr (.inr ⟨ps,rfl,by show (tb b).map HO.tbl=_;rw[e];rfl⟩)
  ·have z':(tb b).map HO.tbl=some u:=z
   cases e:tb b with
   | none=>rw[e] at z';cases z'
   | some ps=>rw[e] at z';cases z';exact okT e
  ·cases e:tb b with
   | none=>exact absurd (by show (tb b).map HO.tbl=none;rw[e];rfl) z
   | some ps=>exact .inr ⟨ps,rfl⟩
  ·show (tb a).map HO.tbl=none
   cases e:tb a with
   | none=>rfl
   | some ps =>
    have:=(hT a ps e).2.2.1
    rw[ha] at this;cases this
 | none =>
  have na:tb a=none:=by
   cases e:tb a with
   | none=>rfl
   | some ps =>
    have:=(hT a ps e).2.2.1
    rw[ha] at this;cases this
  refine core (λb=>if b=a then some (.frz { cls :=.type "list",data :=.seq vs.toArray } (.lst (ns.map V.int))) else (tb b).map HO.tbl) (λb =>?_) (λP' ps e =>?_) (.inl (.inr ⟨{ cls :=.type "list",data :=.seq vs.toArray },if_pos rfl⟩)) (λb u z =>?_) (λb z =>?_) λ_=>hk
  ·by_cases hb:b=a
   ·exact .inr (.inl ⟨_,_,if_pos hb⟩)
   ·cases e:tb b with
    | none=>exact .inl (by show (if b=a then _ else (tb b).map HO.tbl)=none;rw[if_neg hb,e];rfl)
    | some ps=>exact .inr (.inr ⟨ps,rfl,by show (if b=a then _ else (tb b).map HO.tbl)=_;rw[if_neg hb,e];rfl⟩)
  ·have hb:P'≠a:=λz=>by rw[z,na] at e;cases e
   show (if P'=a then _ else (tb P').map HO.tbl)=_
   rw[if_neg hb,e];rfl
  ·by_cases hb:b=a
   ·have z':=(if_pos hb).symm.trans z
    cases z'
    subst hb
    exact ⟨ha,by rw[Bg];exact hl,vs,_,rv,ha⟩
   ·have z':(tb b).map HO.tbl=some u:=(if_neg hb).symm.trans z
    cases e:tb b with
    | none=>rw[e] at z';cases z'
    | some ps=>rw[e] at z';cases z';exact okT e
  ·by_cases hb:b=a
   ·exact .inl hb
   ·cases e:tb b with
    | none=>exact absurd (by show (if b=a then _ else (tb b).map HO.tbl)=none;rw[if_neg hb,e];rfl) z
    | some ps=>exact .inr ⟨ps,rfl⟩
theorem wy {l:PySem.W.OpenLaw}{n k:Nat}{q:BD}{loose:List Str}{XP:(Str->Option Bh)->Heap->Prop}{YP:Cb->Heap->Prop}{d:DefRec}{K:Params->Be}{CX:Cb->CXT}{sp:Cb->Sp}{x:Str}(tb:Addr->Option (Array Bh))
  (hn:l.most=some n) (hn2:n<=BJ) (hdf:d.params.defaults=[]) (hr:bL k callerA)
  (hY:∀(w:Cb) (h:Heap),YP w h->(K w.params).In h)
  (hT:∀(w:Cb) (h:Heap),YP w h->∀P' ps,tb P'=some ps->(∃c,PySem.W.codeHdIn (K w.params) c P'=true)/\(K w.params).lookup P'=none/\h.get? P'=some (PySem.W.tabObj #[])/\∀pos c,¬ cAt ps pos c)
  (F:∀(w:Cb) (mg:Str->Option Bh) (fa:Addr) (h:Heap),(K w.params).In h->h.Ns Cg mg->mg d.name=some (.ref fa) →
   ∃fd:Cr,(∀(s:Bi) (u:Bh),BindsTo s fd ⟨[u],[]⟩ [(x,u)]) ∧
    ∀base:Heap,(K w.params).In base->base.Ns Cg mg->bF l.prog w (K w.params) mg base (CX w) k fa fd [x] (sp w))
  (hsp:∀(w:Cb) (H:Hp) (a:Addr) (ns:List Int),ns.length<=n->wx tb H->(∀P' ps,tb P'=some ps->H P'=some (.tbl ps))->SqL (K w.params) H a (ns.map V.int)->sp w [.ref a] H (λv _=>v = .bl true) λ_ _ _=>False)
  (hCX:∀(w:Cb) (H:Hp) (s:Bi) (e:Bh) (s':Bi),CX w [] H s (λ_ _ _=>False) e s'->False) :
  PySem.W.WalkO q loose XP YP l.row.toRowW d [] (λf vs=>PySem.call f vs):=by
 refine Att.oG hn hdf λw s₀ s₁ mg mb fa o pm cd doc a vs ns G Y ho hd hcd hmg hobj hints hlen hg =>?_
 have KX:=hY w _ Y
 obtain ⟨fd,hb,hF⟩:=F w mg fa _ KX G.T.g hmg
 exact uW (hT w _ Y) KX G.T.g G.T.b G.T.builtins G.T.nolimit G.T.bmain hg hobj hints (BS hlen hn2) hr hF hb (λH hO hS hS2=>hsp w H a ns hlen hO hS hS2) λH e s'=>hCX w H s₁ e s'
open PySem PySem.Spec PySem.Calls PyProof.Rows
theorem nH {a b:Int}{i j:Tok}{c:Bh}:∀l:List Bh,TriplesOk l->TriplesOk (l++[.int a i,.int b j,c]):=by
 intro l h
 fun_induction TriplesOk l with
 | case1=>exact trivial
 | case2 x t y u z rest ih=>exact ih h
 | case3=>exact h.elim
theorem qW {pos:Pos}{a b:Int}{i j:Tok}{c v:Bh}:∀l:List Bh,TriplesOk l->codeAmong pos (l++[.int a i,.int b j,c])=some v->codeAmong pos l=some v\/(a=pos.line/\b=pos.col/\v=c):=by
 intro l h e
 fun_induction TriplesOk l with
 | case1 =>
  have e':(if (a == pos.line && b == pos.col)=true then some c else codeAmong pos [])=some v:=e
  split at e'
  ·rename_i q
   rw[Cj,beq_iff_eq,beq_iff_eq] at q
   exact .inr ⟨q.1,q.2,(BW e').symm⟩
  ·cases e'
 | case2 x t y u z rest ih =>
  have e':(if (x == pos.line && y == pos.col)=true then some z else codeAmong pos (rest++[.int a i,.int b j,c]))=some v:=e
  show (if (x == pos.line && y == pos.col)=true then some z else codeAmong pos rest)=some v\/_
  split at e'
  ·rename_i q
   rw[if_pos q];exact .inl e'
  ·rename_i q
   rw[if_neg q];exact ih h e'
 | case3=>exact h.elim
section
variable  {X:Cx}{pins:List (Addr×Obj)}{σ:St}{H:Hp}{s:Bi}
theorem Inv.qX (I:Inv X pins σ H s){P:Addr}{o:Obj}(hP:s.heap.get? P=some o)(hd:o.data ≠ .plain):s.heap.BuiltinsAt X.mg P:=by
 obtain ⟨bm,ob,b1,b2,b3,b4,b5,b6⟩:=I.mod.bmod
 have e3:=I.bk _ _ b3
 refine ⟨bm,ob,b1,b2,λz =>?_,λz =>?_,e3,b4,b5,b6⟩
 ·obtain ⟨o',es,ep,e,d,_⟩:=I.mod.glob.keeps I.bk
  rw[z,e] at e3;cases e3;rw[b6] at d;cases d
 ·rw[z,hP] at e3;cases e3;exact hd b6
theorem pL {pos pos':Pos}(h1:pos'.line=pos.line)(h2:pos'.col=pos.col):∀l:List Bh,codeAmong pos' l=codeAmong pos l:=by
 intro l
 fun_induction codeAmong pos l with
 | case1 x t y u c rest h =>
  show (if (x == pos'.line && y == pos'.col)=true then some c else codeAmong pos' rest)=some c
  rw[h1,h2,if_pos h]
 | case2 x t y u c rest h ih =>
  show (if (x == pos'.line && y == pos'.col)=true then some c else codeAmong pos' rest)=_
  rw[h1,h2,if_neg h]
  exact ih
 | case3 l h =>
  unfold codeAmong
  split
  ·rename_i x t y u c rest
   exact absurd rfl (h x t y u c rest)
  ·rfl
abbrev dq (ps:Array Bh)(pos:Pos)(c:Addr):Array Bh:=ps ++ #[DX pos.line,DX pos.col,.ref c]
structure Nm (ps:Array Bh)(pos:Pos)(q:Str):Prop where
 qa:qAt ps pos q
 un:∀c q',qAt (dq ps pos c) pos q'->q'=q
 ws:∀c pos' q',qAt ps pos' q'->qAt (dq ps pos c) pos' q'
 vs:∀c pos' q',qAt (dq ps pos c) pos' q'->qAt ps pos' q'
 co:∀c pos' c2,cAt (dq ps pos c) pos' c2->c2=c/\pos'.line=pos.line/\pos'.col=pos.col
def SameBut (P:Addr)(H H':Hp):Prop:=∀b o,b≠P->H b=some o->H' b=some o
theorem yl (I:Inv X pins σ H s){P c:Addr}{ps:Array Bh}{pos:Pos}{q:Str}(hP:H P=some (.tbl (dq ps pos c)))(hn:Nm ps pos q)(hs:3 ∣ ps.size):s.heap.CodeRec (.ref c) q:=by
 obtain ⟨rows,eP,tr,am,rc⟩:=(show ba X.prog X.w H s.heap P (.tbl _) from I.hok P _ hP)
 obtain ⟨k,hk⟩:=hs
 have e:=rc pos c ⟨k,by rw[E1 (by omega), <- hk,Nat.sub_self];rfl,by rw[E1 (by omega), <- hk,Dw];rfl,by rw[E1 (by omega), <- hk,Dw];rfl⟩
 obtain ⟨c2,q2,e1,_,cr,hq⟩:=am pos _ e
 cases e1
 rw[hn.un c q2 hq] at cr
 exact cr
theorem wz {P c:Addr}{ps:Array Bh}{params:Arguments}{body:Expr}{lsc:Scope}{pos:Pos}{clos:List (Str×Addr)}{Q:Bh->Bi->Prop}
  (I:Inv X pins σ H s) (hc:X.env.code = .ref c) (hcd:PySem.W.codeHdIn X.K c P=true) (hP:H P=some (.tbl ps)) (hq:Nm ps pos (X.env.qual ++ "<lambda>"))
  (hdef:defaultsOf params X.env=([],[])) (hcl:closureFor lsc X.env=pure clos)
  (h:∀(f c':Addr) (ctv pm:Bh) (h':Heap) (tk:Nat) (H':Hp),SameBut P H H'->Inv X pins σ H' { s with heap:=h',toks:=tk }->H' P=some (.tbl (dq ps pos c'))->s.heap.objs.size<=f->H' f=none →
   h'.get? f=some (PySem.W.kla_obj "<lambda>" (X.env.qual ++ "<lambda>") params body lsc clos pm c' ctv)->Q (.ref f) { s with heap:=h',toks:=tk }) :
  BL (B1 X.prog X.w) X.A (eval (.Lambda params body lsc pos) X.env) Q X.xe s:=by
 refine PySem.W.kla_eval hdef ?_
 obtain ⟨rows,eP,tr,am,rc⟩:=(show ba X.prog X.w H s.heap P (.tbl ps) from I.hok P _ hP)
 have hb:=I.qX eP (by intro z;cases z)
 have hgl:=I.mod.glob.keeps I.bk
 have hgP:Cg≠P:=λz=>by
  obtain ⟨o',es,ep,e,d,_⟩:=hgl
  rw[z,eP] at e;cases e;cases d
 have C:=Ia I.kIn hcd
 have key:∀(H1:Hp) (c':Addr) (h2:Heap) (tk:Nat) (rows2:Array Bh),ax H H1->(∀b o,b≠P->s.heap.get? b=some o->h2.get? b=some o)->h2.get? P=some (PySem.W.tabObj rows2)->TriplesOk rows2.toList->codeAmong pos rows2.toList=some (.ref c') →
   (∀pos' v,codeAmong pos' rows2.toList=some v->∃c q,v = .ref c/\H1 c=some (.own P)/\h2.CodeRec (.ref c) q/\qAt ps pos' q)->(∀b o,H1 b=some o->H b=none->s.heap.objs.size<=b/\o = .own P/\∃ob,h2.get? b=some ob) →
   Inv X pins σ (upd H1 P (.tbl (dq ps pos c'))) { s with heap:=h2,toks:=tk }:=by
  intro H1 c' h2 tk rows2 sm k2 tP tr2 ha2 am2 new
  have own2:∀b,H1 b=some (.own P)->(upd H1 P (.tbl (dq ps pos c'))) b=some (.own P):=λb e=>by
   rw[ao (jK e (sm _ _ hP) nofun)];exact e
  have sb:∀b o,b≠P->H b=some o->(upd H1 P (.tbl (dq ps pos c'))) b=some o:=λb o nb e=>by rw[ao nb];exact sm _ _ e
  refine I.un (h':=h2) (t':=tk) ⟨λb o e n _ _ =>?_,λb o e n _ _ =>?_,λb o e n _ =>?_,λb o e _ =>?_,λb xs e =>?_,λb o u e =>?_,λb ps' e =>?_⟩ ?_
  ·exact k2 b o (λz=>by rw[z,hP] at n;cases n) e
  ·exact ⟨o.slots,k2 b o (λz=>by rw[z,hP] at n;cases n) e⟩
  ·have nb:b≠P:=λz=>by rw[z,hP] at n;cases n
   rw[ao nb]
   cases e1:H1 b with
   | none=>rfl
   | some u=>exact absurd (Bq e) (HH.mpr (new b u e1 n).1)
  ·by_cases z:b=P
   ·rw[z];exact ⟨_,tP⟩
   ·exact ⟨o,k2 b o z e⟩
  ·exact sb _ _ (λz=>by rw[z,hP] at e;cases e) e
  ·exact sb _ _ (λz=>by rw[z,hP] at e;cases e) e
  ·by_cases z:b=P
   ·subst z
    rw[hP] at e
    cases e
    exact ⟨_,af⟩
   ·exact ⟨#[],by rw[sb _ _ z e];simp⟩
  ·intro b u e
   by_cases hbP:b=P
   ·subst hbP
    rw[af] at e
    cases e
    refine ⟨rows2,tP,tr2,λpos' v hv =>?_,λpos' c2 hc2 =>?_⟩
    ·obtain ⟨c3,q,ev,ho,cr,hqa⟩:=am2 pos' v hv
     exact ⟨c3,q,ev,own2 _ ho,cr,hq.ws c' _ _ hqa⟩
    ·obtain ⟨rfl,l1,l2⟩:=hq.co _ _ _ hc2
     rw[pL l1 l2];exact ha2
   ·rw[ao hbP] at e
    cases e0:H b with
    | none =>
     obtain ⟨_,rfl,ob,eo⟩:=new b u e e0
     exact ⟨ob,eo⟩
    | some u0 =>
     have:=sm _ _ e0
     rw[e] at this
     cases this
     refine (I.hok b u e0).jL (λd v hd r=>k2 d v ?_ r) (λd q=>sb _ _ (λz=>by rw[z,hP] at q;cases q) q) (λd xs q=>sb _ _ (λz=>by rw[z,hP] at q;cases q) q)
     rintro rfl
     rcases hd with z | z
     ·exact hbP z.symm
     ·rw[hP] at z;cases z
 cases ha:codeAmong pos rows.toList with
 | some v =>
  obtain ⟨c',q,rfl,ho,cr,hqa⟩:=am pos v ha
  refine PySem.W.kla_makeFunctionHit (mg:=X.mg) hcl I.ok.glob hgl hc C eP tr ha hb λctv h' tk k sz =>?_
  have k2:∀b o,s.heap.get? b=some o->(h'.push (PySem.W.kla_obj "<lambda>" (X.env.qual ++ "<lambda>") params body lsc clos ((X.mg "__name__").getD .none) c' ctv)).get? b=some o:=λb o e=>Bf _ (k b o e)
  have fP:h'.objs.size≠P:=λz=>absurd (Bq eP) (by rw[<- z];exact HH.mpr sz)
  refine h _ c' ctv _ _ tk (upd H P (.tbl (dq ps pos c'))) (λb o nb e=>by rw[ao nb];exact e) (key H c' _ tk rows (ax.refl _) (λb o _ e=>k2 b o e) (k2 _ _ eP) tr ha (λpos' v hv =>?_) λb o e n=>by rw[n] at e;cases e) af sz (by rw[ao fP];exact I.hok.fresh sz) (Bp _ rfl)
  obtain ⟨c3,q,ev,ho,cr,hqa⟩:=am pos' v hv
  exact ⟨c3,q,ev,ho,cr.keeps k2,hqa⟩
 | none =>
  refine PySem.W.kla_makeFunction (mg:=X.mg) hcl I.ok.glob hgl hc C eP tr ha hgP hb λc' ctv h' tk hx c1 c2 cr tP =>?_
  have hn:H c'=none:=I.hok.fresh c1
  have k2:∀b o,b≠P->s.heap.get? b=some o->(h'.push (PySem.W.kla_obj "<lambda>" (X.env.qual ++ "<lambda>") params body lsc clos ((X.mg "__name__").getD .none) c' ctv)).get? b=some o:=λb o nb e=>Bf _ (hx b o nb e)
  have tP2:(h'.push (PySem.W.kla_obj "<lambda>" (X.env.qual ++ "<lambda>") params body lsc clos ((X.mg "__name__").getD .none) c' ctv)).get? P=some (PySem.W.tabObj (rows ++ #[DX pos.line,DX pos.col,.ref c'])):=Bf _ tP
  have cr2:=cr.push (PySem.W.kla_obj "<lambda>" (X.env.qual ++ "<lambda>") params body lsc clos ((X.mg "__name__").getD .none) c' ctv)
  have sz2:s.heap.objs.size<=h'.objs.size:=Fo (Cn c1 c2)
  have fP:h'.objs.size≠P:=λz=>absurd (Bq eP) (by rw[<- z];exact HH.mpr sz2)
  have fN:(upd (upd H c' (.own P)) P (.tbl (dq ps pos c'))) h'.objs.size=none:=by
   rw[ao fP,ao (EU c2)]
   exact I.hok.fresh sz2
  have fO:(h'.push (PySem.W.kla_obj "<lambda>" (X.env.qual ++ "<lambda>") params body lsc clos ((X.mg "__name__").getD .none) c' ctv)).get? h'.objs.size=some (PySem.W.kla_obj "<lambda>" (X.env.qual ++ "<lambda>") params body lsc clos ((X.mg "__name__").getD .none) c' ctv):=Bp _ rfl
  generalize h'.push (PySem.W.kla_obj "<lambda>" (X.env.qual ++ "<lambda>") params body lsc clos ((X.mg "__name__").getD .none) c' ctv)=h2 at k2 tP2 cr2 fO
  have sm:ax H (upd H c' (.own P)):=λb u e=>by rw[ao (aA e hn)];exact e
  refine h _ c' ctv _ h2 tk _ (λb o nb e=>by rw[ao nb];exact sm _ _ e) (key (upd H c' (.own P)) c' h2 tk _ sm k2 tP2 ?_ ?_ (λpos' v hv =>?_) λb o e n =>?_) af sz2 fN fO
  ·rw[B6]
   exact nH _ tr
  ·rw[B6]
   exact codeAmong_snoc _ tr ha
  ·rw[B6] at hv
   rcases qW _ tr hv with q | ⟨q1,q2,q3⟩
   ·obtain ⟨c3,q,ev,ho,⟨c4,oc,vs,t,e1,e2,e3⟩,hqa⟩:=am pos' v q
    cases e1
    exact ⟨c3,q,ev,sm _ _ ho,⟨c3,oc,vs,t,rfl,k2 _ _ (λz=>by rw[z,hP] at ho;cases ho) e2,e3⟩,hqa⟩
   ·obtain ⟨i,t,a1,a2,a3⟩:=hq.qa
    refine ⟨c',_,q3,af,cr2,i,t,?_,?_,a3⟩
    ·rw[<- q1];exact a1
    ·rw[<- q2];exact a2
  ·by_cases z:b=c'
   ·subst z
    rw[af] at e
    cases e
    obtain ⟨c3,oc,vs,t,e1,e2,e3⟩:=cr2
    cases e1
    exact ⟨c1,rfl,oc,e2⟩
   ·rw[ao z,n] at e;cases e
theorem Inv.A8 {pins0:List (Addr×Obj)}{σ0:St}{H0:Hp}{s0:Bi}{P c:Addr}{ps:Array Bh}{pos:Pos}{q:Str}(I0:Inv X pins0 σ0 H0 s0)(h0:H0 P=some (.tbl ps))(I:Inv X pins σ H s)(hP:H P=some (.tbl (dq ps pos c)))(hq:Nm ps pos q)(hN:∀pos c,¬ cAt ps pos c):Inv X pins σ (upd H P (.tbl ps)) s:=by
 have np:∀b o,H b=some o->(∀r,o ≠ .tbl r)->(upd H P (.tbl ps)) b=some o:=λb o e n=>by
  rw[ao (λz=>by rw[z,hP] at e;cases e;exact n _ rfl)];exact e
 have nn:∀b,H b=none->(upd H P (.tbl ps)) b=none:=λb n=>by
  rw[ao (λz=>by rw[z,hP] at n;cases n)];exact n
 refine ⟨I.ok,I.os,I.bare,⟨I.base.keep,I.base.slot,λb o e n hx=>nn b (I.base.free b o e n hx),I.base.there,λb xs e=>np b _ (I.base.tups b xs e) nofun,λb o u e=>np b _ (I.base.frzs b o u e) nofun,λb ps' e =>?_⟩,I.loc,I.cell,nn _ I.free,λx c e=>nn _ (I.freeC x c e),λp hp =>?_,λb u e =>?_,I.len⟩
 ·by_cases z:b=P
  ·subst z
   obtain ⟨m,e1⟩:=I0.base.tbls b ps' e
   rw[h0] at e1
   cases e1
   exact ⟨m,af⟩
  ·obtain ⟨m,e1⟩:=I.base.tbls b ps' e
   exact ⟨m,by rw[ao z];exact e1⟩
 ·obtain ⟨a,b,r⟩:=I.pin p hp
  exact ⟨a,nn _ b,r⟩
 ·by_cases z:b=P
  ·subst z
   rw[af] at e
   cases e
   obtain ⟨rows,eP,tr,am,rc⟩:=(show ba X.prog X.w H s.heap b (.tbl _) from I.hok b _ hP)
   refine ⟨rows,eP,tr,λpos' v hv =>?_,λpos' c2 h2=>absurd h2 (hN pos' c2)⟩
   obtain ⟨c3,q3,ev,ho,cr,hqa⟩:=am pos' v hv
   exact ⟨c3,q3,ev,np _ _ ho nofun,cr,hq.vs c _ _ hqa⟩
  ·rw[ao z] at e
   exact (I.hok b u e).jL (λd v _ r=>r) (λd r=>np _ _ r nofun) λd xs r=>np _ _ r nofun
end
open PySem PySem.Spec PySem.Calls PyProof.Rows
def tj (X:Cx)(qual:Str)(lsc:Scope)(cl:List (Str×Addr))(f:Addr)(cd:Bh)(A':B9)(N':List Str)(s:Bi)(H:Hp):Cx :=
 { X with A:=A'.deeper (PySem.W.envX qual lsc s.heap.objs.size f cd cl),N:=N',s₀:=s,H₀:=H,env:=PySem.W.envX qual lsc s.heap.objs.size f cd cl,outer:=X.stack,stack:=PySem.W.envX qual lsc s.heap.objs.size f cd cl :: X.stack,ex:=[],calm:=true,fn:=λ_=>false,pn:=[],xe:=λ_ _=>False }
section
variable  {X:Cx}{pins:List (Addr×Obj)}{σ:St}{H:Hp}{s:Bi}
theorem ym {lsc:Scope}{N':List Str}{ix:List (Option Nat)}{qual x:Str}{f:Addr}{cd:Bh}{A':B9}{u:Bh}{v:V}{h1:Heap}{t:Nat}
  (I:Inv X pins σ H s) (K:d8 X.env.scope.names X.N lsc N' ix) (hx:N'[0]? = some x) (hxl:lsc.names.lookup x=some .local) (hi0:ix[0]? = some none)
  (hd:A'.handled=none) (hfr:A'.frames=some X.stack) (r:RelV v u)
  (k:∀b o,s.heap.get? b=some o->h1.get? b=some o) (ns:h1.Ns s.heap.objs.size (λy=>([(x,u)]:List (Str×Bh)).reverse.lookup y)) :
  Inv (tj X qual lsc (aG X.env lsc.names []) f cd A' N' s H) [] ((inner ix σ).set 0 (some v)) H { s with heap:=h1,toks:=t }:=by
 have hcl:∀y∈lsc.names,y.2 = .free->∃c,X.env.cells.lookup y.1=some c:=λy hy e=>I.ok.has y.1 (K.frees y hy e)
 have up:∀y c,(aG X.env lsc.names []).lookup y=some c->X.env.cells.lookup y=some c:=λy c e=>by
  rcases cp lsc.names [] hcl e with q | q
  ·cases q
  ·exact q
 have noE:∀b:Addr,b∉(tj X qual lsc (aG X.env lsc.names []) f cd A' N' s H).ex:=λb z=>absurd (show b∈([]:List Addr) from z) (by simp)
 refine ⟨⟨I.ok.mod,K.kind,rfl,rfl,Bn _,λy z c h1 h2=>I.ok.inj y z c (up _ _ h1) (up _ _ h2),λy hy =>?_,(λy c h=>nomatch h),λ_=>hd,HJ hfr,.inr ⟨rfl,rfl⟩,λb z=>absurd z (noE b),I.bs,BS I.ok.bsz I.sz,λb _ _=>noE b,λb z=>absurd z (noE b),I.stack,I.mY⟩,
  rfl,I.bare,Un.kept k,⟨_,ns,λi y w e1 e2 e3 =>?_⟩,λy c e =>?_,I.hok.fresh (Bn _),λy c e=>I.freeC y c (up y c e),λp hp=>absurd (show p∈([]:List (Addr×Obj)) from hp) (by simp),I.hok.kept k,?_⟩
 ·have hy:lsc.names.lookup y=some .cell\/lsc.names.lookup y=some .free:=hy
  rcases hy with q | q
  ·exact absurd rfl (K.nocell _ (cF q))
  ·exact cq lsc.names [] (.inl (cF q))
 ·by_cases hi:i=0
  ·subst hi
   have e1:N'[0]? = some y:=e1
   rw[hx] at e1
   cases e1
   have hl:0<(inner ix σ).length:=by
    unfold inner
    rw[Bg]
    exact (Bt.mp hi0).1
   rw[EL hl] at e2
   cases e2
   refine ⟨u,r,.inl ⟨hxl,?_⟩⟩
   show List.lookup x [(x,u)]=some u
   rw[EH,beq_self_eq_true]
  ·rw[F9 (C6 hi)] at e2
   have e2':(ix.map λo=>match o with | none=>none | some j=>(σ[j]?).join)[i]? = some (some w):=e2
   rw[BQ] at e2'
   cases hix:ix[i]? with
   | none=>rw[hix] at e2';cases e2'
   | some o =>
    cases o with
    | none=>rw[hix] at e2';cases e2'
    | some j =>
     rw[hix] at e2'
     have e4:(σ[j]?).join=some w:=BW e2'
     have e5:σ[j]? = some (some w):=by
      cases hj:σ[j]? with
      | none=>rw[hj] at e4;cases e4
      | some z=>rw[hj] at e4;rw[show z=some w from e4]
     obtain ⟨n1,n2⟩:=K.slot i j y hix e1
     have mem:=cF n2
     have kc:X.env.kindOf y=some .cell\/X.env.kindOf y=some .free:=K.frees _ mem rfl
     obtain ⟨m',_,hl⟩:=I.loc
     obtain ⟨u',r',l⟩:=hl j y w n1 e5 (.inr kc)
     refine ⟨u',r',?_⟩
     rcases l with ⟨q,_⟩ | ⟨_,c,q,z⟩
     ·rcases kc with kc | kc <;> (rw[kc] at q;cases q)
     ·obtain ⟨c',hc'⟩:=cq (env:=X.env) (y:=y) lsc.names [] (.inl mem)
      have:=up y c' hc'
      rw[q] at this
      cases this
      exact .inr ⟨.inr n2,c,hc',z.keeps k⟩
 ·obtain ⟨w,z⟩:=I.cell y c (up y c e)
  exact ⟨w,z.keeps k⟩
 ·show ((inner ix σ).set 0 (some v)).length=N'.length
  rw[Jp]
  unfold inner
  rw[Bg]
  exact K.len
theorem wA {lsc:Scope}{N':List Str}{ix:List (Option Nat)}{qual x:Str}{f c':Addr}{pm ctv:Bh}{A':B9}{k:Nat}{u:Bh}{v:V}{params:Arguments}{body:Expr}{te:TE}{Q:VK}{E:Bh->Bi->Prop}
  (I:Inv X pins σ H s) (K:d8 X.env.scope.names X.N lsc N' ix) (hx:N'[0]? = some x) (hxl:lsc.names.lookup x=some .local) (hi0:ix[0]? = some none) (hco:lsc.isCoroutine=false) (hgen:lsc.isGenerator=false)
  (hr:bL (k+1) A') (hfr:A'.frames=some X.stack)
  (ho:s.heap.get? f=some (PySem.W.kla_obj "<lambda>" qual params body lsc (aG X.env lsc.names []) pm c' ctv)) (hcr:s.heap.CodeRec (.ref c') qual)
  (hbind:bindArgs (PySem.W.kla_fn "<lambda>" qual params body lsc (aG X.env lsc.names []) pm (.ref c') ctv) ⟨[u],[]⟩=pure [(x,u)])
  (he:bL k (A'.deeper (PySem.W.envX qual lsc s.heap.objs.size f (.ref c') (aG X.env lsc.names [])))->PE (tj X qual lsc (aG X.env lsc.names []) f (.ref c') A' N' s H) body te)
  (r:RelV v u) (q:te ((inner ix σ).set 0 (some v)) H Q) :
  BL (B1 X.prog X.w) A' (call (.ref f) [u]) (EP X pins σ Q) E s:=by
 refine IT (PySem.W.kla_callFunE hr.depth ho rfl hco hgen rfl hcr ?_)
 rw[hbind]
 refine Bk (HN K.nocell (λy hy =>?_) (λh1 ns sb=>⟨?_,?_⟩) K.kind)
 ·rw[Bz.mp hy];exact hxl
 ·exact (I.nolimit).fresh _ sb
 have hk₁:∀b o,s.heap.get? b=some o->h1.get? b=some o:=λb o e=>sb.extBut b o (BI (Bq e)) (Bf _ e)
 have J:=ym (qual:=qual) (f:=f) (cd :=.ref c') (t:=s.toks+1) I K hx hxl hi0 hr.hd hfr r hk₁ ns
 refine PySem.W.kla_codeExpr (Dg (he (hr.deeper _) [] _ _ _ _ J q) (λy s' z =>?_) λe s' z=>False.elim z)
 obtain ⟨w,H',J',rw',q'⟩:=z
 exact ⟨w,H',I.yS (ch:=[]) J'.os J'.base J'.hok J'.bare (λb hb=>absurd hb (by simp)),rw',q'⟩
end
end L2
namespace Srt
open PySem PyProof.Rows
def z7 (rv:Bool)(kz:List Int)(vs out:List Bh):Prop:=∃ps:List (Int×Bh),ps.Perm (kz.zip vs)/\out=ps.map Prod.snd/\ps.Pairwise (λp q=>if rv=true then q.1<=p.1 else p.1<=q.1)
def nI {α:Type}(rv:Bool)(l:List α):List α:=if rv=true then l.reverse else l
section
variable  {prog:BD}{w:Cb}{A:B9}{E:Bh->Bi->Prop}{s:Bi}
theorem wB {h6:Bi}:Cmp prog w A h6 j5 (λp:BH=>intOf p.1) (λp=>∃i t,p.1 = .int i t) oneType':=by
 refine ⟨λE st x y Q hk hx hy q =>?_⟩
 obtain ⟨i,t,e1⟩:=hx
 obtain ⟨j,u,e2⟩:=hy
 rw[lt'_eq]
 refine Bx (F7 ?_)
 rw[hk,keyLt'_oneType,e1,e2]
 refine Bx (Gf (DC (JA ⟨rfl,?_⟩)))
 refine BK ?_
 have q':Q (some (decide (intOf x.1<intOf y.1))) st:=q
 rw[e1,e2] at q'
 exact q'
theorem yn {rv:Bool}{keys vs:List Bh}{kz:List Int}(hk:C8 keys kz){xs:List BH}(hp:xs.Perm (keys.zip vs))(hs:xs.Pairwise λp q=>j5.kle (intOf p.1) (intOf q.1)):z7 rv kz vs (nI rv (xs.map (·.2))):=by
 have e:(keys.zip vs).map (λp:BH=>(intOf p.1,p.2))=kz.zip vs:=by
  rw[<- ints_map hk,List.zip_map_left]
  exact EF λ⟨x,y⟩ _=>rfl
 have pm:(xs.map λp:BH=>(intOf p.1,p.2)).Perm (kz.zip vs):=e ▸ hp.map _
 have em:xs.map (·.2)=(xs.map λp:BH=>(intOf p.1,p.2)).map Prod.snd:=by rw[BP];rfl
 have pw:(xs.map λp:BH=>(intOf p.1,p.2)).Pairwise λp q=>p.1<=q.1:=by
  rw[B0]
  refine hs.imp λ{p q} le =>?_
  have:=of_decide_eq_false (show decide (intOf q.1<intOf p.1)=false from le)
  show intOf p.1<=intOf q.1
  omega
 rw[em]
 generalize (xs.map λp:BH=>(intOf p.1,p.2))=ps at pm pw
 cases rv with
 | false=>exact ⟨ps,pm,rfl,pw.imp λh=>by rw[if_neg Bo];exact h⟩
 | true=>exact ⟨ps.reverse,(List.reverse_perm ps).trans pm,by rw[Fj];rfl,List.pairwise_reverse.mpr (pw.imp λh=>by rw[if_pos rfl];exact h)⟩
end
end Srt
namespace L2
open PySem PySem.Spec PyProof.Rows
section
variable  {X:Cx}
theorem pM {α β γ:Type}(f:α -> β)(g:α -> γ):∀l:List α,(l.map f).zip (l.map g)=l.map λx=>(f x,g x)
 | []=>rfl
 | x :: l=>by rw[BF,BF,Du,pM f g l];rfl
end
open PySem PySem.Spec PySem.Calls PyProof.Rows PySem.W
section
variable  {X:Cx}{pins:List (Addr×Obj)}{σ:St}{H:Hp}{s:Bi}
theorem Inv.take {p:Addr}{o:HO}(I:Inv X pins σ H s)(hn:H p=none)(hp:X.s₀.heap.objs.size<=p)(hl:p≠X.env.locals)(hc:∀x c,X.env.cells.lookup x=some c->c≠p)(hpin:∀q∈X.pn++pins,q.1≠p)(new:ba X.prog X.w (upd H p o) s.heap p o):Inv X pins σ (upd H p o) s:=by
 have old:∀b u,H b=some u->(upd H p o) b=some u:=λb u e=>by rw[ao (aA e hn)];exact e
 refine ⟨I.ok,I.os,I.bare,⟨I.base.keep,I.base.slot,λb u e n hx =>?_,I.base.there,λb xs e=>old _ _ (I.base.tups b xs e),λb u w e=>old _ _ (I.base.frzs b u w e),λb ps e =>?_⟩,I.loc,I.cell,?_,λx c e =>?_,λq hq =>?_,λb u e =>?_,I.len⟩
 ·rw[ao (BI (BE (Bq e) hp))];exact I.base.free b u e n hx
 ·obtain ⟨m,e1⟩:=I.base.tbls b ps e
  exact ⟨m,old _ _ e1⟩
 ·rw[ao (C6 hl)];exact I.free
 ·rw[ao (hc x c e)];exact I.freeC x c e
 ·obtain ⟨a,b,r⟩:=I.pin q hq
  exact ⟨a,by rw[ao (hpin q hq)];exact b,r⟩
 ·by_cases z:b=p
  ·subst z
   rw[af] at e
   cases e
   exact new
  ·rw[ao z] at e
   exact (I.hok b u e).jL (λd v _ r=>r) (λd r=>old _ _ r) λd xs r=>old _ _ r
structure kj (X:Cx)(pins:List (Addr×Obj))(a:Addr):Prop where
 s0:X.s₀.heap.objs.size<=a
 l:a≠X.env.locals
 fs:a∉X.fs
 c:∀x c,X.env.cells.lookup x=some c->c≠a
 p:∀q∈X.pn++pins,q.1≠a
theorem Inv.z8 (I:Inv X pins σ H s){a:Addr}(h:s.heap.objs.size<=a):kj X pins a:=by
 refine ⟨BS I.sz h,EU (BE I.lt h),I.xA h,λx c e z =>?_,λq hq z =>?_⟩
 ·obtain ⟨v,o,ho,_⟩:=I.cell x c e
  exact absurd (Bq ho) (by rw[z];exact HH.mpr h)
 ·exact absurd (Bq (I.pin q hq).1) (by rw[z];exact HH.mpr h)
theorem kj.add {a b:Addr}{o:Obj}(h:kj X pins a)(n:b≠a):kj X (pins++[(b,o)]) a :=
 ⟨h.s0,h.l,h.fs,h.c,λq hq=>by
  rw[<- BZ] at hq
  rcases BC.mp hq with q' | q'
  ·exact h.p q q'
  ·rw[Bz.mp q'];exact n⟩
theorem Inv.yo (I:Inv X pins σ H s){a:Addr}{o:Obj}(O:kj X pins a)(e:s.heap.get? a=some o)(n:H a=none)(hc:∀v,o.data ≠ .cell v):Inv X (pins++[(a,o)]) σ H s:=I.dW λp hp=>by
 rcases BC.mp hp with q | q
 ·exact I.pin p (BO _ q)
 ·rw[Bz.mp q];exact ⟨e,n,O.l,O.fs,hc⟩
theorem Inv.pN (I:Inv X pins σ H s){a:Addr}{o:Obj}(h:(a,o)∈pins):s.heap.get? a=some o/\H a=none:=by
 have:=I.pin (a,o) (BO _ h)
 exact ⟨this.1,this.2.1⟩
theorem Inv.tu {qs:List (Addr×Obj)}(I:Inv X (pins++qs) σ H s):Inv X pins σ H s:=I.dW λp hp=>I.pin p (by rw[<- BZ];exact Eg _ (BO _ hp))
theorem wC {a f:Addr}{fo:Obj}{A:B9}{vs:List Bh}{kz:List Int}{n k:Nat}{R:Hp->Prop}{P:PySem.Fin->Bi->Prop}{E:Bh->Bi->Prop}
  (I:Inv X pins σ H s) (hR:R H) (hr:bL k A) (hA:A.frames=some X.stack) (ho:s.heap.get? a=some (seqObj "list" vs.toArray n)) (hn:H a=none) (Oa:kj X pins a) (Of:kj X pins f) (hfO:s.heap.get? f=some fo) (hfn:H f=none) (hfc:∀v,fo.data ≠ .cell v) (fa:f≠a)
  (hz:vs.length<=BJ) (hlen:kz.length=vs.length)
  (turn:∀(i:Nat) (u:Bh) (kk:Int) (s':Bi) (H':Hp) (pins':List (Addr×Obj)) (E':Bh->Bi->Prop),vs[i]? = some u->kz[i]? = some kk->Inv X pins' σ H' s'->R H'->s'.heap.get? f=some fo →
   BL (B1 X.prog X.w) A (call (.ref f) [u]) (EP X pins' σ λy H''=>y = .int kk/\R H'') E' s')
  (h:∀(s':Bi) (H':Hp) (out:List Bh) (c:Nat),Inv X pins σ H' s'->R H'->H' a=none->s'.heap.get? a=some (seqObj "list" out.toArray c)->Srt.z7 false kz vs out->P (.done (.ret .none)) s') :
  BL (B1 X.prog X.w) A (ksk_tree a (.ref f) false) P E s:=by
 have ha:a<s.heap.objs.size:=Bq ho
 unfold ksk_tree
 refine Bd (GD ho rfl (Bd (E9 ho rfl ?_ (by rw[Bm];exact hz) (BU _))))
 obtain ⟨e1,ho1⟩:∃e1,(s.heap.update a (Cs λ_=>(#[]:Array Bh))).get? a=some (seqObj "list" #[] e1):=⟨_,FC ho λ_ => #[]⟩
 refine Bd (Ih ho1 rfl (Bd (wpAny_newTuple ?_ (by exact hz))))
 refine Bd (FD ?_ (BU _))
 refine CG ?_
 obtain ⟨kS,ekS⟩:∃kS,kS=((s.heap.update a (Cs λ_=>(#[]:Array Bh))).push (seqObj "tuple" vs.toArray 0)).objs.size:=⟨_,rfl⟩
 have hkS:kS=s.heap.objs.size+1:=by rw[ekS,IV,Ji]
 have hka:kS≠a:=by rw[hkS];exact EU (CH ha)
 show BL _ _ (ksk_rest a (.ref f) false vs.toArray e1 (.ref ((s.heap.update a (Cs λ_=>(#[]:Array Bh))).push (seqObj "tuple" vs.toArray 0)).objs.size)) _ _ { s with heap:=((s.heap.update a (Cs λ_=>(#[]:Array Bh))).push (seqObj "tuple" vs.toArray 0)).push (seqObj "list" #[] 0) }
 rw[<- ekS]
 have g0:(((s.heap.update a (Cs λ_=>(#[]:Array Bh))).push (seqObj "tuple" vs.toArray 0)).push (seqObj "list" #[] 0)).get? kS=some (seqObj "list" #[] 0):=by rw[ekS];exact Bp _ rfl
 have a0:(((s.heap.update a (Cs λ_=>(#[]:Array Bh))).push (seqObj "tuple" vs.toArray 0)).push (seqObj "list" #[] 0)).get? a=some (seqObj "list" #[] e1):=Bf _ (Bf _ ho1)
 have k0:∀b o,b≠a->s.heap.get? b=some o->(((s.heap.update a (Cs λ_=>(#[]:Array Bh))).push (seqObj "tuple" vs.toArray 0)).push (seqObj "list" #[] 0)).get? b=some o:=λb o nb e=>by
  refine Bf _ (Bf _ ?_)
  rw[DF _ _ _ _ nb]
  exact e
 have Ok:kj X pins kS:=I.z8 (by rw[hkS];exact FH _)
 have hkn:H kS=none:=I.hok.fresh (by rw[hkS];exact FH _)
 have fk:f≠kS:=by rw[hkS];exact BI (CH (Bq hfO))
 generalize ((s.heap.update a (Cs λ_=>(#[]:Array Bh))).push (seqObj "tuple" vs.toArray 0)).push (seqObj "list" #[] 0)=h6 at g0 a0 k0
 have nc:∀(T:String) (xs:Array Bh) (m:Nat) v,(seqObj T xs m).data ≠ .cell v:=λT xs m v z=>by cases z
 have I6:Inv X pins σ H { s with heap:=h6,toks:=s.toks }:=I.turned (t':=s.toks) k0 hn Oa.l (.inr Oa.s0) Oa.c Oa.p
 have I7:=((I6.yo Of (k0 _ _ fa hfO) hfn hfc).yo (Oa.add fa) a0 hn (nc _ _ _)).yo ((Ok.add fk).add (C6 hka)) g0 hkn (nc _ _ _)
 have Of':=Of
 unfold ksk_rest
 refine Bd (D0 ?_)
 rw[<- Array.forIn_toList];simp only[List.toList_toArray]
 refine Bd (ksk_fold (λi s'=>∃(H':Hp) (kA:Array Bh) (e:Nat),Inv X (pins++[(f,fo)]++[(a,seqObj "list" #[] e1)]++[(kS,seqObj "list" kA e)]) σ H' s'/\R H'/\C8 kA.toList (kz.take i)) vs 0 _
  ⟨H, #[],0,I7,hR,by simpa using IntsAre.nil⟩ ?step ?done)
 case step =>
  rintro j x s' hx ⟨H',kA,e,J,hR',hk⟩
  simp only[Ea] at hk ⊢
  have hj:j<vs.length:=(Bt.mp hx).1
  obtain ⟨kk,hkj⟩:∃kk,kz[j]? = some kk:=⟨_,BA (by omega)⟩
  have hzk:kA.size=j:=by
   have h1:=hk.length
   rw[Bl,CA] at h1
   omega
  have gf:=(J.pN (a:=f) (o:=fo) (by simp)).1
  refine Bd (DC (Dg (turn j x kk s' H' _ (λ_ _=>False) hx hkj J hR' gf) (λy s2 z =>?_) λe s2 z=>False.elim z))
  obtain ⟨w,H2,J2,rw2,rfl,hR2⟩:=z
  obtain ⟨t,rfl⟩:=rw2
  try dsimp only
  obtain ⟨gk,nk⟩:=J2.pN (a:=kS) (o:=seqObj "list" kA e) (by simp)
  obtain ⟨ga,na⟩:=J2.pN (a:=a) (o:=seqObj "list" #[] e1) (by simp)
  obtain ⟨c2,hc2⟩:∃c2,(s2.heap.update kS (Cs (·.push (.int kk t)))).get? kS=some (seqObj "list" (kA.push (.int kk t)) c2):=⟨_,FC gk (·.push (.int kk t))⟩
  have ek:kz.take (j+1)=kz.take j++[kk]:=by rw[CT,hkj];simp
  have ea:(kA.push (Ds kk t)).toList=kA.toList++[Ds kk t]:=by simp
  refine Bd (E9 gk rfl ?_ (by omega) (BS (Nat.le_of_eq (Eo ..)) (by omega)))
  have J3:Inv X (pins++[(f,fo)]++[(a,seqObj "list" #[] e1)]) σ H2 { s2 with heap:=s2.heap.update kS (Cs (·.push (.int kk t))),toks:=s2.toks }:=J2.tu.turned (t':=s2.toks) (λb o nb eb=>by rw[DF _ _ _ _ nb];exact eb) nk Ok.l (.inr Ok.s0) Ok.c ((Ok.add fk).add (C6 hka)).p
  exact Bk ⟨rfl,H2,kA.push (.int kk t),c2,J3.yo ((Ok.add fk).add (C6 hka)) hc2 nk (nc _ _ _),hR2,by rw[ea,ek];exact ksk_snoc hk⟩
 case done =>
  rintro s' ⟨H',kA,e,J,hR',hk⟩
  have hk':C8 kA.toList kz:=by
   have e3:kz.take (0+vs.length)=kz:=B5 (by omega)
   rw[e3] at hk
   exact hk
  have hsz:kA.size=vs.length:=by
   have h1:=hk'.length
   rw[Bl] at h1
   omega
  obtain ⟨gk,nk⟩:=J.pN (a:=kS) (o:=seqObj "list" kA e) (by simp)
  obtain ⟨ga,na⟩:=J.pN (a:=a) (o:=seqObj "list" #[] e1) (by simp)
  try dsimp only
  refine Bd (GD gk rfl ?_)
  have zl:(kA.zip vs.toArray).toList=kA.toList.zip vs:=ksk_zip _ _
  have up:∀p∈(kA.toList.zip vs:List PyProof.Rows.Keyed),∃i t,p.1 = .int i t:=λp hp=>Srt.fG hk' _ (Gg hp).1
  have lz:(kA.toList.zip vs:List PyProof.Rows.Keyed).length=vs.length:=by rw[Hz,Bl,hsz,IY]
  have tl:∀st':B7,(BM st').toList.Perm (kA.toList.zip vs)->(BM st').toList.Pairwise (λp q=>Srt.j5.kle (Srt.intOf p.1) (Srt.intOf q.1))->failedOf st'=none->BL (B1 X.prog X.w) A (ksk_tail a false e1 (.ref kS) st') P E s':=by
   intro st' pm ps hf
   have em:(if false=true then ((BM st').map (·.2)).reverse else (BM st').map (·.2))=(Srt.nI false ((BM st').toList.map (·.2))).toArray:=by
    unfold Srt.nI
    apply FY.mp
    simp
   have sa:(BM st').size=vs.length:=by rw[<- Bl,pm.length_eq,lz]
   have ga1:(s'.heap.update kS (Cs λ_=>(#[]:Array Bh))).get? a=some (seqObj "list" #[] e1):=by rw[DF _ _ _ _ (C6 hka)];exact ga
   unfold ksk_tail
   try dsimp only
   refine Bd (E9 gk rfl ?_ (by rw[hsz];exact hz) (BU _));refine Bd (Hh ?_)
   refine Bd (Ih ga1 rfl ?_);refine Bd (E9 ga1 rfl ?_ (BU _) (by rw[em,Bm];unfold Srt.nI;simp[sa];omega))
   rw[hf];simp only[bne_self_eq_false,CK,if_false]
   have em':(BM st').map (·.2)=(Srt.nI false ((BM st').toList.map (·.2))).toArray:=em
   rw[em']
   obtain ⟨c2,hc2⟩:∃c2,((s'.heap.update kS (Cs λ_=>(#[]:Array Bh))).update a (Cs λ_=>(Srt.nI false ((BM st').toList.map (·.2))).toArray)).get? a=some (seqObj "list" (Srt.nI false ((BM st').toList.map (·.2))).toArray c2):=⟨_,FC ga1 λ_=>(Srt.nI false ((BM st').toList.map (·.2))).toArray⟩
   have J1:Inv X (pins++[(f,fo)]++[(a,seqObj "list" #[] e1)]) σ H' { s' with heap:=s'.heap.update kS (Cs λ_=>(#[]:Array Bh)),toks:=s'.toks }:=J.tu.turned (t':=s'.toks) (λb o nb eb=>by rw[DF _ _ _ _ nb];exact eb) nk Ok.l (.inr Ok.s0) Ok.c ((Ok.add fk).add (C6 hka)).p
   have J2:=J1.tu.tu.turned (it:=a) (h':=(s'.heap.update kS (Cs λ_=>(#[]:Array Bh))).update a (Cs λ_=>(Srt.nI false ((BM st').toList.map (·.2))).toArray)) (t':=s'.toks) (λb o nb eb=>by
    rw[DF _ _ _ _ nb];exact eb) na Oa.l (.inr Oa.s0) Oa.c Oa.p
   exact Bk (h _ H' _ c2 J2 hR' na hc2 (Srt.yn hk' pm ps))
  have zr:(if false=true then (kA.zip vs.toArray).reverse else kA.zip vs.toArray).toList=(kA.toList.zip vs):=by simp[zl]
  unfold ksk_end
  try dsimp only
  by_cases h2:vs.toArray.size<2
  ·rw[if_neg Bo,if_pos h2,if_pos h2]
   refine Bd (Bk ?_)
   rw[Jt]
   refine Bd (Bk ?_)
   refine tl (SortSt.mk' general' (if false=true then (kA.zip vs.toArray).reverse else kA.zip vs.toArray) #[] 7 none) ?_ ?_ rfl
   ·show (if false=true then (kA.zip vs.toArray).reverse else kA.zip vs.toArray).toList.Perm _
    rw[zr]
   ·show (if false=true then (kA.zip vs.toArray).reverse else kA.zip vs.toArray).toList.Pairwise _
    rw[zr]
    rw[Bm] at h2
    have l2:(kA.toList.zip vs:List PyProof.Rows.Keyed).length<2:=by omega
    generalize (kA.toList.zip vs:List PyProof.Rows.Keyed)=l at l2
    match l,l2 with
    | [],_=>exact List.Pairwise.nil
    | [v],_=>exact Dv _ _
    | _ :: _ :: _,hu=>simp only[Bs] at hu;omega
  ·rw[if_neg Bo,if_neg h2,if_neg h2]
   rw[Bm] at h2
   rw[ksk_kind hk' (by rw[hsz];omega)]
   refine Bd (Bk ?_)
   refine Bd (Dg (Srt.oM (Srt.wB (h6:=s')) (E:=E) (a0:=kA.toList.zip vs) (st:=SortSt.mk' oneType' (if false=true then (kA.zip vs.toArray).reverse else kA.zip vs.toArray) #[] 7 none)
    (Q:=λ_ st'=>(BM st').toList.Perm (kA.toList.zip vs)/\(BM st').toList.Pairwise (Srt.Le (O:=Srt.j5) λ(p:PyProof.Rows.Keyed)=>Srt.intOf p.1)/\failedOf st'=none)
    (λp hp=>up p hp) zr rfl rfl rfl (by rw[lz];omega) λst' a1 a2 a3=>⟨a1,a2,a3⟩) ?_ λ_ _ e=>e)
   rintro ⟨⟨⟩,st'⟩ s2 ⟨rfl,hp,hs,hf⟩
   exact tl st' hp hs hf
end
open PySem PySem.Spec PySem.Calls PyProof.Rows PySem.W
section
variable  {X:Cx}{pins:List (Addr×Obj)}{σ:St}{H:Hp}{s:Bi}
theorem qY {v:Bh}{f:Addr}{fo:Obj}{A:B9}{vs:List Bh}{kz:List Int}{k:Nat}{R:Hp->Prop}{Q:Bh->Bi->Prop}{E:Bh->Bi->Prop}
  (I:Inv X pins σ H s) (hR:R H) (hr:bL (k+2) A) (hA:A.frames=some X.stack) (hv:Srt.ir X.prog X.w s v vs) (Of:kj X pins f) (hfO:s.heap.get? f=some fo) (hfn:H f=none) (hfc:∀v,fo.data ≠ .cell v)
  (hz:vs.length<=BJ) (hlen:kz.length=vs.length)
  (turn:∀(i:Nat) (u:Bh) (kk:Int) (s':Bi) (H':Hp) (pins':List (Addr×Obj)) (A':B9) (E':Bh->Bi->Prop),bL k A'->A'.frames=some X.stack->vs[i]? = some u->kz[i]? = some kk->Inv X pins' σ H' s'->R H'->s'.heap.get? f=some fo →
   BL (B1 X.prog X.w) A' (call (.ref f) [u]) (EP X pins' σ λy H''=>y = .int kk/\R H'') E' s')
  (h:∀(s':Bi) (H':Hp) (p:Addr) (out:List Bh) (c:Nat),Inv X pins σ H' s'->R H'->H' p=none->kj X pins p->s'.heap.get? p=some (seqObj "list" out.toArray c)->Srt.z7 false kz vs out->Q (.ref p) s') :
  BL (B1 X.prog X.w) A (call (.builtin "sorted") [v] [("key",.ref f)]) Q E s:=by
 refine call_function_entry_kw Jz Jb Jc (ksk_s1 _ _) ?_
 unfold Builtin.«sorted»
 refine Bd (m:=checkCount "sorted" 1 1 _) (Bk ?_)
 refine Bd (hv _ _ _ λh1 k1 z1=>Bd (FD ?_ hz))
 have hoL:(h1.push (seqObj "list" vs.toArray 0)).get? h1.objs.size=some (seqObj "list" vs.toArray 0):=Bp _ rfl
 have kL:∀b o,s.heap.get? b=some o->(h1.push (seqObj "list" vs.toArray 0)).get? b=some o:=λb o e=>Bf _ (k1 b o e)
 have Oa:kj X pins h1.objs.size:=I.z8 z1
 have na:H h1.objs.size=none:=I.hok.fresh z1
 have fa:f≠h1.objs.size:=BI (BE (Bq hfO) z1)
 refine Bd (CG (wpAny_call_entry_kw slot_list_sort ⟨_,hoL,rfl⟩ entry_list_sort ?body (ksk_l1 _ _)))
 case body =>
  show BL (B1 X.prog X.w) _ (Builtin.«list.sort» ⟨[.ref h1.objs.size],[("key",.ref f)]⟩) _ _ _
  have e:Builtin.«list.sort» ⟨[.ref h1.objs.size],[("key",.ref f)]⟩=ksk_tree h1.objs.size (.ref f) false:=ksk_t1 _ _
  rw[e]
  refine wC (s:={ s with heap:=h1.push (seqObj "list" vs.toArray 0),toks:=s.toks }) (k:=k) (I.kept kL) hR hr.in1.in1 hA hoL na Oa Of (kL _ _ hfO) hfn hfc fa hz hlen (λi u kk s' H' pins' E' hu hk J rH g =>?_) λs' H' out c J rH hn ha ko=>⟨_,rfl,?_⟩
  ·exact turn i u kk s' H' pins' _ E' hr.in1.in1 hA hu hk J rH g
  ·exact Bk ⟨_,rfl,h s' H' _ out c J rH hn Oa ha ko⟩
end
open PySem PySem.Spec PySem.Calls PyProof.Rows PySem.W
theorem wD {H H':Hp}{P a:Addr}{ps:Array Bh}{o:HO}(hP:H P=some (.tbl ps))(ho:∀r,o ≠ .tbl r)(sb:SameBut P H H')(h:Rd H a o):Rd H' a o:=by
 rcases h with h | ⟨ob,h⟩
 ·exact .inl (sb _ _ (λz=>by rw[z,hP] at h;cases h;exact ho _ rfl) h)
 ·exact .inr ⟨ob,sb _ _ (λz=>by rw[z,hP] at h;cases h) h⟩
theorem yp {K:Be}{H H':Hp}{P a:Addr}{ps:Array Bh}{xs:List V}(hP:H P=some (.tbl ps))(sb:SameBut P H H')(h:SqL K H a xs):SqL K H' a xs:=h.imp (wD hP nofun sb) id
theorem nJ {K:Be}{H H':Hp}{P a:Addr}{ps:Array Bh}{xs:List V}(hP:H P=some (.tbl ps))(sb:SameBut P H H')(h:SqT K H a xs):SqT K H' a xs:=h.imp (wD hP nofun sb) id
def wF (α:Type)(K:Be)(P:Addr)(ps:Array Bh)(te teB:TE)(ix:List (Option Nat)):TE:=λσ H Q=>te σ H λx H1=>∃(p:Addr) (ts:List (Addr×α)) (key:α -> Int),[x]=[V.ref p]/\(SqL K H1 p (ts.map λt=>V.ref t.1)\/SqT K H1 p (ts.map λt=>V.ref t.1))/\H1 P=some (.tbl ps) ∧
 (∀t∈ts,∀H',SameBut P H1 H'->teB ((inner ix σ).set 0 (some (.ref t.1))) H' λy H''=>y = .int (key t.2)/\ax H' H'') ∧
 ∀(l:Addr) (out:List (Addr×α)) (H':Hp),ax H1 H'->H' l=none->out.Perm ts->out.Pairwise (λa b=>key a.2<=key b.2)->Q (.ref l) (upd H' l (.lst (out.map λt=>V.ref t.1)))
section
variable  {X:Cx}
theorem nK {α:Type}{e:Expr}{te teB:TE}{p pos kpos lpos:Pos}{params:Arguments}{body:Expr}{lsc:Scope}{P c:Addr}{ps:Array Bh}{N':List Str}{ix:List (Option Nat)}{x:Str}{k:Nat}
    (hg:Gl X "sorted") (hm:X.mg "sorted" = none) (hv:CM "sorted" = some (.builtin "sorted")) (he:PE X e te)
    (hc:X.env.code = .ref c) (hcd:PySem.W.codeHdIn X.K c P=true) (hq:Nm ps lpos (X.env.qual ++ "<lambda>")) (hs3:3 ∣ ps.size) (hN:∀pos c,¬ cAt ps pos c)
    (hr:bL (k+3) X.A) (Kc:d8 X.env.scope.names X.N lsc N' ix) (hx:N'[0]? = some x) (hxl:lsc.names.lookup x=some .local) (hi0:ix[0]? = some none) (hco:lsc.isCoroutine=false) (hgen:lsc.isGenerator=false)
    (hdef:defaultsOf params X.env=([],[]))
    (hbind:∀(qual:Str) (cl:List (Str×Addr)) (pm cd ctv u:Bh),bindArgs (PySem.W.kla_fn "<lambda>" qual params body lsc cl pm cd ctv) ⟨[u],[]⟩=pure [(x,u)])
    (hB:∀(f:Addr) (cd:Bh) (A':B9) (s:Bi) (H:Hp),bL k (A'.deeper (PySem.W.envX (X.env.qual ++ "<lambda>") lsc s.heap.objs.size f cd (aG X.env lsc.names [])))->PE (tj X (X.env.qual ++ "<lambda>") lsc (aG X.env lsc.names []) f cd A' N' s H) body teB)
    (hs:Ce (e :: []) X.env=(false,eval e X.env) :: Ce [] X.env:=by rfl)
    (ha:Fd pos (Ce (e :: []) X.env)=(false,eval e X.env) :: Fd pos (Ce [] X.env):=by rfl)
    (hplain:(Fd pos (Ce (e :: []) X.env)).any (·.1)=false:=by rfl) :
    PE X (.Call (.Name "sorted" p) [e] [⟨some "key",.Lambda params body lsc lpos,kpos⟩] pos) (wF α X.K P ps te teB ix):=by
  intro pins s σ H Q I h
  refine DS (gH I hg hm hv ?_)
  refine PyProof.Rows.callWith_kw (thn ((aa he ag hs) pos pins s σ H (λvs H1=>∃(p:Addr) (ts:List (Addr×α)) (key:α -> Int),vs=[V.ref p]/\(SqL X.K H1 p (ts.map λt:Addr×α=>V.ref t.1)\/SqT X.K H1 p (ts.map λt:Addr×α=>V.ref t.1))/\H1 P=some (.tbl ps) ∧
  (∀t∈ts,∀H',SameBut P H1 H'->teB ((inner ix σ).set 0 (some (.ref t.1))) H' λy H''=>y = .int (key t.2)/\ax H' H'') ∧
  ∀(l:Addr) (out:List (Addr×α)) (H':Hp),ax H1 H'->H' l=none->out.Perm ts->out.Pairwise (λa b:Addr×α=>key a.2<=key b.2)->Q (.ref l) (upd H' l (.lst (out.map λt:Addr×α=>V.ref t.1)))) I h) λus s1 ⟨vs,H1,I1,r1,q1⟩ =>?_) ha hplain rfl rfl
  show BL _ _ (evalAll ((do let v ← eval (.Lambda params body lsc lpos) X.env;standAt pos;pure v) :: [])) _ _ s1
  obtain ⟨a,ts,key,rfl,hsq,hP,hk,q⟩:=q1
  obtain ⟨u,rfl,ru⟩:=vals1 r1
  cases (show u=BN a from ru)
  have hcl:closureFor lsc X.env=pure (aG X.env lsc.names []):=jV λy hy e=>I1.ok.has y.1 (Kc.frees y hy e)
  refine wpAny_evalAll_cons (Bd (wz I1 hc hcd hP hq hdef hcl λf c' ctv pm h' tk H2 sb I2 hP2 hf hn ho=>Bd (He (Bk (wpAny_evalAll_nil ?_)))))
  show BL _ _ (call (.builtin "sorted") [.ref a] [("key",.ref f)]) _ _ _
  have hsq2:SqL X.K H2 a (ts.map λt:Addr×α=>V.ref t.1)\/SqT X.K H2 a (ts.map λt:Addr×α=>V.ref t.1):=hsq.imp (yp hP sb) (nJ hP sb)
  obtain ⟨its,o,n,rv,e1,c1,d1,z1⟩:=I2.iw hsq2
  have ei:=cb rv
  have lz:its.length<=BJ:=by rw[<- rv.length];exact z1
  have li:its.length=ts.length:=by rw[ei,Bg]
  refine qY (R:=λH'=>SameBut P H2 H'/\H' P=some (.tbl (dq ps lpos c'))) (k:=k+1) (kz:=ts.map λt=>key t.2) I2 ⟨λb o _ e=>e,hP2⟩ hr I2.ok.frames (Srt.cS e1 c1 d1 lz) (I1.z8 hf) ho hn (λv z=>by cases z) lz (by rw[Bg,li]) ?turn λs3 H3 l out m J3 r3 hl Ol el ko =>?fin
  case turn =>
    intro i u kk s' H' pins' A' E' hr' hA' hu hkk J rH g
    rw[ei,BQ] at hu
    rw[BQ] at hkk
    cases et:ts[i]? with
    | none=>rw[et] at hu;cases hu
    | some t =>
      rw[et] at hu hkk
      cases hu
      cases hkk
      refine Dg (wA J Kc hx hxl hi0 hco hgen hr' hA' g (yl J rH.2 hq hs3) (hbind _ _ _ _ _ _) (λhk'=>hB f (.ref c') A' s' H' hk') (v :=.ref t.1) rfl (hk t (B4 et) H' λb o nb e=>rH.1 _ _ nb (sb _ _ nb e))) (λy s4 z =>?_) λe s4 z=>z
      obtain ⟨w,H4,J4,rw4,e4,sm⟩:=z
      exact ⟨w,H4,J4,rw4,e4,λb o nb e=>sm _ _ (rH.1 _ _ nb e),sm _ _ rH.2⟩
  case fin =>
    obtain ⟨ps',pm,eo,pw⟩:=ko
    rw[ei,pM] at pm
    obtain ⟨out',pm',rfl⟩:=bH pm
    have eo':out=out'.map λt=>BN t.1:=by rw[eo,BP];rfl
    subst eo'
    have J4:=Inv.A8 I1 hP J3 r3.2 hq hN
    have ne:∀b,H3 b=none->(upd H3 P (.tbl ps)) b=none:=λb e=>by rw[ao (λz=>by rw[z,r3.2] at e;cases e)];exact e
    have sm:ax H1 (upd H3 P (.tbl ps)):=λb o e=>by
      by_cases z:b=P
      · subst z
        rw[hP] at e
        cases e
        exact af
      · rw[ao z]
        exact r3.1 _ _ z (sb _ _ z e)
    refine ⟨.ref l,_,J4.take (o :=.lst (out'.map λt:Addr×α=>V.ref t.1)) (ne _ hl) Ol.s0 Ol.l Ol.c Ol.p ⟨(by rw[Bg,pm'.length_eq, <- Bg (f:=λt:Addr×α=>V.ref t.1)];exact z1),_,m,gh,el⟩,rfl,q l out' _ sm (ne _ hl) pm' ?_⟩
    refine (B0.mp pw).imp λ{x y} le =>?_
    rw[if_neg Bo] at le
    exact le
end
open PySem PySem.Spec PyProof.Rows
def bW (K:Be)(x:Str)(st:Stmt):Prop:=∃(f:Addr) (od an:Option Addr) (sl:Array (Option Bh)) (oc kV dc pm cd ct:Bh),C5 K Cg x=some (some (.ref f))/\K.lookup f=some ⟨oc,od,.func (PySem.W.fnOf x x (bU st) (bO st) (aq st) .none kV dc pm an cd ct),sl⟩/\PySem.W.codeIn K cd x=true/\PySem.W.keepIn K (.ref f)=true
theorem bW.mk {K:Be}{x:Str}{st:Stmt}{f:Addr}{od an:Option Addr}{sl:Array (Option Bh)}{oc kV dc pm cd ct:Bh}(a:C5 K Cg x=some (some (.ref f)))(l:K.lookup f=some ⟨oc,od,.func (PySem.W.fnOf x x (bU st) (bO st) (aq st) .none kV dc pm an cd ct),sl⟩)(c:PySem.W.codeIn K cd x=true)(k:PySem.W.keepIn K (.ref f)=true):bW K x st:=⟨_,_,_,_,_,_,_,_,_,_,a,l,c,k⟩
theorem bW.cal {K:Be}{x:Str}{st:Stmt}(hf:bW K x st)(P:BD)(w:Cb)(base:Heap){h:Heap}{mg:Str->Option Bh}(X:K.In h)(G:h.Ns Cg mg){lv:Nat}{ps:List Str}{sp:Sp}(ok:∀{f:Addr} {fd:Cr},Fun K x x st f fd->bF P w K mg base CX0 lv f fd ps sp)
  (hb:∀(kV doc pm:Bh) (an:Option Addr) (cdv ct:Bh) (us:List Bh),us.length=ps.length->bindArgs (PySem.W.fnOf x x (bU st) (bO st) (aq st) .none kV doc pm an cdv ct) ⟨us,[]⟩=pure (ps.zip us)):Cal P w K mg base lv x ps sp:=by
 obtain ⟨f,od,an,sl,oc,kV,dc,pm,cd,ct,a,l,c,k⟩:=hf
 have F:=qC l c k
 exact ⟨_,_,ok F,Iy X G a,k,F.binds hb⟩
open PySem PySem.Spec PyProof.Rows
structure yq (K:Be)(x qual:Str)(st:Stmt)(f:Addr)(fd:Cr)(c Pt:Addr):Prop where
 ex:∃(oc:Bh) (od:Option Addr) (kV doc pm:Bh) (an:Option Addr) (ct:Bh) (osl:Array (Option Bh)),
  fd=PySem.W.fnOf x qual (bU st) (bO st) (aq st) .none kV doc pm an (.ref c) ct/\K.lookup f=some ⟨oc,od,.func fd,osl⟩/\PySem.W.codeIn K (.ref c) qual=true
 hd:PySem.W.codeHdIn K c Pt=true
 kp:PySem.W.keepIn K (.ref f)=true
section
variable  {P:BD}{w:Cb}{K:Be}{mg:Str->Option Bh}{base:Heap}
theorem yq.ok {x qual:Str}{st:Stmt}{f c Pt:Addr}{fd:Cr}{N ps:List Str}{k:Nat}{sp:Sp}(F:yq K x qual st f fd c Pt)(S:aO N ps (aq st))(len:∀vs H Q E,sp vs H Q E->vs.length=ps.length)
  (hbody:∀(A:B9) (outer:List Env) (s:Bi) (H:Hp) (vs:List V) (Q:VK) (E:XK),bL k (A.deeper (envOfC qual (aq st) s.heap.objs.size f (.ref c)))->sp vs H Q E →
   ∃t,PSs (oA CX0 P w K mg base N qual (aq st) f (.ref c) A outer s H E).nox (bO st) t/\t { nx:=λ_ H'=>Q .non H',rt:=Q } (start N vs) H):bF P w K mg base CX0 (k+1) f fd ps sp:=by
 obtain ⟨oc,od,kV,doc,pm,an,ct,osl,rfl,lk,hcd⟩:=F.ex
 refine yU lk hcd S len λA outer s H vs Q E hr hsp =>?_
 obtain ⟨t,h,q⟩:=hbody A outer s H vs Q E hr hsp
 exact ⟨t,h.nox,q⟩
def pO (K:Be)(x:Str)(st:Stmt)(Pt:Addr):Prop:=∃(f c:Addr) (od an:Option Addr) (sl:Array (Option Bh)) (oc kV dc pm ct:Bh),C5 K Cg x=some (some (.ref f))/\K.lookup f=some ⟨oc,od,.func (PySem.W.fnOf x x (bU st) (bO st) (aq st) .none kV dc pm an (.ref c) ct),sl⟩/\PySem.W.codeIn K (.ref c) x=true/\PySem.W.codeHdIn K c Pt=true/\PySem.W.keepIn K (.ref f)=true
theorem pO.mk {x:Str}{st:Stmt}{f c Pt:Addr}{od an:Option Addr}{sl:Array (Option Bh)}{oc kV dc pm ct:Bh}(a:C5 K Cg x=some (some (.ref f)))(l:K.lookup f=some ⟨oc,od,.func (PySem.W.fnOf x x (bU st) (bO st) (aq st) .none kV dc pm an (.ref c) ct),sl⟩)(q:PySem.W.codeIn K (.ref c) x=true)(hd:PySem.W.codeHdIn K c Pt=true)(k:PySem.W.keepIn K (.ref f)=true):pO K x st Pt:=⟨_,_,_,_,_,_,_,_,_,_,a,l,q,hd,k⟩
theorem pO.cal {x:Str}{st:Stmt}{Pt:Addr}(hf:pO K x st Pt)(P:BD)(w:Cb)(base:Heap){h:Heap}{mg:Str->Option Bh}(X:K.In h)(G:h.Ns Cg mg){lv:Nat}{ps:List Str}{sp:Sp}(ok:∀{f:Addr} {fd:Cr} {c:Addr},yq K x x st f fd c Pt->bF P w K mg base CX0 lv f fd ps sp)
  (hb:∀(kV doc pm:Bh) (an:Option Addr) (cdv ct:Bh) (us:List Bh),us.length=ps.length->bindArgs (PySem.W.fnOf x x (bU st) (bO st) (aq st) .none kV doc pm an cdv ct) ⟨us,[]⟩=pure (ps.zip us)):Cal P w K mg base lv x ps sp:=by
 obtain ⟨f,c,od,an,sl,oc,kV,dc,pm,ct,a,l,q,hd,k⟩:=hf
 have F:Fun K x x st f _:=qC l q k
 exact ⟨_,_,ok ⟨⟨_,_,_,_,_,_,_,_,rfl,l,q⟩,hd,k⟩,Iy X G a,k,F.binds hb⟩
end
open PySem PySem.Spec PyProof.Rows
abbrev yr (l c:Nat)(q:Str):Array Bh := #[DX l,DX c,.str q 0]
theorem z9 {α:Type}{x0 x1 x2 x3 x4 x5 y:α}{i:Nat}(h:(#[x0,x1,x2,x3,x4,x5]:Array α)[3*i+2]? = some y):(i=0/\y=x2)\/(i=1/\y=x5):=by
 match i with
 | 0=>exact .inl ⟨rfl,(BW h).symm⟩
 | 1=>exact .inr ⟨rfl,(BW h).symm⟩
 | i+2=>rw[De (by show 6<=3*(i+2)+2;omega)] at h;cases h
theorem A9 {α:Type}{x0 x1 x2 y:α}{i:Nat}(h:(#[x0,x1,x2]:Array α)[3*i+2]? = some y):i=0/\y=x2:=by
 match i with
 | 0=>exact ⟨rfl,(BW h).symm⟩
 | i+1=>rw[De (by show 3<=3*(i+1)+2;omega)] at h;cases h
theorem qZ (l c:Nat)(q:Str)(pos:Pos)(a:Addr):dq (yr l c q) pos a = #[DX l,DX c,.str q 0,DX pos.line,DX pos.col,.ref a]:=rfl
theorem Aa {l c:Nat}{q:Str}{pos:Pos}(hl:pos.line=l)(hc:pos.col=c):Nm (yr l c q) pos q where
 qa:=⟨0,0,by rw[hl];rfl,by rw[hc];rfl,rfl⟩
 un:=λa q' ⟨i,t,h1,h2,h3⟩=>by
  rw[qZ] at h3
  rcases z9 h3 with ⟨_,e⟩ | ⟨_,e⟩
  ·cases e;rfl
  ·cases e
 ws:=λa pos' q' ⟨i,t,h1,h2,h3⟩=>by
  obtain ⟨rfl,e⟩:=A9 h3
  exact ⟨0,t,h1,h2,h3⟩
 vs:=λa pos' q' ⟨i,t,h1,h2,h3⟩=>by
  rw[qZ] at h1 h2 h3
  rcases z9 h3 with ⟨rfl,e⟩ | ⟨_,e⟩
  ·exact ⟨0,t,h1,h2,h3⟩
  ·cases e
 co:=λa pos' c2 ⟨i,h1,h2,h3⟩=>by
  rw[qZ] at h1 h2 h3
  rcases z9 h3 with ⟨_,e⟩ | ⟨rfl,e⟩
  ·cases e
  ·cases e
   have e1:DX (pos.line:Int)=DX (pos'.line:Int):=BW h1
   have e2:DX (pos.col:Int)=DX (pos'.col:Int):=BW h2
   unfold DX at e1 e2
   injection e1 with e1
   injection e2 with e2
   exact ⟨rfl,by omega,by omega⟩
theorem tD {l c:Nat}{q:Str}(pos:Pos)(a:Addr):¬ cAt (yr l c q) pos a:=λ⟨i,_,_,h3⟩=>by
 obtain ⟨_,e⟩:=A9 h3
 cases e
end L2
namespace Srt
open PySem PyProof.Rows
inductive Cell | i (n:Int) | s (x:Str) | t (ns:List Int)
 deriving DecidableEq
def eE:List Int->List Int
 | []=>[0]
 | n :: ns=>1 :: n :: eE ns
def iW (x:Str):List Int:=x.cps.toList.map λc:Nat=>(c:Int)
def Cell.enc:Cell->List Int
 | .i n=>[n]
 | .s x=>eE (iW x)
 | .t ns=>eE ns
def bj (cs:List Cell):List Int:=cs.flatMap Cell.enc
def Cell.like:Cell->Cell->Bool
 | .i _,.i _=>true
 | .s _,.s _=>true
 | .t _,.t _=>true
 | _,_=>false
def pP:List Cell->List Cell->Prop
 | a :: as,b :: bs=>a.like b=true/\pP as bs
 | _,_=>True
theorem kq:∀(ns ms r r':List Int),HT.lexLt (eE ns++r) (eE ms++r')=if ns=ms then HT.lexLt r r' else HT.lexLt ns ms
 | [],[],r,r'=>by
  show HT.lexLt (0 :: r) (0 :: r')=_
  rw[HT.aP,if_pos rfl,if_pos rfl]
 | [],m :: ms,r,r'=>by
  show HT.lexLt (0 :: r) (1 :: (m :: eE ms++r'))=_
  rw[HT.aP,if_neg (by omega),if_neg nofun]
  rfl
 | n :: ns,[],r,r'=>by
  show HT.lexLt (1 :: (n :: eE ns++r)) (0 :: r')=_
  rw[HT.aP,if_neg (by omega),if_neg nofun]
  rfl
 | n :: ns,m :: ms,r,r'=>by
  show HT.lexLt (1 :: n :: (eE ns++r)) (1 :: m :: (eE ms++r'))=_
  rw[HT.aP,if_pos rfl,HT.aP,HT.aP]
  by_cases e:n=m
  ·subst e
   rw[if_pos rfl,if_pos rfl,kq ns ms r r']
   by_cases e2:ns=ms
   ·rw[if_pos e2,if_pos (by rw[e2])]
   ·rw[if_neg e2,if_neg (λz=>e2 (CC z).2)]
  ·rw[if_neg e,if_neg e,if_neg (λz=>e (CC z).1)]
theorem tE:∀a b:List Nat,decide (a<b)=HT.lexLt (a.map λc:Nat=>(c:Int)) (b.map λc:Nat=>(c:Int))
 | [],[]=>by decide
 | [],_ :: _=>decide_eq_true (List.nil_lt_cons ..)
 | _ :: _,[]=>decide_eq_false (List.not_lt_nil _)
 | x :: xs,y :: ys=>by
  rw[BF,BF,HT.aP]
  by_cases e:x=y
  ·subst e
   rw[if_pos rfl, <- tE xs ys]
   exact decide_eq_decide.mpr (by rw[HB];simp)
  ·rw[if_neg (by omega)]
   exact decide_eq_decide.mpr (by rw[HB];omega)
theorem pQ {x y:Str}(h:iW x=iW y):x=y:=by
 have e:x.cps.toList=y.cps.toList:=by
  unfold iW at h
  exact Iu (λa b z=>by omega) |>.mp h
 cases x
 cases y
 congr
 exact FY.mp e
def IsCell (h:Heap)(v:Bh):Cell->Prop
 | .i n=>∃t,v = .int n t
 | .s x=>∃t,v = .str x t
 | .t ns=>∃b,v = .ref b/\cu h (.ref b) ns
def bA (h:Heap):List Bh->List Cell->Prop
 | [],[]=>True
 | v :: vs,c :: cs=>IsCell h v c/\bA h vs cs
 | _,_=>False
def q9 (h:Heap):Bh->List Int
 | .int n _=>[n]
 | .str x _=>eE (iW x)
 | v=>eE (cT h v)
def gO (h:Heap)(v:Bh):List Int:=match v with
 | .ref p=>match h.get? p with
  | some o=>match o.data with
   | .seq xs _=>xs.toList.flatMap (q9 h)
   | _=>[]
  | none=>[]
 | _=>[]
def bR (h:Heap)(v:Bh)(cs:List Cell):Prop:=∃p o xs n,v = .ref p/\h.get? p=some o/\o.cls = .type "tuple" /\ o.data = .seq xs n/\bA h xs.toList cs
theorem IsCell.enc {h:Heap}{v:Bh}:∀{c:Cell},IsCell h v c->q9 h v=c.enc
 | .i n,⟨t,e⟩=>by rw[e];rfl
 | .s x,⟨t,e⟩=>by rw[e];rfl
 | .t ns,⟨b,e,k⟩=>by rw[e];exact congrArg eE k.ints
theorem bA.enc {h:Heap}:∀{vs:List Bh} {cs:List Cell},bA h vs cs->vs.flatMap (q9 h)=bj cs
 | [],[],_=>rfl
 | v :: vs,c :: cs,⟨a,b⟩=>by
  rw[Er,a.enc,bA.enc b]
  rfl
theorem bR.enc {h:Heap}{v:Bh}{cs:List Cell}(x:bR h v cs):gO h v=bj cs:=by
 obtain ⟨p,o,xs,n,rfl,e,_,d,r⟩:=x
 unfold gO
 dsimp only
 rw[e]
 dsimp only
 rw[d]
 exact r.enc
theorem IsCell.keeps {h h':Heap}{v:Bh}(kp:∀b o,h.get? b=some o->h'.get? b=some o):∀{c:Cell},IsCell h v c->IsCell h' v c
 | .i n,k=>k
 | .s x,k=>k
 | .t ns,⟨b,e,k⟩=>⟨b,e,k.keeps kp⟩
theorem bA.keeps {h h':Heap}(kp:∀b o,h.get? b=some o->h'.get? b=some o):∀{vs:List Bh} {cs:List Cell},bA h vs cs->bA h' vs cs
 | [],[],_=>trivial
 | v :: vs,c :: cs,⟨a,b⟩=>⟨a.keeps kp,b.keeps kp⟩
theorem bR.keeps {h h':Heap}{v:Bh}{cs:List Cell}(x:bR h v cs)(kp:∀b o,h.get? b=some o->h'.get? b=some o):bR h' v cs:=by
 obtain ⟨p,o,xs,n,rfl,e,c,d,r⟩:=x
 exact ⟨p,o,xs,n,rfl,kp _ _ e,c,d,r.keeps kp⟩
theorem bA.len {h:Heap}:∀{vs:List Bh} {cs:List Cell},bA h vs cs->vs.length=cs.length
 | [],[],_=>rfl
 | v :: vs,c :: cs,⟨a,b⟩=>by rw[Bs,Bs,b.len]
section
variable  {prog:BD}{w:Cb}{A:B9}{s:Bi}
theorem cI (c:Cell)(cs:List Cell):bj (c :: cs)=c.enc++bj cs:=rfl
theorem jA (c:Cell)(r:List Int):∃x xs,c.enc++r=x :: xs:=by
 cases c with
 | i n=>exact ⟨_,_,rfl⟩
 | s x =>
  show ∃y ys,eE (iW x)++r=y :: ys
  generalize iW x=l
  cases l <;> exact ⟨_,_,rfl⟩
 | t l=>cases l <;> exact ⟨_,_,rfl⟩
theorem mJ (hu:A.units<cLine){fin:Bool}{Q:Bool->Bi->Prop}:∀{us ws:List Bh} {cs ds:List Cell} (i:Nat),bA s.heap us cs->bA s.heap ws ds->pP cs ds->(i=0->∀ns,cs.head? ≠ some (.t ns))->(fin=true↔(decide (cs.length<ds.length)=true))->Q (HT.lexLt (bj cs) (bj ds)) s →
  PySem.W.KatLex prog w A true fin Q (us.zip ws) i s
 | [],[],[],[],i,_,_,_,_,hf,q=>by
  refine EY ?_
  have e:fin=false:=by cases fin with
   | false=>rfl
   | true=>have:=hf.mp rfl;simp at this
  rw[e];exact q
 | [],_ :: _,[],d :: ds,i,_,_,_,_,hf,q=>by
  refine EY ?_
  have e:fin=true:=hf.mpr (by simp)
  rw[cI] at q
  obtain ⟨x,xs,e2⟩:=jA d (bj ds)
  rw[e2] at q
  rw[e];exact q
 | _ :: _,[],c :: cs,[],i,_,_,_,_,hf,q=>by
  refine EY ?_
  have e:fin=false:=by cases fin with
   | false=>rfl
   | true=>have:=hf.mp rfl;simp at this
  rw[cI] at q
  obtain ⟨x,xs,e2⟩:=jA c (bj cs)
  rw[e2] at q
  rw[e];exact q
 | u :: us,v :: ws,c :: cs,d :: ds,i,⟨a,r⟩,⟨b,r'⟩,⟨lk,L⟩,hn,hf,q=>by
  rw[Du]
  rw[cI,cI] at q
  have nx:∀q':Q (HT.lexLt (bj cs) (bj ds)) s,PySem.W.KatLex prog w A true fin Q (us.zip ws) (i+1) s:=λq'=>mJ hu (i+1) r r' L (λz=>absurd z (Nat.succ_ne_zero i)) (by rw[hf];simp) q'
  cases c with
  | i n =>
   cases d with
   | s y=>cases lk
   | t ms=>cases lk
   | i m =>
    obtain ⟨t,rfl⟩:=a
    obtain ⟨t',rfl⟩:=b
    have q:Q (HT.lexLt (n :: bj cs) (m :: bj ds)) s:=q
    rw[HT.aP] at q
    refine F0 (Hk ?_)
    by_cases e:n=m
    ·rw[if_pos e] at q
     rw[beq_iff_eq.mpr e]
     exact Gj (nx q)
    ·rw[if_neg e] at q
     rw[beq_eq_false_iff_ne.mpr e]
     refine GL ?_
     by_cases i0:(true && i == 0)=true
     ·rw[i0]
      exact JA q
     ·rw[DZ.mpr i0,oneLt'_eq]
      simp only[CK,if_false]
      refine Bd (HT.jS _ _ n t m t' prog w _ _ ?_)
      exact C7 q
  | s x =>
   cases d with
   | i y=>cases lk
   | t ms=>cases lk
   | s y =>
    obtain ⟨t,rfl⟩:=a
    obtain ⟨t',rfl⟩:=b
    have q:Q (HT.lexLt (eE (iW x)++bj cs) (eE (iW y)++bj ds)) s:=q
    rw[kq] at q
    refine F0 (wpAny_eqBool_str ?_)
    by_cases e:x=y
    ·rw[if_pos (by rw[e])] at q
     rw[decide_eq_true e]
     exact Gj (nx q)
    ·rw[if_neg (λz=>e (pQ z))] at q
     rw[show HT.lexLt (iW x) (iW y)=_ from (tE _ _).symm] at q
     rw[decide_eq_false e]
     refine GL ?_
     by_cases i0:(true && i == 0)=true
     ·rw[i0]
      exact oneLt_str q
     ·rw[DZ.mpr i0]
      exact Jx _ _ (lt_str q)
  | t ns =>
   cases d with
   | i y=>cases lk
   | s ms=>cases lk
   | t ms =>
    obtain ⟨p,rfl,k1⟩:=a
    obtain ⟨p',rfl,k2⟩:=b
    have q:Q (HT.lexLt (eE ns++bj cs) (eE ms++bj ds)) s:=q
    rw[kq] at q
    refine F0 (mH hu k1 k2 _ _ _ _ ?_)
    by_cases e:ns=ms
    ·rw[if_pos e] at q
     rw[decide_eq_true e]
     exact Gj (nx q)
    ·rw[if_neg e] at q
     rw[decide_eq_false e]
     refine GL ?_
     have i0:(true && i == 0)=false:=by
      rw[Bool.true_and,beq_eq_false_iff_ne]
      exact λz=>hn z ns rfl
     rw[i0]
     obtain ⟨j3,w3,z3⟩:=k1.isTup
     obtain ⟨j4,w4,z4⟩:=k2.isTup
     exact Jx _ _ (HT.jT w3 w4 z3 z4 hu q)
structure Alike (G:List Cell->Prop):Prop where
 likes:∀a b,G a->G b->pP a b
 heads:(∀a,G a->∃n,a.head? = some (.i n))\/(∀a,G a->∃x,a.head? = some (.s x))
theorem fJ {h:Heap}{G:List Cell->Prop}(P:Bh->Prop)(hP:∀c cs v,G (c :: cs)->IsCell h v c->P v)(hne:∀a,G a->a≠[]):∀{vs:List Bh},(∀v∈vs,∃cs,bR h v cs/\G cs)->∃fs,PySem.W.KatTups h vs fs/\fs.length=vs.length/\∀f∈fs,P f
 | [],_=>⟨[],trivial,rfl,λf hf=>by cases hf⟩
 | v :: vs,hv=>by
  obtain ⟨fs,t,l,hf⟩:=fJ P hP hne λu hu=>hv u (BG _ hu)
  obtain ⟨cs,⟨p,o,xs,n,rfl,e,c,d,r⟩,g⟩:=hv v Br
  obtain ⟨xl⟩:=xs
  match cs,xl,r,g with
  | [],_,_,g=>exact absurd rfl (hne _ g)
  | _ :: _,[],r,_=>exact r.elim
  | c1 :: cs,x :: xs,⟨r1,r2⟩,g =>
   refine ⟨x :: fs,HK e c d (by simp) t,congrArg (· + 1) l,λf hf' =>?_⟩
   cases hf' with
   | head=>exact hP _ _ _ g r1
   | tail _ q=>exact hf f q
theorem lG {vs:List Bh}{G:List Cell->Prop}(al:Alike G)(hv:∀v∈vs,∃cs,bR s.heap v cs/\G cs)(h2:2<=vs.length)(A:B9)(h6:Heap)(hu:A.units<cLine)(k6:∀b o,s.heap.get? b=some o->h6.get? b=some o):∃κ,(∀(Q:SortKind->Bi->Prop) (E:Bh->Bi->Prop),Q κ { s with heap:=h6 }->BL (B1 prog w) A (keyKind' vs.toArray) Q E { s with heap:=h6 }) ∧
  Cmp prog w A { s with heap:=h6 } lexOrd (λp=>gO s.heap p.1) (λp=>p.1=p.2/\p.1∈vs) κ:=by
 have hv6:∀v∈vs,∃cs,bR h6 v cs/\G cs:=λv hv'=>by
  obtain ⟨cs,k,g⟩:=hv v hv'
  exact ⟨cs,k.keeps k6,g⟩
 refine ⟨tuples' true,λQ E q =>?_,⟨λE st x y Q hk hx hy q =>?_⟩⟩
 ·rcases al.heads with hh | hh
  ·obtain ⟨fs,t,l,hf⟩:=fJ (λv=>∃i t,v = .int i t) (λc cs v g k=>by
    obtain ⟨n,e⟩:=hh _ g
    cases e
    obtain ⟨t,e⟩:=k
    exact ⟨n,t,e⟩) (λa g z=>by
    obtain ⟨n,e⟩:=hh _ g
    rw[z] at e;cases e) hv6
   refine Hi (T :=.type "int") t (by omega) (λf hf' =>?_) rfl q
   obtain ⟨i,t',rfl⟩:=hf f hf'
   exact FT rfl
  ·obtain ⟨fs,t,l,hf⟩:=fJ (λv=>∃i t,v = .str i t) (λc cs v g k=>by
    obtain ⟨n,e⟩:=hh _ g
    cases e
    obtain ⟨t,e⟩:=k
    exact ⟨n,t,e⟩) (λa g z=>by
    obtain ⟨n,e⟩:=hh _ g
    rw[z] at e;cases e) hv6
   refine Hi (T :=.type "str") t (by omega) (λf hf' =>?_) rfl q
   obtain ⟨i,t',rfl⟩:=hf f hf'
   exact FT rfl
 ·obtain ⟨cs,i1,g1⟩:=hv _ hx.2
  obtain ⟨ds,i2,g2⟩:=hv _ hy.2
  have q':Q (some (HT.lexLt (gO s.heap x.1) (gO s.heap y.1))) st:=q
  rw[i1.enc,i2.enc] at q'
  obtain ⟨p1,o1,xs1,n1,e1,a1,c1,d1,r1⟩:=i1.keeps k6
  obtain ⟨p2,o2,xs2,n2,e2,a2,c2,d2,r2⟩:=i2.keeps k6
  rw[lt'_eq]
  refine Bx (F7 ?_)
  rw[hk,e1,e2]
  refine Bx (Gf (DC (JI a1 d1 a2 d2 (mJ hu 0 r1 r2 (al.likes _ _ g1 g2) (λ_ ns z =>?_) ?_ ⟨rfl,BK q'⟩))))
  ·rcases al.heads with hh | hh
   ·obtain ⟨n,e⟩:=hh _ g1
    rw[z] at e;cases e
   ·obtain ⟨n,e⟩:=hh _ g1
    rw[z] at e;cases e
  ·rw[<- r1.len, <- r2.len,Bl,Bl]
end
end Srt
namespace L2
open PySem PySem.Spec PyProof.Rows Srt
def tG (K:Be)(H:Hp)(x:V):Cell->Prop
 | .i n=>x = .int n
 | .s z=>x = .str z
 | .t ns=>∃b,x = .ref b/\SqT K H b (ns.map V.int)
def bX (K:Be)(H:Hp):List V->List Cell->Prop
 | [],[]=>True
 | x :: xs,c :: cs=>tG K H x c/\bX K H xs cs
 | _,_=>False
def RowC (K:Be)(H:Hp)(a:Addr)(cs:List Cell):Prop:=∃xs,SqT K H a xs/\bX K H xs cs
section
variable  {X:Cx}{pins:List (Addr×Obj)}{σ:St}{H:Hp}{s:Bi}
theorem tG.is (I:Inv X pins σ H s){x:V}{v:Bh}(r:RelV x v):∀{c:Cell},tG X.K H x c->IsCell s.heap v c
 | .i n,e=>by
  cases (show x = .int n from e)
  exact r
 | .s z,e=>by
  cases (show x = .str z from e)
  exact r
 | .t ns,⟨b,e,k⟩=>by
  subst e
  obtain ⟨kts,kr,⟨ko,ke,kc,kn,kd⟩,_⟩:=I.tuple k
  exact ⟨b,r,b,ko,_,kn,rfl,ke,kc,kd,by simpa using cU kr⟩
theorem bX.is (I:Inv X pins σ H s):∀{xs:List V} {vs:List Bh} {cs:List Cell},Vals xs vs->bX X.K H xs cs->bA s.heap vs cs
 | [],[],[],.nil,_=>trivial
 | x :: xs,v :: vs,c :: cs,.cons r rs,⟨a,b⟩=>⟨a.is I r,bX.is I rs b⟩
theorem cW (hu:X.A.units+8<cLine):cz X (.builtin "sorted") (λxs H Q=>∃(G:List Cell->Prop) (p:Addr) (ks:List (Addr×List Cell)),Alike G/\xs=[.ref p]/\(SqL X.K H p (ks.map λk =>.ref k.1)\/SqT X.K H p (ks.map λk =>.ref k.1))/\(∀k∈ks,RowC X.K H k.1 k.2/\G k.2) ∧
  ∀(l:Addr) (out:List (Addr×List Cell)),H l=none->out.Perm ks->out.Pairwise (λa b=>HT.lexLt (bj b.2) (bj a.2)=false)->Q (.ref l) (upd H l (.lst (out.map λt =>.ref t.1)))):=by
 intro pins s σ H xs us Q I r h
 obtain ⟨G,p,ks,al,rfl,hs,ht,q⟩:=h
 obtain ⟨u,rfl,ru⟩:=vals1 r
 cases (show u=BN p from ru)
 obtain ⟨its,o,n,rv,e,c,d,z⟩:=I.iw hs
 have ei:=cb (f:=λk:Addr×List Cell=>k.1) rv
 have lz:its.length<=BJ:=by rw[<- rv.length];exact z
 have row:∀k∈ks,bR s.heap (.ref k.1) k.2/\G k.2:=λk hk=>by
  obtain ⟨⟨xs,h1,h2⟩,g⟩:=ht k hk
  obtain ⟨jts,jr,⟨jo,je,jc,jn,jd⟩,_⟩:=I.tuple h1
  exact ⟨⟨k.1,jo,_,jn,rfl,je,jc,jd,h2.is I (by simpa using jr)⟩,g⟩
 have hv:∀v∈its,∃cs,bR s.heap v cs/\G cs:=λv hv=>by
  rw[ei] at hv
  obtain ⟨k,hm,rfl⟩:=Bw.mp hv
  exact ⟨_,row k hm⟩
 refine Srt.pI (Srt.cS e c d lz) lz (λh2 B h6 hB k6=>Srt.lG al hv h2 B h6 (by omega) k6) λh' l out m k hl el pm ps =>?_
 rw[ei] at pm
 obtain ⟨out',pm',rfl⟩:=bH pm
 refine ⟨.ref l,_,I.newList k hl el gh (by rw[Bg,pm'.length_eq, <- Bg (f:=λt:Addr×List Cell=>V.ref t.1)];exact z),rfl,q l _ (I.hok.fresh hl) pm' ?_⟩
 rw[B0] at ps
 refine ps.imp_of_mem λ{x y} hx hy le =>?_
 have le':HT.lexLt (gO s.heap (.ref y.1)) (gO s.heap (.ref x.1))=false:=le
 rwa [(row x (pm'.mem_iff.mp hx)).1.enc,(row y (pm'.mem_iff.mp hy)).1.enc] at le'
end
theorem dr {α:Type}(f:α -> List Int):∀{l m:List α},l.Perm m->(∀a∈l,∀b∈l,f a=f b->a=b)->l.Pairwise (λa b=>HT.lexLt (f b) (f a)=false)->m.Pairwise (λa b=>HT.lexLt (f b) (f a)=false)->l=m
 | [],m,p,_,_,_=>p.nil_eq
 | x :: l,[],p,_,_,_=>p.symm.nil_eq.symm
 | x :: l,y :: m,p,inj,s1,s2=>by
  have hx:x∈y :: m:=p.mem_iff.mp Br
  have hy:y∈x :: l:=p.mem_iff.mpr Br
  have e:x=y:=by
   rcases BR.mp hx with z | z
   ·exact z
   ·rcases BR.mp hy with z' | z'
    ·exact z'.symm
    ·exact inj _ Br _ hy (dI _ _ ((DR.mp s2).1 _ z) ((DR.mp s1).1 _ z'))
  subst e
  rw[dr f (HU x |>.mp p) (λa ha b hb=>inj a (BG _ ha) b (BG _ hb)) (DR.mp s1).2 (DR.mp s2).2]
theorem ku:∀{ns ms r r':List Int},eE ns++r=eE ms++r'->ns=ms/\r=r'
 | [],[],r,r',h=>⟨rfl,(CC h).2⟩
 | [],m :: ms,r,r',h=>absurd (CC h).1 (by omega)
 | n :: ns,[],r,r',h=>absurd (CC h).1 (by omega)
 | n :: ns,m :: ms,r,r',h=>by
  have h2:=(CC h).2
  obtain ⟨e1,e2⟩:=ku (ns:=ns) (ms:=ms) (CC h2).2
  exact ⟨by rw[(CC h2).1,e1],e2⟩
theorem fK:∀{cs ds:List Cell},pP cs ds->bj cs=bj ds->cs=ds
 | [],[],_,_=>rfl
 | [],d :: ds,_,h=>by
  rw[cI] at h
  obtain ⟨x,xs,e⟩:=jA d (bj ds)
  rw[e] at h;cases h
 | c :: cs,[],_,h=>by
  rw[cI] at h
  obtain ⟨x,xs,e⟩:=jA c (bj cs)
  rw[e] at h;cases h
 | c :: cs,d :: ds,⟨l,L⟩,h=>by
  rw[cI,cI] at h
  cases c with
  | i n =>
   cases d with
   | i m=>rw[(CC h).1,fK L (CC h).2]
   | s y=>cases l
   | t y=>cases l
  | s x =>
   cases d with
   | i m=>cases l
   | s y =>
    obtain ⟨e1,e2⟩:=ku (ns:=iW x) (ms:=iW y) h
    rw[pQ e1,fK L e2]
   | t y=>cases l
  | t ns =>
   cases d with
   | i m=>cases l
   | s y=>cases l
   | t ms =>
    obtain ⟨e1,e2⟩:=ku (ns:=ns) (ms:=ms) h
    rw[e1,fK L e2]
end L2
namespace Srt
open PySem PyProof.Rows
section
variable  {A:B9}{s:Bi}
theorem uZ (hu:A.units<cLine){v u:Bh}:∀{c d:Cell},IsCell s.heap v c->IsCell s.heap u d->Ex A s v u (decide (c=d))
 | .i n,.i m,⟨t,e1⟩,⟨t',e2⟩=>by
  rw[e1,e2,show decide (Cell.i n=Cell.i m)=(n == m) by rw[CO];simp]
  exact D8 n t m t'
 | .i n,.s y,⟨t,e1⟩,⟨t',e2⟩=>by
  rw[e1,e2,decide_eq_false nofun]
  exact Gy n t y t'
 | .i n,.t ms,⟨t,e1⟩,⟨b,e2,k⟩=>by
  rw[e1,e2,decide_eq_false nofun]
  obtain ⟨j,w,z⟩:=k.isTup
  exact SeqAt.EqAt.int_tuple n t w hu
 | .s x,.i m,⟨t,e1⟩,⟨t',e2⟩=>by
  rw[e1,e2,decide_eq_false nofun]
  exact Gz x t m t'
 | .s x,.s y,⟨t,e1⟩,⟨t',e2⟩=>by
  rw[e1,e2,show decide (Cell.s x=Cell.s y)=(x == y) by rw[CO];simp]
  exact Im x t y t'
 | .s x,.t ms,⟨t,e1⟩,⟨b,e2,k⟩=>by
  rw[e1,e2,decide_eq_false nofun]
  obtain ⟨j,w,z⟩:=k.isTup
  exact SeqAt.EqAt.str_tuple x t w hu
 | .t ns,.i m,⟨b,e1,k⟩,⟨t',e2⟩=>by
  rw[e1,e2,decide_eq_false nofun]
  obtain ⟨j,w,z⟩:=k.isTup
  exact SeqAt.EqAt.tuple_int m t' w hu
 | .t ns,.s y,⟨b,e1,k⟩,⟨t',e2⟩=>by
  rw[e1,e2,decide_eq_false nofun]
  obtain ⟨j,w,z⟩:=k.isTup
  exact SeqAt.EqAt.tuple_str y t' w hu
 | .t ns,.t ms,⟨b,e1,k⟩,⟨b',e2,k'⟩=>by
  rw[e1,e2,show decide (Cell.t ns=Cell.t ms)=decide (ns=ms) by simp]
  exact mH hu k k'
theorem bA.nth {h:Heap}:∀{vs:List Bh} {cs:List Cell} (j:Nat) (h1:j<vs.length) (h2:j<cs.length),bA h vs cs->IsCell h vs[j] cs[j]
 | v :: vs,c :: cs,0,_,_,⟨a,_⟩=>a
 | v :: vs,c :: cs,j+1,h1,h2,⟨_,b⟩=>b.nth j (by simpa using h1) (by simpa using h2)
theorem wH (cs ds:List Cell):((Cc (min cs.length ds.length)).all (λj=>decide (cs[j]? = ds[j]?)) && cs.length == ds.length)=decide (cs=ds):=by
 rw[CO,Cj,D5,beq_iff_eq,decide_eq_true_iff]
 constructor
 ·rintro ⟨h,l⟩
  refine FK λj =>?_
  by_cases hj:j<cs.length
  ·exact of_decide_eq_true (h j (Cu.mpr (by omega)))
  ·rw[Eb (by omega),Eb (by omega)]
 ·rintro rfl
  exact ⟨λj _=>decide_eq_true rfl,rfl⟩
def nL (h:Heap):Bh->Cell
 | .int n _ =>.i n
 | .str x _ =>.s x
 | v =>.t (cT h v)
def bp (h:Heap)(v:Bh):List Cell:=match v with
 | .ref p=>match h.get? p with
  | some o=>match o.data with
   | .seq xs _=>xs.toList.map (nL h)
   | _=>[]
  | none=>[]
 | _=>[]
theorem IsCell.val {h:Heap}{v:Bh}:∀{c:Cell},IsCell h v c->nL h v=c
 | .i n,⟨t,e⟩=>by rw[e];rfl
 | .s x,⟨t,e⟩=>by rw[e];rfl
 | .t ns,⟨b,e,k⟩=>by rw[e];exact congrArg Cell.t k.ints
theorem bA.vals {h:Heap}:∀{vs:List Bh} {cs:List Cell},bA h vs cs->vs.map (nL h)=cs
 | [],[],_=>rfl
 | v :: vs,c :: cs,⟨a,b⟩=>by rw[BF,a.val,b.vals]
theorem bR.cells {h:Heap}{v:Bh}{cs:List Cell}(x:bR h v cs):bp h v=cs:=by
 obtain ⟨p,o,xs,n,rfl,e,_,d,r⟩:=x
 unfold bp
 dsimp only
 rw[e]
 dsimp only
 rw[d]
 exact r.vals
theorem pR (hu:A.units+2<cLine){a b:Addr}{cs ds:List Cell}(x:bR s.heap (.ref a) cs)(y:bR s.heap (.ref b) ds):SeqAt.RcAt A s (.ref a) (.ref b) (decide (cs=ds)):=by
 obtain ⟨p,o,xs,n,e,g,c,d,r⟩:=x
 cases e
 obtain ⟨p',o',xs',n',e',g',c',d',r'⟩:=y
 cases e'
 have l1:=r.len
 have l2:=r'.len
 rw[Bl] at l1 l2
 have R:=IK (A:=A) (e:=λj=>decide (cs[j]? = ds[j]?)) (show s.heap.IsTuple a xs from ⟨o,g,c,n,d⟩) (show s.heap.IsTuple b xs' from ⟨o',g',c',n',d'⟩) (by omega) (λj h1 h2=>by
  have k1:=r.nth j (by simpa using h1) (by omega)
  have k2:=r'.nth j (by simpa using h2) (by omega)
  rw[BA (by omega),BA (by omega),show decide (some cs[j]=some ds[j])=decide (cs[j]=ds[j]) by simp]
  exact uZ (by show A.units+1<cLine;omega) k1 k2)
 rw[l1,l2,wH] at R
 exact R
theorem wI (hu:A.units+2<cLine){a b:Addr}{cs ds:List Cell}(x:bR s.heap (.ref a) cs)(y:bR s.heap (.ref b) ds):Ex A s (.ref a) (.ref b) (decide (cs=ds)):=by
 by_cases z:a=b
 ·subst z
  have:cs=ds:=by rw[<- x.cells,y.cells]
  rw[decide_eq_true this]
  exact Fx _
 ·exact Ip z (pR hu x y)
end
end Srt
namespace L2
open PySem PySem.Spec PyProof.Rows Srt
section
variable  {X:Cx}{pins:List (Addr×Obj)}{σ:St}{H:Hp}{s:Bi}
theorem RowC.is (I:Inv X pins σ H s){a:Addr}{cs:List Cell}(h:RowC X.K H a cs):bR s.heap (.ref a) cs:=by
 obtain ⟨xs,h1,h2⟩:=h
 obtain ⟨jts,jr,⟨jo,je,jc,jn,jd⟩,_⟩:=I.tuple h1
 exact ⟨a,jo,_,jn,rfl,je,jc,jd,h2.is I (by simpa using jr)⟩
theorem wJ {K:Be}(hu:X.A.units+8<cLine)(hK:X.K=K:=by rfl):OpR X (CV .Eq) (λx y H Q=>∃(a b:Addr) (cs ds:List Cell),x = .ref a/\y = .ref b/\RowC K H a cs/\RowC K H b ds/\Q (.bl (decide (cs=ds))) H):=by
 subst hK
 intro pins s σ H x y v u Q I rx ry h
 obtain ⟨a,b,cs,ds,rfl,rfl,h1,h2,q⟩:=h
 cases (show v=BN a from rx)
 cases (show u=BN b from ry)
 exact pR (A:=X.A) (by omega) (h1.is I) (h2.is I) _ _ _ _ ⟨.bl _,H,I,rfl,q⟩
theorem iC (I:Inv X pins σ H s){ds:List Cell}:∀{ks:List (Addr×List Cell)},(∀k∈ks,RowC X.K H k.1 k.2)->(ks.map λk=>BN k.1).any (λv=>decide (bp s.heap v=ds))=decide (ds∈ks.map (·.2))
 | [],_=>rfl
 | k :: ks,h=>by
  rw[BF,E6,iC I λk hk=>h k (BG _ hk),((h k Br).is I).cells,BF]
  rw[CO,Ek,decide_eq_true_iff,decide_eq_true_iff,decide_eq_true_iff,BR]
  exact or_congr_left eq_comm
theorem jB (I:Inv X pins σ H s)(hu:X.A.units+8<cLine){b:Addr}{ds:List Cell}{ks:List (Addr×List Cell)}(ht:∀k∈ks,RowC X.K H k.1 k.2)(hb:RowC X.K H b ds){y:Bh}(hy:y∈ks.map λk=>BN k.1):Ex X.A.in1 s y (.ref b) (decide (bp s.heap y=ds)):=by
 obtain ⟨k,hm,rfl⟩:=Bw.mp hy
 rw[((ht k hm).is I).cells]
 exact wI (by show X.A.units+1+2<cLine;omega) ((ht k hm).is I) (hb.is I)
theorem Ab {K:Be}(hu:X.A.units+8<cLine)(hK:X.K=K:=by rfl):OpR X (CV .In) (λx y H Q=>∃(p b:Addr) (ks:List (Addr×List Cell)) (ds:List Cell),x = .ref b/\y = .ref p/\(SqL K H p (ks.map λk =>.ref k.1)\/SqT K H p (ks.map λk =>.ref k.1))/\(∀k∈ks,RowC K H k.1 k.2)/\RowC K H b ds/\Q (.bl (decide (ds∈ks.map (·.2)))) H):=by
 subst hK
 intro pins s σ H x y v u Q I rx ry h
 obtain ⟨p,b,ks,ds,rfl,rfl,hp,ht,hb,q⟩:=h
 cases (show v=BN b from rx)
 cases (show u=BN p from ry)
 rcases hp with hp | hp
 ·obtain ⟨its,r,⟨o,n,e,c,_,d⟩,hz⟩:=I.list hp
  have ei:=cb (f:=λk:Addr×List Cell=>k.1) r
  refine Jq (items:=its.toArray) (λv=>decide (bp s.heap v=ds)) ⟨o,e,c,n,d⟩ (λy hy =>?_) ⟨.bl _,H,I,rfl,?_⟩
  ·rw[F3,ei] at hy
   exact jB I hu ht hb hy
  ·rw[show its.toArray.any (λv=>decide (bp s.heap v=ds))=its.any (λv=>decide (bp s.heap v=ds)) by simp,ei,iC I ht]
   exact q
 ·obtain ⟨its,r,⟨o,e,c,n,d⟩,hz⟩:=I.tuple hp
  have ei:=cb (f:=λk:Addr×List Cell=>k.1) r
  refine Je (items:=its.toArray) (λv=>decide (bp s.heap v=ds)) ⟨o,e,c,n,d⟩ (λy hy =>?_) ⟨.bl _,H,I,rfl,?_⟩
  ·rw[F3,ei] at hy
   exact jB I hu ht hb hy
  ·rw[show its.toArray.any (λv=>decide (bp s.heap v=ds))=its.any (λv=>decide (bp s.heap v=ds)) by simp,ei,iC I ht]
   exact q
theorem u6 {K:Be}(hu:X.A.units+8<cLine)(hK:X.K=K:=by rfl):OpR X (CV .NotIn) (λx y H Q=>∃(p b:Addr) (ks:List (Addr×List Cell)) (ds:List Cell),x = .ref b/\y = .ref p/\(SqL K H p (ks.map λk =>.ref k.1)\/SqT K H p (ks.map λk =>.ref k.1))/\(∀k∈ks,RowC K H k.1 k.2)/\RowC K H b ds/\Q (.bl (!decide (ds∈ks.map (·.2)))) H):=by
 subst hK
 intro pins s σ H x y v u Q I rx ry h
 obtain ⟨p,b,ks,ds,rfl,rfl,hp,ht,hb,q⟩:=h
 cases (show v=BN b from rx)
 cases (show u=BN p from ry)
 rcases hp with hp | hp
 ·obtain ⟨its,r,⟨o,n,e,c,_,d⟩,hz⟩:=I.list hp
  have ei:=cb (f:=λk:Addr×List Cell=>k.1) r
  refine Io (items:=its.toArray) (λv=>decide (bp s.heap v=ds)) ⟨o,e,c,n,d⟩ (λy hy =>?_) ⟨.bl _,H,I,rfl,?_⟩
  ·rw[F3,ei] at hy
   exact jB I hu ht hb hy
  ·rw[show its.toArray.any (λv=>decide (bp s.heap v=ds))=its.any (λv=>decide (bp s.heap v=ds)) by simp,ei,iC I ht]
   exact q
 ·obtain ⟨its,r,⟨o,e,c,n,d⟩,hz⟩:=I.tuple hp
  have ei:=cb (f:=λk:Addr×List Cell=>k.1) r
  refine HW (items:=its.toArray) (λv=>decide (bp s.heap v=ds)) ⟨o,e,c,n,d⟩ (λy hy =>?_) ⟨.bl _,H,I,rfl,?_⟩
  ·rw[F3,ei] at hy
   exact jB I hu ht hb hy
  ·rw[show its.toArray.any (λv=>decide (bp s.heap v=ds))=its.any (λv=>decide (bp s.heap v=ds)) by simp,ei,iC I ht]
   exact q
end
open PySem PySem.Spec PyProof.Rows
section
variable  {K:Be}{a:Addr}{k:Nat}{tc:TT}{te:TE}{τ:St}{H:Hp}{Q:VK}{α:Type}
theorem mK (f g:α -> V)(p:α -> Bool)(xs:List α)(ht:∀x∈xs,∀R:Bool->Hp->Prop,R (p x) H->tc (τ.set k (some (f x))) H R)(he:∀x∈xs,p x=true->∀R:VK,R (g x) H->te (τ.set k (some (f x))) H R)
  (i:Nat) (x:V) (ys:List V) (H':Hp) (hx:(xs.map f)[i]? = some x) (z:H'=H/\ys=((xs.take i).filter p).map g):jX k tc te τ (λi ys H'=>H'=H/\ys=((xs.take i).filter p).map g) i x ys H':=by
 obtain ⟨rfl,rfl⟩:=z
 rw[BQ] at hx
 cases e:xs[i]? with
 | none=>rw[e] at hx;cases hx
 | some y =>
  rw[e] at hx
  cases hx
  have hm:=B4 e
  have et:xs.take (i+1)=xs.take i++[y]:=by rw[CT,e];rfl
  intro R1 R0 h1 h0
  refine ht y hm _ ?_
  cases ep:p y with
  | true =>
   rw[if_pos rfl]
   refine he y hm ep _ (h1 _ _ ⟨rfl,?_⟩)
   rw[et,Dd,BB]
   simp[ep]
  | false =>
   rw[if_neg Bo]
   refine h0 _ ⟨rfl,?_⟩
   rw[et,Dd]
   simp[ep]
theorem eG (f g:α -> V)(p:α -> Bool)(xs:List α)(hs:SqT K H a (xs.map f))(hz:xs.length<=BJ)(ht:∀x∈xs,∀R:Bool->Hp->Prop,R (p x) H->tc (τ.set k (some (f x))) H R)(he:∀x∈xs,p x=true->∀R:VK,R (g x) H->te (τ.set k (some (f x))) H R)
  (hd:∀l,H l=none->Q (.ref l) (upd H l (.lst ((xs.filter p).map g)))):gD (Itt K a) (fj k) tc te τ Q H :=
 iR (xs:=xs.map f) (λi ys H'=>H'=H/\ys=((xs.take i).filter p).map g) ⟨rfl,rfl⟩ (by rw[Bg];exact hz) (λi ys H' _ z=>by rw[z.1];exact hs) (λi x ys H' e _ z=>mK f g p xs ht he i x ys H' e z) λys H' _ z l hl=>by
  obtain ⟨rfl,rfl⟩:=z
  rw[B5 (by rw[Bg];exact Bn _)]
  exact hd l hl
theorem df (f g:α -> V)(p:α -> Bool)(xs:List α)(hs:SqL K H a (xs.map f))(hz:xs.length<=BJ)(ht:∀x∈xs,∀R:Bool->Hp->Prop,R (p x) H->tc (τ.set k (some (f x))) H R)(he:∀x∈xs,p x=true->∀R:VK,R (g x) H->te (τ.set k (some (f x))) H R)
  (hd:∀l,H l=none->Q (.ref l) (upd H l (.lst ((xs.filter p).map g)))):gD (Itl K a) (fj k) tc te τ Q H :=
 jY (xs:=xs.map f) (λi ys H'=>H'=H/\ys=((xs.take i).filter p).map g) ⟨rfl,rfl⟩ (by rw[Bg];exact hz) (λi ys H' _ z=>by rw[z.1];exact hs) (λi x ys H' e _ z=>mK f g p xs ht he i x ys H' e z) λys H' _ z l hl=>by
  obtain ⟨rfl,rfl⟩:=z
  rw[B5 (by rw[Bg];exact Bn _)]
  exact hd l hl
end
section
open Srt
variable  {K:Be}{H:Hp}
theorem bX.cons:∀{xs:List V} {c:Cell} {cs:List Cell},bX K H xs (c :: cs)->∃x ys,xs=x :: ys/\tG K H x c/\bX K H ys cs
 | [],_,_,h=>h.elim
 | x :: ys,_,_,h=>⟨x,ys,rfl,h.1,h.2⟩
theorem bX.nil:∀{xs:List V},bX K H xs []->xs=[]
 | [],_=>rfl
 | _ :: _,h=>h.elim
theorem yt {p:Addr}{x y:Int}{w:List Int}(h:RowC K H p [.i x,.i y,.t w]):∃b,SqT K H p [.int x,.int y,.ref b]/\SqT K H b (w.map V.int):=by
 obtain ⟨xs,h1,h2⟩:=h
 obtain ⟨x1,ys,rfl,e1,h3⟩:=h2.cons
 obtain ⟨x2,zs,rfl,e2,h4⟩:=h3.cons
 obtain ⟨x3,us,rfl,⟨b,e3,k⟩,h5⟩:=h4.cons
 subst e3
 obtain rfl:=h5.nil
 cases (show x1=V.int x from e1)
 cases (show x2=V.int y from e2)
 exact ⟨b,h1,k⟩
theorem yu {p b:Addr}{x y:Int}{w:List Int}(h1:SqT K H p [.int x,.int y,.ref b])(h2:SqT K H b (w.map V.int)):RowC K H p [.i x,.i y,.t w]:=⟨_,h1,rfl,rfl,⟨b,rfl,h2⟩,trivial⟩
theorem wK {p:Addr}{z:Str}{x:Int}(h:RowC K H p [.s z,.i x]):SqT K H p [.str z,.int x]:=by
 obtain ⟨xs,h1,h2⟩:=h
 obtain ⟨x1,ys,rfl,e1,h3⟩:=h2.cons
 obtain ⟨x2,zs,rfl,e2,h4⟩:=h3.cons
 obtain rfl:=h4.nil
 cases (show x1=V.str z from e1)
 cases (show x2=V.int x from e2)
 exact h1
theorem tH {p:Addr}{z:Str}{x y:Int}(h:RowC K H p [.s z,.i x,.i y]):SqT K H p [.str z,.int x,.int y]:=by
 obtain ⟨xs,h1,h2⟩:=h
 obtain ⟨x1,ys,rfl,e1,h3⟩:=h2.cons
 obtain ⟨x2,zs,rfl,e2,h4⟩:=h3.cons
 obtain ⟨x3,us,rfl,e3,h5⟩:=h4.cons
 obtain rfl:=h5.nil
 cases (show x1=V.str z from e1)
 cases (show x2=V.int x from e2)
 cases (show x3=V.int y from e3)
 exact h1
end
open PySem PySem.Spec PyProof.Rows Srt
theorem tI {H H':Hp}{a:Addr}{o:HO}(s:ax H H')(h:Rd H a o):Rd H' a o:=h.elim (λe =>.inl (s _ _ e)) λ⟨ob,e⟩ =>.inr ⟨ob,s _ _ e⟩
theorem ah {K:Be}{H H':Hp}{a:Addr}{xs:List V}(s:ax H H')(h:SqT K H a xs):SqT K H' a xs:=h.imp (tI s) id
theorem wL {K:Be}{H H':Hp}{a:Addr}{xs:List V}(s:ax H H')(h:SqL K H a xs):SqL K H' a xs:=h.imp (tI s) id
theorem dg {K:Be}{H H':Hp}(k:∀b xs,SqT K H b xs->SqT K H' b xs):∀{xs:List V} {cs:List Cell},bX K H xs cs->bX K H' xs cs
 | [],[],_=>trivial
 | x :: xs,.i n :: cs,⟨a,b⟩=>⟨a,dg k b⟩
 | x :: xs,.s n :: cs,⟨a,b⟩=>⟨a,dg k b⟩
 | x :: xs,.t n :: cs,⟨⟨p,e,a⟩,b⟩=>⟨⟨p,e,k _ _ a⟩,dg k b⟩
theorem az {K:Be}{H H':Hp}{a:Addr}{cs:List Cell}(s:ax H H')(h:RowC K H a cs):RowC K H' a cs:=by
 obtain ⟨xs,h1,h2⟩:=h
 exact ⟨xs,ah s h1,dg (λb xs=>ah s) h2⟩
theorem yv {K:Be}{H H':Hp}{P a:Addr}{ps:Array Bh}{cs:List Cell}(hP:H P=some (.tbl ps))(s:SameBut P H H')(h:RowC K H a cs):RowC K H' a cs:=by
 obtain ⟨xs,h1,h2⟩:=h
 exact ⟨xs,nJ hP s h1,dg (λb xs=>nJ hP s) h2⟩
section
variable  {K:Be}{a:Addr}{k:Nat}{tc:TT}{te:TE}{τ:St}{H:Hp}{Q:VK}{α:Type}
theorem ra (f g:α -> V)(p:α -> Bool)(xs:List α)(ht:∀x∈xs,∀H1,ax H H1->∀R:Bool->Hp->Prop,(∀H2,ax H1 H2->R (p x) H2)->tc (τ.set k (some (f x))) H1 R)(he:∀x∈xs,p x=true->∀H1,ax H H1->∀R:VK,R (g x) H1->te (τ.set k (some (f x))) H1 R)
  (i:Nat) (x:V) (ys:List V) (H':Hp) (hx:(xs.map f)[i]? = some x) (z:ax H H'/\ys=((xs.take i).filter p).map g):jX k tc te τ (λi ys H'=>ax H H'/\ys=((xs.take i).filter p).map g) i x ys H':=by
 obtain ⟨s,rfl⟩:=z
 rw[BQ] at hx
 cases e:xs[i]? with
 | none=>rw[e] at hx;cases hx
 | some y =>
  rw[e] at hx
  cases hx
  have hm:=B4 e
  have et:xs.take (i+1)=xs.take i++[y]:=by rw[CT,e];rfl
  intro R1 R0 h1 h0
  refine ht y hm H' s _ λH2 s2 =>?_
  cases ep:p y with
  | true =>
   rw[if_pos rfl]
   refine he y hm ep H2 (s.trans s2) _ (h1 _ _ ⟨s.trans s2,?_⟩)
   rw[et,Dd,BB]
   simp[ep]
  | false =>
   rw[if_neg Bo]
   refine h0 _ ⟨s.trans s2,?_⟩
   rw[et,Dd]
   simp[ep]
theorem pT (f g:α -> V)(p:α -> Bool)(xs:List α)(hs:SqT K H a (xs.map f))(hz:xs.length<=BJ)(ht:∀x∈xs,∀H1,ax H H1->∀R:Bool->Hp->Prop,(∀H2,ax H1 H2->R (p x) H2)->tc (τ.set k (some (f x))) H1 R)(he:∀x∈xs,p x=true->∀H1,ax H H1->∀R:VK,R (g x) H1->te (τ.set k (some (f x))) H1 R)
  (hd:∀H' l,ax H H'->H' l=none->Q (.ref l) (upd H' l (.lst ((xs.filter p).map g)))):gD (Itt K a) (fj k) tc te τ Q H :=
 iR (xs:=xs.map f) (λi ys H'=>ax H H'/\ys=((xs.take i).filter p).map g) ⟨ax.refl _,rfl⟩ (by rw[Bg];exact hz) (λi ys H' _ z=>ah z.1 hs) (λi x ys H' e _ z=>ra f g p xs ht he i x ys H' e z) λys H' _ z l hl=>by
  obtain ⟨s,rfl⟩:=z
  rw[B5 (by rw[Bg];exact Bn _)]
  exact hd H' l s hl
end
section
variable  {K:Be}{a:Addr}{k:Nat}{tc:TT}{te:TE}{τ:St}{H:Hp}{Q:VK}{α β:Type}
theorem mL (rel:Hp->Addr -> β -> Prop)(st:∀H1 H2 p b,ax H1 H2->rel H1 p b->rel H2 p b)(f:α -> V)(g:α -> β)(p:α -> Bool)(xs:List α)(ht:∀x∈xs,∀H1,ax H H1->∀R:Bool->Hp->Prop,(∀H2,ax H1 H2->R (p x) H2)->tc (τ.set k (some (f x))) H1 R)
  (he:∀x∈xs,p x=true->∀H1,ax H H1->∀R:VK,(∀q H2,ax H1 H2->rel H2 q (g x)->R (.ref q) H2)->te (τ.set k (some (f x))) H1 R)
  (i:Nat) (x:V) (ys:List V) (H':Hp) (hx:(xs.map f)[i]? = some x) (z:ax H H'/\∃ks:List (Addr×β),ys=ks.map (λk=>V.ref k.1)/\(∀k∈ks,rel H' k.1 k.2)/\ks.map (·.2)=((xs.take i).filter p).map g) :
  jX k tc te τ (λi ys H'=>ax H H'/\∃ks:List (Addr×β),ys=ks.map (λk=>V.ref k.1)/\(∀k∈ks,rel H' k.1 k.2)/\ks.map (·.2)=((xs.take i).filter p).map g) i x ys H':=by
 obtain ⟨s,ks,rfl,hr,em⟩:=z
 rw[BQ] at hx
 cases e:xs[i]? with
 | none=>rw[e] at hx;cases hx
 | some y =>
  rw[e] at hx
  cases hx
  have hm:=B4 e
  have et:xs.take (i+1)=xs.take i++[y]:=by rw[CT,e];rfl
  intro R1 R0 h1 h0
  refine ht y hm H' s _ λH2 s2 =>?_
  cases ep:p y with
  | true =>
   rw[if_pos rfl]
   refine he y hm ep H2 (s.trans s2) _ λq H3 s3 rq=>h1 _ _ ⟨(s.trans s2).trans s3,ks++[(q,g y)],by rw[BB];rfl,λk hk =>?_,?_⟩
   ·rcases BC.mp hk with hk | hk
    ·exact st _ _ _ _ (s2.trans s3) (hr k hk)
    ·rw[Bz.mp hk];exact rq
   ·rw[et,Dd,BB,BB,em]
    simp[ep]
  | false =>
   rw[if_neg Bo]
   refine h0 _ ⟨s.trans s2,ks,rfl,λk hk=>st _ _ _ _ s2 (hr k hk),?_⟩
   rw[et,Dd,em]
   simp[ep]
theorem eI (rel:Hp->Addr -> β -> Prop)(st:∀H1 H2 p b,ax H1 H2->rel H1 p b->rel H2 p b)(f:α -> V)(g:α -> β)(p:α -> Bool)(xs:List α)(hs:SqT K H a (xs.map f))(hz:xs.length<=BJ)(ht:∀x∈xs,∀H1,ax H H1->∀R:Bool->Hp->Prop,(∀H2,ax H1 H2->R (p x) H2)->tc (τ.set k (some (f x))) H1 R)
  (he:∀x∈xs,p x=true->∀H1,ax H H1->∀R:VK,(∀q H2,ax H1 H2->rel H2 q (g x)->R (.ref q) H2)->te (τ.set k (some (f x))) H1 R)
  (hd:∀H' (ks:List (Addr×β)) l,ax H H'->(∀k∈ks,rel H' k.1 k.2)->ks.map (·.2)=(xs.filter p).map g->H' l=none->Q (.ref l) (upd H' l (.lst (ks.map λk=>V.ref k.1)))):gD (Itt K a) (fj k) tc te τ Q H :=
 iR (xs:=xs.map f) (λi ys H'=>ax H H'/\∃ks:List (Addr×β),ys=ks.map (λk=>V.ref k.1)/\(∀k∈ks,rel H' k.1 k.2)/\ks.map (·.2)=((xs.take i).filter p).map g) ⟨ax.refl _,[],rfl,λk hk=>(by cases hk),rfl⟩ (by rw[Bg];exact hz) (λi ys H' _ z=>ah z.1 hs) (λi x ys H' e _ z=>mL rel st f g p xs ht he i x ys H' e z) λys H' _ z l hl=>by
  obtain ⟨s,ks,rfl,hr,em⟩:=z
  rw[B5 (by rw[Bg];exact Bn _)] at em
  exact hd H' ks l s hr em hl
theorem rb (rel:Hp->Addr -> β -> Prop)(st:∀H1 H2 p b,ax H1 H2->rel H1 p b->rel H2 p b)(f:α -> V)(g:α -> β)(p:α -> Bool)(xs:List α)(hs:SqL K H a (xs.map f))(hz:xs.length<=BJ)(ht:∀x∈xs,∀H1,ax H H1->∀R:Bool->Hp->Prop,(∀H2,ax H1 H2->R (p x) H2)->tc (τ.set k (some (f x))) H1 R)
  (he:∀x∈xs,p x=true->∀H1,ax H H1->∀R:VK,(∀q H2,ax H1 H2->rel H2 q (g x)->R (.ref q) H2)->te (τ.set k (some (f x))) H1 R)
  (hd:∀H' (ks:List (Addr×β)) l,ax H H'->(∀k∈ks,rel H' k.1 k.2)->ks.map (·.2)=(xs.filter p).map g->H' l=none->Q (.ref l) (upd H' l (.lst (ks.map λk=>V.ref k.1)))):gD (Itl K a) (fj k) tc te τ Q H :=
 jY (xs:=xs.map f) (λi ys H'=>ax H H'/\∃ks:List (Addr×β),ys=ks.map (λk=>V.ref k.1)/\(∀k∈ks,rel H' k.1 k.2)/\ks.map (·.2)=((xs.take i).filter p).map g) ⟨ax.refl _,[],rfl,λk hk=>(by cases hk),rfl⟩ (by rw[Bg];exact hz) (λi ys H' _ z=>wL z.1 hs) (λi x ys H' e _ z=>mL rel st f g p xs ht he i x ys H' e z) λys H' _ z l hl=>by
  obtain ⟨s,ks,rfl,hr,em⟩:=z
  rw[B5 (by rw[Bg];exact Bn _)] at em
  exact hd H' ks l s hr em hl
end
end L2
namespace Kys
open PySem PyProof.Rows
section
variable  {prog:BD}{w:Cb}{A:B9}{E:Bh->Bi->Prop}{s:Bi}
def PD (h:Heap)(d:Addr)(es:Array DictEntry)(ep:Nat):Prop:=∃o,h.get? d=some o/\o.ExactDict/\o.data = .dict es ep
def kObj (d:Addr)(i n ep:Nat):Obj:={ cls :=.type "dict_keyiterator",data :=.fields #[.ref d,.int i 0,.int n 0,.int ep 0] }
theorem PD.ty {d:Addr}{es:Array DictEntry}{ep:Nat}(x:PD s.heap d es ep):s.TypeIs (.ref d) "dict" := let ⟨o,e,c,_⟩:=x;⟨o,e,c.1⟩
theorem Ac {d:Addr}{es:Array DictEntry}{ep:Nat}{Q:Bh->Bi->Prop}(hs:(d == sysModules)=false)(hd:PD s.heap d es ep)
  (hQ:Q (.ref s.heap.objs.size) { s with heap:=s.heap.push (kObj d 0 es.size ep) }):BL (B1 prog w) A (Builtin.«dict.__iter__» ⟨[.ref d],[]⟩) (λfin s'=>∃v,fin = .done (.ret v)/\Q v s') E s:=by
 obtain ⟨⟨oc,odd,odt,os'⟩,hod,⟨hc,_⟩,hdd⟩:=hd
 dsimp only at hdd hc
 subst hdd hc
 unfold Builtin.«dict.__iter__»
 wp_walk
 exact ⟨_,rfl,hQ⟩
theorem nextOne {it d:Addr}{es:Array DictEntry}{ep i:Nat}{e:DictEntry}{Q:Bh->Bi->Prop}(hi:s.heap.get? it=some (kObj d i es.size ep))(hd:PD s.heap d es ep)(he:es[i]? = some e)
  (hQ:∀h',h'.get? it=some (kObj d (i+1) es.size ep)->Heap.SameBut it s.heap h'->Q e.key { s with heap:=h' }):BL (B1 prog w) A (Builtin.«dict_keyiterator.__next__» ⟨[.ref it],[]⟩) (λfin s'=>∃v,fin = .done (.ret v)/\Q v s') E s:=by
 obtain ⟨⟨oc,odd,odt,os'⟩,hod,⟨hc,_⟩,hdd⟩:=hd
 dsimp only at hdd hc
 subst hdd hc
 unfold kObj at hi
 unfold Builtin.«dict_keyiterator.__next__»
 wp_walk
 rw[show (if (i:Int)<0 then none else es[(i:Int).toNat]?)=some e by rw[if_neg (by omega),FI];exact he]
 wp_walk
 exact ⟨_,rfl,hQ _ ((CB _ hi (by first | rfl | kernel_rfl)).trans (by unfold kObj;kernel_rfl)) (EA ..)⟩
theorem yw {it d:Addr}{es:Array DictEntry}{ep i:Nat}{Q:Fin->Bi->Prop}(hh:A.handled=none)(hi:s.heap.get? it=some (kObj d i es.size ep))(hd:PD s.heap d es ep)(hl:es.size<=i)
  (hE:∀(h':Heap) (x:Addr),(∀c o,c≠it->s.heap.get? c=some o->h'.get? c=some o)->(∃o,h'.get? x=some o/\o.cls = .type "StopIteration")->E (.ref x) { s with heap:=h' }):BL (B1 prog w) A (Builtin.«dict_keyiterator.__next__» ⟨[.ref it],[]⟩) Q E s:=by
 obtain ⟨⟨oc,odd,odt,os'⟩,hod,⟨hc,_⟩,hdd⟩:=hd
 dsimp only at hdd hc
 subst hdd hc
 unfold kObj at hi
 unfold Builtin.«dict_keyiterator.__next__»
 wp_walk
 rw[show (if (i:Int)<0 then none else es[(i:Int).toNat]?)=none by rw[if_neg (by omega),FI];exact De hl]
 wp_walk
 refine wpAny_raiseNew_none hh (hE _ _ (λc o n e =>?_) ⟨_,Bp _ rfl,rfl⟩)
 exact Bf _ (Bf _ ((Cm _ _ (C6 n)).trans e))
def KAt (h:Heap)(it d:Addr)(i n ep:Nat):Prop:=h.get? it=some (kObj d i n ep)
theorem KAt.ty {it d:Addr}{i n ep:Nat}(x:KAt s.heap it d i n ep):s.TypeIs (.ref it) "dict_keyiterator" :=⟨_,x,rfl⟩
theorem KAt.iter {it d:Addr}{i n ep:Nat}(x:KAt s.heap it d i n ep):s.heap.IsKeyIter it d i n ep:=⟨_,x,rfl,rfl⟩
theorem yx {d:Addr}{es:Array DictEntry}{ep:Nat}{Q:Bh->Bi->Prop}(hs:(d == sysModules)=false)(hd:PD s.heap d es ep)
  (hQ:Q (.ref s.heap.objs.size) { s with heap:=s.heap.push (kObj d 0 es.size ep) }):BL (B1 prog w) A (pyIter (.ref d)) Q E s :=
 FN hd.ty Hs (Co Hs hd.ty PySem.F.entry_dict_iter (Ac hs hd ⟨"dict_keyiterator",_,⟨_,Bp _ rfl,rfl⟩,CP.lookup,hQ⟩) (PySem.F.args_dict_iter_1 _))
theorem yy {it d:Addr}{es:Array DictEntry}{ep i:Nat}{e:DictEntry}{Q:Option Bh->Bi->Prop}(hi:KAt s.heap it d i es.size ep)(hd:PD s.heap d es ep)(he:es[i]? = some e)
  (hQ:∀h',KAt h' it d (i+1) es.size ep->Heap.SameBut it s.heap h'->Q (some e.key) { s with heap:=h' }):BL (B1 prog w) A (pyNext (.ref it)) Q E s:=by
 unfold pyNext
 exact Bd (DC (Ct (name:=Str.ofString "__next__") hi.ty CP (Co CP hi.ty Fn (nextOne hi hd he λh' k b=>Bk (hQ h' k b)) (Fg _))))
theorem Ad {it d:Addr}{es:Array DictEntry}{ep i:Nat}{Q:Option Bh->Bi->Prop}(hh:A.handled=none)(hi:KAt s.heap it d i es.size ep)(hd:PD s.heap d es ep)(hl:es.size<=i)
  (hQ:∀h':Heap,(∀c o,c≠it->s.heap.get? c=some o->h'.get? c=some o)->Q none { s with heap:=h' }):BL (B1 prog w) A (pyNext (.ref it)) Q E s:=by
 unfold pyNext
 refine Bd (DC (Ct (name:=Str.ofString "__next__") hi.ty CP (Co CP hi.ty Fn (yw (by first | exact hh | (rw[<- hh];rfl)) hi hd hl λh' x k ⟨o,ex,ec⟩ =>?_) (Fg _))))
 exact Bd (Fl (T := "StopIteration") (b:=true) ⟨o,ex,ec⟩ HV (Bk (hQ h' k)))
end
end Kys
namespace L2
open PySem PySem.Spec PyProof.Rows
theorem kg.tF {H:Hp}{a b:Addr}{ob:Obj}{kvs:List (List Key×V)}{k:List Key}(e:H a=some (.frz ob (.dT kvs)))(eb:H b=some (.tup (k.map kV))):kg H a (.ref b) (cy kvs k) :=.inr ⟨kvs,k,b,.inr ⟨ob,e⟩,rfl,eb,rfl⟩
def Itk (d:Addr)(ob:Obj)(kvs:List (List Key×V)):It :=
 ⟨λi H=>H d=some (.frz ob (.dT kvs))/\i<kvs.length,λi H x H'=>H'=H/\∃b kv,kvs[i]? = some kv/\x = .ref b/\H b=some (.tup (kv.1.map kV)),λi H=>H d=some (.frz ob (.dT kvs))/\kvs.length<=i⟩
theorem kt_at {H:Hp}:∀{kvs:List (List Key×V)} {xs:List (List Key×Addr×Bh)},KT H kvs xs->∀(i:Nat) kv,kvs[i]? = some kv->∃q,xs[i]? = some q/\H q.2.1=some (.tup (kv.1.map kV))
 | _,_,.nil,i,kv,e=>by cases e
 | _,_,.cons h t,0,kv,e=>by
  cases e
  exact ⟨_,rfl,h.2.1⟩
 | _,_,.cons h t,i+1,kv,e=>kt_at t i kv e
theorem rf {P:BD}{w:Cb}{K:Be}{tg:Expr}{kvs:List (List Key×V)}{es:Array DictEntry}{ep:Nat}{ob:Obj}(d it:Addr)(hc:ob.ExactDict)(hd:ob.data = .dict es ep)(hl:es.size=kvs.length) :
  Turn P w K tg (Itk d ob kvs) [it] it (λi h=>Kys.KAt h it d i es.size ep) where
 mem:=by simp
 obj:=λi h st b hb=>by
  obtain rfl:b=it:=by simpa using hb
  exact ⟨_,st,λv z=>by cases z⟩
 keep:=λi h h' st k=>k it (by simp) _ st
 item:=by
  intro X hP hw hK hcl i pins s σ H E I hf st hg
  subst hP hw hK
  obtain ⟨hdd,hi⟩:=hg
  have e1:s.heap.get? d=some ob:=(show ba X.prog X.w H s.heap d (.frz ob (.dT kvs)) from I.hok d _ hdd).1
  obtain ⟨_,_,xs,rel,o,es',ep',ho,_,hda,he,_,_⟩:=mC I.hok (.inr ⟨ob,hdd⟩)
  rw[e1] at ho
  cases ho
  rw[hd] at hda
  cases hda
  obtain ⟨f0,f1,f2,f3,f4,f5⟩:=hf it (by simp)
  obtain ⟨q,eq,hq⟩:=kt_at rel i _ (BA hi)
  have ee:es[i]? = some (entryOfKey (tupleKind (bD X.prog X.w)) q):=by rw[entry_at he i,eq];rfl
  refine Kys.yy st ⟨ob,e1,hc,hd⟩ ee λh' st' sb=>⟨_,rfl,?_⟩
  have I1:Inv X pins σ H { s with heap:=h' }:=I.turned (t':=s.toks) (λb o hb e=>(sb.2 b hb).trans e) f0 f1 f3 f4 f5
  exact r6 (s:={ s with heap:=h' }) st' rfl rfl (by decide) ⟨.ref q.2.1,H,I1,rfl,⟨rfl,q.2.1,_,BA hi,rfl,hq⟩,st',λb hb=>(hf b hb).1⟩
 done:=by
  intro X hP hw hK hcl i pins s σ H E I hf st hg
  subst hP hw hK
  obtain ⟨hdd,hi⟩:=hg
  have e1:s.heap.get? d=some ob:=(show ba X.prog X.w H s.heap d (.frz ob (.dT kvs)) from I.hok d _ hdd).1
  obtain ⟨f0,f1,f2,f3,f4,f5⟩:=hf it (by simp)
  exact Kys.Ad (I.ok.hd hcl) st ⟨ob,e1,hc,hd⟩ (by omega) λh' eb=>⟨rfl,I.turned (t':=s.toks) (λb o hb e=>eb b o hb e) f0 f1 f3 f4 f5⟩
 self:=λ_ _ _ _ _ st h=>wpAny_pyIter_keyiter (Kys.KAt.iter st) h
theorem Inv.yz {X:Cx}{pins:List (Addr×Obj)}{σ:St}{H:Hp}{s:Bi}{d:Addr}{ob:Obj}{kvs:List (List Key×V)}(I:Inv X pins σ H s)(hd:H d=some (.dT kvs))(ho:s.heap.get? d=some ob):Inv X pins σ (upd H d (.frz ob (.dT kvs))) s:=by
 have go:∀b o,H b=some o->o ≠ .dT kvs->upd H d (.frz ob (.dT kvs)) b=some o:=λb o e n=>by rw[ao (jK e hd n)];exact e
 have st:∀b u,ba X.prog X.w H s.heap b u->ba X.prog X.w (upd H d (.frz ob (.dT kvs))) s.heap b u:=λb u x=>x.jL (λ_ _ _ q=>q) (λc q=>go c _ q nofun) λc xs q=>go c _ q nofun
 refine I.step (g':=s.gens) (d':=s.drawn) (t':=s.toks) (h':=s.heap) (ch:=[]) (λ_ z=>nomatch z) (λb o _ _ _ e _=>e) (λb o _ _ _ e _=>⟨o.slots,e⟩) (λb o _ _ n =>?_) (λb o _ e=>⟨o,e⟩) (λb xs e=>go b _ e nofun) (λb o u e=>go b _ e nofun) (λb ps e=>⟨#[],by rw[go b _ e nofun];simp⟩) (λ_ m=>m) (λb u e =>?_) I.bare
 ·rw[ao λz=>by rw[z,hd] at n;cases n];exact n
 by_cases hb:b=d
 ·subst hb
  rw[af] at e
  cases e
  exact ⟨ho,st _ _ (I.hok b _ hd)⟩
 ·rw[ao hb] at e
  exact st _ _ (I.hok b u e)
def Ba (tl:TE):TI:=λσ H R=>tl σ H λx H1=>∃d kvs,x = .ref d/\H1 d=some (.dT kvs)/\∀ob,R (Itk d ob kvs) (upd H1 d (.frz ob (.dT kvs)))
theorem wM {X:Cx}{tg l:Expr}{tl:TE}(hl:PE X l tl):PI X tg l (Ba tl):=by
 intro pins s σ H R I h
 refine thn (hl pins s σ H _ I h) λv s1 p1 =>?_
 obtain ⟨_,H1,I1,r1,d,kvs,rfl,hd,q⟩:=p1
 cases r1
 obtain ⟨_,hsys,xs,rel,ob,es,ep,ho,hc,hda,he,_⟩:=yZ I1.hok hd
 have I2:=I1.yz hd ho
 refine Kys.yx hsys ⟨ob,ho,hc,hda⟩ ⟨s1.heap.objs.size,[s1.heap.objs.size],_,_,_,rfl,I2.kept (t':=s1.toks) λb o e=>Bf _ e,rf d _ hc hda ?_,Bp _ rfl,λb hb =>?_,q ob⟩
 ·rw[size_of_entries he,Fv rel]
 obtain rfl:b=s1.heap.objs.size:=by simpa using hb
 exact I2.vv (Bn _) (I2.hok.fresh (Bn _))
open PySem PySem.Spec PyProof.Rows
theorem pV {d:Addr}{ob:Obj}{kvs:List (List Key×V)}{k:Nat}{tc:TT}{te:TE}{τ:St}{H:Hp}{Q:VK}(Pv:Nat->List V->Hp->Prop)(h0:Pv 0 [] H)(hz:kvs.length<=BJ)
  (hl:∀i ys H,i<=kvs.length->Pv i ys H->H d=some (.frz ob (.dT kvs))) (hs:∀i b kv ys H,kvs[i]? = some kv->H b=some (.tup (kv.1.map kV))->ys.length<=i->Pv i ys H->jX k tc te τ Pv i (.ref b) ys H)
  (hd:∀ys H,ys.length<=kvs.length->Pv kvs.length ys H->∀l,H l=none->Q (.ref l) (upd H l (.lst ys))) :
  gD (Itk d ob kvs) (fj k) tc te τ Q H:=by
 refine ⟨λi m σ ys H=>m=kvs.length-i/\i<=kvs.length/\(∀x,σ.set k (some x)=τ.set k (some x))/\ys.length<=i/\Pv i ys H,⟨kvs.length,by simp,BU _,λ_=>rfl,Bn _,h0⟩,?_⟩
 rintro i m σ ys H ⟨rfl,hi,hτ,hy,p⟩
 have q:=hl i ys H hi p
 by_cases hlt:i<kvs.length
 ·refine .inr ⟨⟨q,hlt⟩,λx H' y =>?_⟩
  obtain ⟨e,b,kv,hk,rfl,hb⟩:=y
  subst e
  show tc (σ.set k (some _)) _ _
  rw[hτ (.ref b)]
  have hσ:∀z,(τ.set k (some (.ref b))).set k (some z)=τ.set k (some z):=λz=>by rw[Hv]
  refine hs i b kv ys _ hk hb hy p _ _ (λy4 H4 p4=>⟨by omega,kvs.length-(i+1),by omega,rfl,hlt,hσ,by rw[Bj,BV];omega,p4⟩) λH3 p3=>⟨kvs.length-(i+1),by omega,rfl,hlt,hσ,by omega,p3⟩
 ·have e:i=kvs.length:=by omega
  subst e
  exact .inl ⟨⟨q,Bn _⟩,by omega,hd ys H hy p⟩
theorem Ae {κ:Type}[DecidableEq κ]{kvs:List (κ×V)}(k:κ)(v:V)(hn:(kvs.map (·.1)).Nodup):((putK kvs k v).map (·.1)).Nodup:=by
 cases e:cy kvs k with
 | none=>exact yh v hn e
 | some u =>
  unfold putK
  rw[cH,e]
  have:(kvs.map λkv=>if kv.1=k then (kv.1,v) else kv).map (·.1)=kvs.map (·.1):=by
   rw[BP]
   refine EF λkv _ =>?_
   show (if kv.1=k then (kv.1,v) else kv).1=kv.1
   split <;> rfl
  rw[if_pos (by rfl),this]
  exact hn
theorem yA {κ:Type}[DecidableEq κ]{kvs:List (κ×V)}{k:κ}{v:V}{x:κ}(h:x∈(putK kvs k v).map (·.1)):x=k\/x∈kvs.map (·.1):=by
 unfold putK at h
 split at h
 ·have:(kvs.map λkv=>if kv.1=k then (kv.1,v) else kv).map (·.1)=kvs.map (·.1):=by
   rw[BP]
   refine EF λkv _ =>?_
   show (if kv.1=k then (kv.1,v) else kv).1=kv.1
   split <;> rfl
  rw[this] at h
  exact .inr h
 ·rw[BB] at h
  rcases BC.mp h with h | h
  ·exact .inr h
  ·exact .inl (Bz.mp h)
open PySem PySem.Spec PyProof.Rows
theorem tJ {X:Cx}{K:Be}(hK:X.K=K:=by rfl):SlR X (λx lo hi H Q=>∃a xs,x = .ref a/\SqT K H a xs/\∀p2 H2,ax H H2->SqT K H2 p2 (ie xs lo hi)->Q (.ref p2) H2):=by
 subst hK
 intro pins s σ H x v vl vu lo hi sl Q I rx hs pl pu h
 obtain ⟨a,xs,rfl,ep,key⟩:=h
 refine yc pins s σ H _ v vl vu lo hi sl Q I rx hs pl pu ⟨a,xs,rfl,ep,λz=>key a H (ax.refl _) ?_,λ_ p2 hp2=>key p2 _ (ae hp2 _) (SqT.of af)⟩
 unfold ie
 rw[z.1,z.2,HR,Nat.sub_zero,Jn]
 exact ep
theorem kB {α:Type}(f:α -> V){K:Be}{a:Addr}(us:List α){g:TG}{tb:TS}{D:Ends}{σ:St}{H:Hp}(Pv:List α -> St->Hp->Prop)(h0:Pv [] σ H)(hl:∀p σ H,Pv p σ H->SqT K H a (us.map f))
  (hs:∀p u r σ H,us=p++u :: r->Pv p σ H->g (f u) σ H λσ2 H2=>tb { D with nx:=Pv (p++[u]),ct:=Pv (p++[u]),bk:=D.nx } σ2 H2) (hd:∀σ H,Pv us σ H->D.nx σ H) :
  ∃W:Nat->Nat->St->Hp->Prop,(∃m,W 0 m σ H)/\∀i m σ H,W i m σ H →
   ((Itt K a).stop i H/\D.nx σ H)\/((Itt K a).go i H/\∃N:St->Hp->Prop,(∀σ' H',N σ' H'->∃m',m'<m/\W (i+1) m' σ' H')/\∀x H',(Itt K a).yld i H x H'->g x σ H' λσ2 H2=>tb { D with nx:=N,ct:=N,bk:=D.nx } σ2 H2):=by
 refine sd (xs:=us.map f) (λi σ H=>Pv (us.take i) σ H) (by rw[Ed];exact h0) (λi σ H _ p=>hl _ σ H p) (λi x σ H hx p =>?_) λσ H p=>hd σ H (by rw[Bg,Jn] at p;exact p)
 rw[BQ] at hx
 cases e:us[i]? with
 | none=>rw[e] at hx;cases hx
 | some u =>
  rw[e] at hx
  cases hx
  have et:us.take (i+1)=us.take i++[u]:=by rw[CT,e];rfl
  rw[et]
  refine hs _ u (us.drop (i+1)) σ H ?_ p
  obtain ⟨hi,eu⟩:=Bt.mp e
  rw[<- eu,List.getElem_cons_drop,Dq]
open PySem PySem.Spec PyProof.Rows
section
variable  {X:Cx}
end
theorem Af {X:Cx}{k:Nat}(hr:bL k X.A):OpR X (CV .NotEq) (λx y H Q=>∃(a b:Addr) (xs:List V),x = .ref a/\y = .ref b/\H a=some (.lst xs)/\H b=some (.lst [])/\(xs=[]->Q (.bl false) H)/\(xs≠[]->Q (.bl true) H)):=by
 intro pins s σ H x y v u Q I rx ry h
 obtain ⟨a,b,xs,rfl,rfl,h1,h2,q0,q1⟩:=h
 cases (show v=BN a from rx)
 cases (show u=BN b from ry)
 obtain ⟨i1,r1,p1,_⟩:=I.list (SqL.of (K:=X.K) h1)
 obtain ⟨i2,r2,p2,_⟩:=I.list (SqL.of (K:=X.K) h2)
 have l1:=r1.length
 have l2:=r2.length
 rw[Cq] at l2
 have hu:=hr.un
 have hu1:X.A.units<cLine:=by omega
 by_cases c:xs=[]
 ·subst c
  rw[Cq] at l1
  have R:=SeqAt.RcNeAt.lists (A:=X.A) (e:=λ_=>true) p1.isList p2.isList (by rw[Bm,Bm];omega) hu1 (λj g1 _=>by rw[Bm] at g1;omega)
  rw[Bm, <- l1] at R
  exact R _ _ _ _ ⟨.bl false,H,I,rfl,q0 rfl⟩
 ·have:=Ib.mpr c
  exact SeqAt.RcNeAt.lists_lengths (A:=X.A) p1.isList p2.isList (by simp;omega) hu1 _ _ _ _ ⟨.bl true,H,I,rfl,q1 c⟩
end L2
namespace HT
open PySem PyProof.Rows
def dh:List Int->List Int->Bool
 | [],_=>false
 | _ :: _,[]=>true
 | x :: xs,y :: ys=>if x=y then dh xs ys else decide (x>y)
theorem kC (x y:Int)(xs ys:List Int):dh (x :: xs) (y :: ys)=if x=y then dh xs ys else decide (x>y):=rfl
theorem lH:dh [] []=false:=rfl
theorem kD (y:Int)(ys:List Int):dh [] (y :: ys)=false:=rfl
theorem kE (x:Int)(xs:List Int):dh (x :: xs) []=true:=rfl
theorem pW:∀a b:List Int,dh a b=lexLt b a
 | [],[]=>rfl
 | [],_ :: _=>rfl
 | _ :: _,[]=>rfl
 | x :: xs,y :: ys=>by
  rw[kC,aP,pW xs ys]
  by_cases c:x=y
  ·rw[if_pos c,if_pos c.symm]
  ·rw[if_neg c,if_neg λz=>c z.symm]
theorem wN (A:B9)(s:Bi)(a:Int)(t:Tok)(c:Int)(u:Tok)(prog:BD)(w:Cb)(E:Bh->Bi->Prop)(Q:Bh->Bi->Prop)(h:Q (.bool (decide (a>c))) s) :
  BL (B1 prog w) A (richCompare .Gt (.int a t) (.int c u)) Q E s :=
 (PyProof.Rows.gt_int h:BL (B1 prog w) A (CV .Gt (.int a t) (.int c u)) Q E s)
section
open PySem.SeqAt
open PySem.AutoSeq1 (wpAny_loadPart')
open PySem.MeetsSeq PySem.MeetsSeq2 PySem.MeetsSeq3
theorem lI (l b:Addr)(items items2:Array Bh)(n n2:Nat)(dd dd2:Option Addr)(sl sl2:Array (Option Bh))(ns ms:List Int)(hi:C8 items.toList ns)(hj:C8 items2.toList ms) :
  Meets (Builtin.«tuple.__gt__» ⟨[.ref l,.ref b],[]⟩)
   (λ_ R s=>s.heap.get? l=some { cls :=.type "tuple",dict:=dd,data :=.seq items n,slots:=sl }/\s.heap.get? b=some { cls :=.type "tuple",dict:=dd2,data :=.seq items2 n2,slots:=sl2 } ∧
    R (.ok (.ret (.bool (dh ns ms)))) s) :=
 .of_wp λprog w A R s h=>by
  obtain ⟨hp,g,d,tk,os⟩:=s;obtain ⟨hl,hb,h⟩:=h
  have f2:=GU
  have z1:items.size=ns.length:=by rw[<- hi.length];simp
  have z2:items2.size=ms.length:=by rw[<- hj.length];simp
  wp_walk using wpAny_loadPart' hl,wpAny_loadPart' hb,wpAny_forIn_list _ (λrest b s'=>b.1=none/\s'=⟨hp,g,d,tk,os⟩/\∃(vs ws:List Bh) (ns' ms':List Int),rest=vs.zip ws ∧
   C8 vs ns'/\C8 ws ms'/\ns'.length+items2.size=ms'.length+items.size/\R (.ok (.ret (.bool (dh ns' ms')))) ⟨hp,g,d,tk,os⟩) _
  case turn =>
   rintro ⟨y,x⟩ rest b s' ⟨hb',rfl,vs,ws,ns',ms',hz,hvi,hwi,hlen,hR⟩
   cases hvi with
   | nil=>rw[IJ] at hz;cases hz
   | cons a t hvi' =>
    cases hwi with
    | nil=>rw[Ij] at hz;cases hz
    | cons c u hwi' =>
     rw[Du] at hz
     injection hz with hyx hrest
     injection hyx with hy hx
     subst hy hx
     rw[kC] at hR
     simp only[Bs] at hlen
     obtain ⟨e,he,hiff⟩:=oD A.in1 ⟨hp,g,d,tk,os⟩ a t c u
     refine Bd (he prog w _ _ ?_)
     cases e with
     | true =>
      rw[if_pos (hiff.mp rfl)] at hR
      wp_walk
      exact ⟨rfl,rfl,_,_,_,_,hrest,hvi',hwi',by omega,hR⟩
     | false =>
      rw[if_neg (λq=>absurd (hiff.mpr q) Bo)] at hR
      have hri:=wN A.in1 ⟨hp,g,d,tk,os⟩ a t c u prog w
      wp_walk using hri
      exact ⟨_,rfl,by simpa using hR⟩
  case fin =>
   rintro ⟨b1,b2⟩ s' ⟨hb',rfl,vs,ws,ns',ms',hz,hvi,hwi,hlen,hR⟩
   simp only at hb'
   subst hb'
   have hv:dh ns' ms'=decide (items.size>items2.size):=by
    cases hvi with
    | nil =>
     cases hwi with
     | nil =>
      simp only[Cq] at hlen
      rw[lH]
      exact (decide_eq_false (by omega)).symm
     | cons c u hw =>
      simp only[Cq,Bs] at hlen
      rw[kD]
      exact (decide_eq_false (by omega)).symm
    | cons a t hv =>
     cases hwi with
     | nil =>
      simp only[Cq,Bs] at hlen
      rw[kE]
      exact (decide_eq_true (by omega)).symm
     | cons c u hw =>
      rw[Du] at hz
      cases hz
   rw[hv] at hR
   wp_walk
   exact ⟨_,rfl,by simpa [Builtin.Tuple.tupleCompareSizes] using hR⟩
  case h =>
   exact ⟨rfl,rfl,items.toList,items2.toList,ns,ms,rfl,hi,hj,by omega,h⟩
end
section
variable  {prog:BD}{w:Cb}{A:B9}{E:Bh->Bi->Prop}{s:Bi}
theorem rh {l b:Addr}{items items2:Array Bh}{ns ms:List Int}{Q:Bh->Bi->Prop}(hl:IsTup s.heap l items)(hb:IsTup s.heap b items2)(hi:C8 items.toList ns)(hj:C8 items2.toList ms)
  (hu:A.units<cLine) (h:Q (.bool (dh ns ms)) s):BL (B1 prog w) A (CV .Gt (.ref l) (.ref b)) Q E s:=by
 obtain ⟨⟨cls,dd,data,sl⟩,ho,hc,n,hd⟩:=id hl
 obtain ⟨⟨cls2,dd2,data2,sl2⟩,ho2,hc2,n2,hd2⟩:=id hb
 simp only at hc hd hc2 hd2
 subst hc hd hc2 hd2
 exact DE (op :=.Gt) ⟨_,ho,rfl⟩ ⟨_,ho2,rfl⟩ PySem.F.slot_tuple_gt PySem.F.entry_tuple_gt (PySem.F.args_tuple_gt_2 _ _) (lI l b items items2 n n2 dd dd2 sl sl2 ns ms hi hj)
  ⟨ho,ho2,show Value.bool (dh ns ms)≠Value.notImplemented/\Q (.bool (dh ns ms)) s from ⟨(λx=>nomatch x),h⟩⟩ hu
end
end HT
namespace L2
open PySem PySem.Spec PyProof.Rows
section
variable  {X:Cx}
def rGtT (K:Be):R2:=λx y H Q=>∃a b ns ms,x = .ref a/\y = .ref b/\SqT K H a (ns.map V.int)/\SqT K H b (ms.map V.int)/\Q (.bl (HT.dh ns ms)) H
theorem Ag (hu:X.A.units<cLine):OpR X (CV .Gt) (rGtT X.K):=by
 intro pins s σ H x y v u Q I rx ry h
 obtain ⟨a,b,ns,ms,rfl,rfl,ha,hb,q⟩:=h
 cases rx
 cases ry
 obtain ⟨its,r1,p1,_⟩:=I.tuple ha
 obtain ⟨its2,r2,p2,_⟩:=I.tuple hb
 exact HT.rh p1 p2 (intsAre_of r1:C8 its.toArray.toList ns) (intsAre_of r2:C8 its2.toArray.toList ms) hu ⟨.bl (HT.dh ns ms),H,I,rfl,q⟩
end
open PySem PySem.Spec PyProof.Rows
section
variable  {X:Cx}
theorem rA:MtM X "list.extend" (λx vs H Q=>∃l b xs zs,x = .ref l/\vs=[.ref b]/\H l=some (.lst xs)/\SqT X.K H b zs/\xs.length+zs.length<=BJ/\Q .non (upd H l (.lst (xs++zs)))):=by
 intro pins s σ H x vs v us Q I rx rv h
 obtain ⟨l,b,xs,zs,rfl,rfl,hH,hB,hz,q⟩:=h
 cases rx
 obtain ⟨u,rfl,ru⟩:=rv.one
 cases ru
 obtain ⟨z,its,n,r,hl,e⟩:=I.AW hH
 obtain ⟨its2,r2,t2,_⟩:=I.tuple hB
 have hl2:=r2.length
 refine IU F.slot_list_extend ⟨_,e,rfl⟩ F.entry_list_extend (F.args_list_extend_2 _ _)
  (lF l b its.toArray its2.toArray n (by rw[Bm,Bm];omega)) ⟨e,t2,?_⟩
 refine ⟨.non,_,I.AV (its':=its++its2) hH e (by simp) (r.append r2) ?_,rfl,q⟩
 rw[Bj]
 omega
end
open PySem PySem.Spec PyProof.Rows
section
variable  {X:Cx}
theorem kF {K:Be}(hu:X.A.units+8<cLine)(hK:X.K=K:=by rfl):MtR X "tuple.count" (λx vs H Q=>∃(p b:Addr) (ts:List (Addr×List Int)) (m:List Int),x = .ref p/\vs=[.ref b]/\H p=some (.tup (ts.map λt =>.ref t.1))/\(∀t∈ts,SqT K H t.1 (t.2.map V.int))/\SqT K H b (m.map V.int)/\Q (.int ((ts.map (·.2)).count m:Nat)) H):=by
 subst hK
 intro pins s σ H x vs v us Q I rx rv h
 obtain ⟨p,b,ts,m,rfl,rfl,hp,ht,hb,q⟩:=h
 cases rx
 obtain ⟨u,rfl,ru⟩:=vals1 rv
 cases (show u=BN b from ru)
 obtain ⟨z,its,r,ob,e1,⟨c1,d1⟩,n,s1⟩:=(show ba X.prog X.w H s.heap p (.tup _) from I.hok p _ hp)
 have ei:=gM r
 obtain ⟨cls,dd,data,sl⟩:=ob
 simp only at c1 s1
 subst c1 s1
 refine IU Ft ⟨_,e1,rfl⟩ PySem.F.entry_tuple_count (PySem.F.args_tuple_count_2 _ _) (SeqAt.tuple_countAt p its.toArray n dd sl (.ref b) (kf ts m)) ⟨e1,λy hy =>?_,?_⟩
 ·have hy':y∈its:=by simpa using hy
  rw[ei] at hy'
  obtain ⟨t,hm,rfl⟩:=Bw.mp hy'
  rw[iT I ht hm]
  exact I.eqT (by show X.A.units+1<cLine;omega) (ht t hm) hb
 ·rw[show its.toArray.toList=its from rfl,ei,gN I ht ts (λt h=>h)]
  exact ⟨.int _,H,I.tok _,⟨_,rfl⟩,q⟩
theorem gP {K:Be}(hu:X.A.units+8<cLine)(hK:X.K=K:=by rfl):MtR X "list.count" (λx vs H Q=>∃(p b:Addr) (ts:List (Addr×List Int)) (m:List Int),x = .ref p/\vs=[.ref b]/\H p=some (.lst (ts.map λt =>.ref t.1))/\(∀t∈ts,SqT K H t.1 (t.2.map V.int))/\SqT K H b (m.map V.int)/\Q (.int ((ts.map (·.2)).count m:Nat)) H):=by
 subst hK
 intro pins s σ H x vs v us Q I rx rv h
 obtain ⟨p,b,ts,m,rfl,rfl,hp,ht,hb,q⟩:=h
 cases rx
 obtain ⟨u,rfl,ru⟩:=vals1 rv
 cases (show u=BN b from ru)
 obtain ⟨z,its,n,r,e1⟩:=(show ba X.prog X.w H s.heap p (.lst _) from I.hok p _ hp)
 have ei:=gM r
 refine IU EG ⟨_,e1,rfl⟩ PySem.F.entry_list_count (PySem.F.args_list_count_2 _ _) (SeqAt.list_countAt p its.toArray n none #[] (.ref b) (kf ts m)) ⟨e1,λy hy =>?_,?_⟩
 ·have hy':y∈its:=by simpa using hy
  rw[ei] at hy'
  obtain ⟨t,hm,rfl⟩:=Bw.mp hy'
  rw[iT I ht hm]
  exact I.eqT (by show X.A.units+1<cLine;omega) (ht t hm) hb
 ·rw[show its.toArray.toList=its from rfl,ei,gN I ht ts (λt h=>h)]
  exact ⟨.int _,H,I.tok _,⟨_,rfl⟩,q⟩
end
end L2
set_option maxHeartbeats 800000
namespace K21
open PySem L2
def top (i:Nat):Stmt:=PySem.Challenge.pw_ringfell_k21_whole_ways_walked.main.body.getD i (.Pass ⟨0,0,0,0⟩)
abbrev fL:Stmt:=top 4
abbrev wO:Stmt:=top 5
abbrev fM:Stmt:=top 6
abbrev eO:Stmt:=top 7
abbrev gQ:Stmt:=top 8
abbrev eQ:Stmt:=top 9
abbrev iX:Stmt:=top 10
abbrev rB:Stmt:=top 11
abbrev kG:Stmt:=top 12
abbrev iY:Stmt:=top 13
abbrev eR:Stmt:=top 14
abbrev iZ:Stmt:=top 15
abbrev i3:Stmt:=top 16
abbrev i4:Stmt:=top 17
abbrev eU:Stmt:=top 18
abbrev gR:Stmt:=top 19
abbrev nM:Stmt:=top 20
abbrev rC:Stmt:=top 22
abbrev rD:Stmt:=top 23
abbrev wQ:Stmt:=top 24
abbrev wR:Stmt:=top 25
abbrev rE:Stmt:=top 26
abbrev kH:Stmt:=top 27
abbrev rF:Stmt:=top 28
abbrev nN:Stmt:=top 29
abbrev rG:Stmt:=top 30
abbrev u7:Stmt:=top 31
structure Blt (mg:Str->Option Bh):Prop where
 b_all:mg "all" = none
 b_any:mg "any" = none
 b_enumerate:mg "enumerate" = none
 b_len:mg "len" = none
 b_list:mg "list" = none
 b_max:mg "max" = none
 b_min:mg "min" = none
 b_range:mg "range" = none
 b_reversed:mg "reversed" = none
 b_set:mg "set" = none
 b_sorted:mg "sorted" = none
 b_tuple:mg "tuple" = none
theorem wU:CM "all" = some (.builtin "all"):=by decide +kernel
theorem Ah:CM "any" = some (.builtin "any"):=by decide +kernel
theorem eV:CM "len" = some (.builtin "len"):=by decide +kernel
theorem gn:CM "list" = some (.type "list"):=by decide +kernel
theorem nO:CM "max" = some (.builtin "max"):=by decide +kernel
theorem gU:CM "min" = some (.builtin "min"):=by decide +kernel
theorem wV:CM "range" = some (.type "range"):=by decide +kernel
theorem Ai:CM "set" = some (.type "set"):=by decide +kernel
theorem bE:CM "sorted" = some (.builtin "sorted"):=by decide +kernel
theorem cJ:CM "tuple" = some (.type "tuple"):=by decide +kernel
theorem hu8 {A:B9}{k:Nat}(hr:bL k A):A.units+8<cLine:=Cn (Fm (by decide:8<=64) _) hr.units
abbrev tK:Sp:=λvs H Q _=>∃c m:Int,vs=[.int c,.int m]/\0<=m/\m<=1000/\∀n:Int,Q (.int n) H
@[irreducible] def nP:Sp:=tK
theorem gW {vs:List V}{H:Hp}{Q:VK}{E:XK}:nP vs H Q E↔tK vs H Q E:=by
 delta nP
 exact DN
abbrev tL:Sp:=λvs H Q _=>∃(p:Addr) (m:Int),vs=[.ref p,.int m]/\Pt 1 H p/\0<m/\Wd m/\∀(d:Int) (H':Hp),0<=d->d<m->Bu 1 p H H'->Q (.int d) H'
@[irreducible] def fQ:Sp:=tL
theorem aS {vs:List V}{H:Hp}{Q:VK}{E:XK}:fQ vs H Q E↔tL vs H Q E:=by
 delta fQ
 exact DN
section
variable  {P:BD}{w:Cb}{K:Be}{mg:Str->Option Bh}{base:Heap}{f T:Addr}{fd:Cr}
theorem tM:aO ["pot", "many", "digit"] ["pot", "many"] (aq rD):=⟨rfl,rfl,rfl,by decide +kernel,rfl,by decide +kernel,by decide +kernel⟩
theorem yB (F:Fun K "_law_take" "_law_take" rD f fd)(B:Blt mg):bF P w K mg base CX0 1 f fd ["pot", "many"] fQ:=by
 refine F.ok tM (λvs H Q E h =>?_) (λcdv A outer s H vs Q E hr h =>?_)
 ·obtain ⟨_,_,rfl,_⟩:=aS.mp h
  rfl
 obtain ⟨p,m,rfl,hp,h0,h1,q⟩:=aS.mp h
 refine ⟨_,(@aj _ _ _ _ _ (@aL _ _ 2 _ _ _ _ tM.nd rfl (Or.inl rfl) (@aQ _ _ _ _ _ _ _ _ iO (@ay _ _ _ _ _ _ _ bN (pv 0) ai (λ_ _=>rfl)) (pv 1)) rfl (by first | exact .inl rfl | exact .inr rfl | assumption))
  (@aj _ _ _ _ _ (@m8 _ _ _ _ _ _ (@aQ _ _ _ _ _ _ _ _ wo (@ay _ _ _ _ _ _ _ bN (pv 0) ai (λ_ _=>rfl)) (pv 1)) (zo (pv 0) ai set_list) rfl rfl rfl)
  (@ak _ _ _ (@aM _ _ _ _ (pv 2))))),?_⟩
 have bt:=Bu.refl hp
 obtain ⟨xs,lx,ep⟩:=hp
 match xs,lx with
 | [x],_ =>
  refine ⟨_,rfl,p,_,0,_,rfl,rfl,SqL.of ep,rfl,_,rfl,_,_,rfl,rfl,h0,?_⟩
  refine ⟨_,rfl,p,_,0,_,rfl,rfl,SqL.of ep,rfl,_,rfl,_,_,rfl,rfl,⟨h0,h1⟩,_,rfl,p,_,0,0,rfl,rfl,ep,rfl,?_⟩
  refine ⟨_,rfl,?_⟩
  exact q _ _ (Fz _ (by omega)) (ES _ h0) (bt.put (ys:=[x/m]) rfl)
end
section
variable  {P:BD}{w:Cb}{K:Be}{mg:Str->Option Bh}{base:Heap}{f T:Addr}{fd:Cr}
theorem eX:aO ["cell", "many", "number", "one", "k", "two"] ["cell", "many"] (aq rC):=⟨rfl,rfl,rfl,by decide +kernel,rfl,by decide +kernel,by decide +kernel⟩
theorem yC (F:Fun K "_law_deal" "_law_deal" rC f fd)(B:Blt mg):bF P w K mg base CX0 1 f fd ["cell", "many"] nP:=by
 refine F.ok eX (λvs H Q E h =>?_) (λcdv A outer s H vs Q E hr h =>?_)
 ·obtain ⟨_,_,rfl,_⟩:=gW.mp h
  rfl
 obtain ⟨c,m,rfl,m0,m1,q⟩:=gW.mp h
 refine ⟨_,(@aj _ _ _ _ _ (@bM _ _ _ _ _ _ _ _ (aF AM (pv 0) (@aQ _ _ _ _ _ _ _ _ vz ai ai) (aN _)) (@ak _ _ _ (@aM _ _ _ _ (@aQ _ _ _ _ _ _ _ _ m9 (pv 0) (@aQ _ _ _ _ _ _ _ _ vz ai ai)))) aU)
  (@aj _ _ _ _ _ (@aL _ _ 2 _ _ _ _ eX.nd rfl (Or.inl rfl) ai rfl (by first | exact .inl rfl | exact .inr rfl | assumption))
  (@aj _ _ _ _ _ (@aL _ _ 3 _ _ _ _ eX.nd rfl (Or.inl rfl) (@aQ _ _ _ _ _ _ _ _ da (@aQ _ _ _ _ _ _ _ _ iO (pv 0) ai) ai) rfl (by first | exact .inl rfl | exact .inr rfl | assumption))
  (@aj _ _ _ _ _ (@dA _ _ _ _ _ _ _ _ Dj rfl (dF rfl B.b_range (@aa _ _ _ _ _ (pv 1) ag rfl)) (aB (i:=4) eX.nd rfl (Or.inl rfl))
   (@aj _ _ _ _ _ (@aL _ _ 3 _ _ _ _ eX.nd rfl (Or.inl rfl) (@aQ _ _ _ _ _ _ _ _ iO (@aQ _ _ _ _ _ _ _ _ da (@aQ _ _ _ _ _ _ _ _ da (@aQ _ _ _ _ _ _ _ _ jP (pv 3) ai) (@aQ _ _ _ _ _ _ _ _ jP (@aQ _ _ _ _ _ _ _ _ jP ai (pv 4)) (pv 4))) ai) ai) rfl (by first | exact .inl rfl | exact .inr rfl | assumption))
   (@aj _ _ _ _ _ (@aL _ _ 5 _ _ _ _ eX.nd rfl (Or.inl rfl) (@aQ _ _ _ _ _ _ _ _ iO (@aQ _ _ _ _ _ _ _ _ jP (pv 3) (pv 3)) ai) rfl (by first | exact .inl rfl | exact .inr rfl | assumption))
   (@ak _ _ _ (@aL _ _ 2 _ _ _ _ eX.nd rfl (Or.inl rfl) (@aQ _ _ _ _ _ _ _ _ da (@aQ _ _ _ _ _ _ _ _ jP (pv 2) ai) (@aQ _ _ _ _ _ _ _ _ iO (@aQ _ _ _ _ _ _ _ _ se (pv 5) ai) ai)) rfl (by first | exact .inl rfl | exact .inr rfl | assumption))))) (λ_=>rfl))
  (@ak _ _ _ (@aM _ _ _ _ (pv 2))))))),?_⟩
 refine ⟨_,rfl,_,_,rfl,rfl,⟨by decide,by decide,by decide⟩,_,_,rfl,rfl,_,rfl,xJ (λz =>?_) (λz =>?_)⟩
 ·exact ⟨_,rfl,_,_,rfl,rfl,⟨by decide,by decide,by decide⟩,_,_,rfl,rfl,q _⟩
 refine ⟨_,rfl,_,_,rfl,rfl,(by show (0:Int)<_;decide),_,_,rfl,rfl,?_⟩
 have b1:=Fz c (b:=2147483647) (by decide)
 have b2:=ES c (b:=2147483647) (by decide)
 generalize c%2147483647+16807=o at b1 b2
 refine ⟨_,rfl,m,rfl,by omega,by omega,fY (λk σ H'=>(∃(gr on:Int) (c4 c5:Option V),σ=[some (.int c),some (.int m),some (.int gr),some (.int on),c4,c5])/\H'=H) ⟨⟨_,_,_,_,rfl⟩,rfl⟩ ?_ ?_⟩
 ·rintro k σ H' hk ⟨⟨gr,on,c4,c5,rfl⟩,rfl⟩
  have hk':(k:Int)<m:=by omega
  refine ⟨_,rfl,_,_,rfl,rfl,.inr ⟨by decide,by decide⟩,_,rfl,_,_,rfl,rfl,.inl ⟨by decide,by decide⟩,_,rfl,_,_,rfl,rfl,.inl ⟨by omega,by omega⟩,_,_,rfl,rfl,_,_,rfl,rfl,_,_,rfl,rfl,(by show (0:Int)<_;decide),?_⟩
  have d1:=Fz (on*48271+7919*(0+(k:Int))*(0+(k:Int))+104729) (b:=2147483647) (by decide)
  have d2:=ES (on*48271+7919*(0+(k:Int))*(0+(k:Int))+104729) (b:=2147483647) (by decide)
  generalize (on*48271+7919*(0+(k:Int))*(0+(k:Int))+104729)%2147483647=o2 at d1 d2 ⊢
  refine ⟨_,rfl,_,rfl,_,_,rfl,rfl,.inl ⟨by omega,by omega⟩,_,_,rfl,rfl,(by show (0:Int)<_;decide),?_⟩
  exact ⟨_,rfl,_,_,rfl,rfl,.inr ⟨by decide,by decide⟩,_,rfl,_,_,rfl,rfl,⟨by decide,by decide⟩,_,_,rfl,rfl,(by show (0:Int)<_;decide),_,_,rfl,rfl,⟨_,_,_,_,rfl⟩,rfl⟩
 ·rintro σ H' ⟨⟨gr,on,c4,c5,rfl⟩,rfl⟩
  exact ⟨_,rfl,q _⟩
end
open PySem L2
open Srt
abbrev Tie:=Int×Int×List Int
abbrev tc (t:Tie):List Cell:=[.i t.1,.i t.2.1,.t t.2.2]
theorem dJ {K:Be}{H:Hp}{p:Addr}{t:Tie}(h:RowC K H p (tc t)):∃b,SqT K H p [.int t.1,.int t.2.1,.ref b]/\SqT K H b (t.2.2.map V.int):=yt h
theorem tN {K:Be}{H:Hp}{p b:Addr}{x y:Int}{w:List Int}(h1:SqT K H p [.int x,.int y,.ref b])(h2:SqT K H b (w.map V.int)):RowC K H p (tc (x,y,w)):=yu h1 h2
def dM (K:Be)(H:Hp)(l:Addr)(ks:List (Addr×Tie)):Prop:=SqT K H l (ks.map λk=>V.ref k.1)/\∀k∈ks,RowC K H k.1 (tc k.2)
def isAt (x:Int)(t:Tie):Bool:=decide (t.1=x) || decide (t.2.1=x)
def other (t:Tie)(x:Int):Int:=if t.1=x then t.2.1 else t.1
def aX (t:Tie)(x:Int):List Int:=if t.1=x then t.2.2 else t.2.2.reverse
@[irreducible] def kI (K:Be):Sp:=λvs H Q _=>∃(p:Addr) (t:Tie) (x:Int),vs=[.ref p,.int x]/\RowC K H p (tc t)/\Q (.bl (isAt x t)) H
theorem eY {K:Be}{vs:List V}{H:Hp}{Q:VK}{E:XK}:kI K vs H Q E↔∃(p:Addr) (t:Tie) (x:Int),vs=[.ref p,.int x]/\RowC K H p (tc t)/\Q (.bl (isAt x t)) H:=by
 delta kI
 exact DN
@[irreducible] def jC (K:Be):Sp:=λvs H Q _=>∃(p:Addr) (t:Tie) (x:Int),vs=[.ref p,.int x]/\RowC K H p (tc t)/\Q (.int (other t x)) H
theorem cK {K:Be}{vs:List V}{H:Hp}{Q:VK}{E:XK}:jC K vs H Q E↔∃(p:Addr) (t:Tie) (x:Int),vs=[.ref p,.int x]/\RowC K H p (tc t)/\Q (.int (other t x)) H:=by
 delta jC
 exact DN
@[irreducible] def tO (K:Be):Sp:=λvs H Q _=>∃(p:Addr) (t:Tie) (x:Int),vs=[.ref p,.int x]/\RowC K H p (tc t)/\t.2.2.length<=1000/\∀(q:Addr) (H':Hp),ax H H'->SqT K H' q ((aX t x).map V.int)->Q (.ref q) H'
theorem gp {K:Be}{vs:List V}{H:Hp}{Q:VK}{E:XK}:tO K vs H Q E↔∃(p:Addr) (t:Tie) (x:Int),vs=[.ref p,.int x]/\RowC K H p (tc t)/\t.2.2.length<=1000/\∀(q:Addr) (H':Hp),ax H H'->SqT K H' q ((aX t x).map V.int)->Q (.ref q) H':=by
 delta tO
 exact DN
@[irreducible] def fR (K:Be):Sp:=λvs H Q _=>∃(l:Addr) (ks:List (Addr×Tie)) (x:Int),vs=[.ref l,.int x]/\dM K H l ks/\ks.length<=1000/\∀(p:Addr) (H':Hp),ax H H'->H' p=some (.lst ((ks.filter λk=>isAt x k.2).map λk =>.ref k.1))->Q (.ref p) H'
theorem cX {K:Be}{vs:List V}{H:Hp}{Q:VK}{E:XK}:fR K vs H Q E↔∃(l:Addr) (ks:List (Addr×Tie)) (x:Int),vs=[.ref l,.int x]/\dM K H l ks/\ks.length<=1000/\∀(p:Addr) (H':Hp),ax H H'->H' p=some (.lst ((ks.filter λk=>isAt x k.2).map λk =>.ref k.1))->Q (.ref p) H':=by
 delta fR
 exact DN
section
variable  {P:BD}{w:Cb}{K:Be}{mg:Str->Option Bh}{base:Heap}{f T:Addr}{fd:Cr}
theorem Aj:aO ["tie", "place"] ["tie", "place"] (aq wO):=⟨rfl,rfl,rfl,by decide +kernel,rfl,by decide +kernel,by decide +kernel⟩
theorem Ak (F:Fun K "is_at" "is_at" wO f fd)(B:Blt mg):bF P w K mg base CX0 1 f fd ["tie", "place"] (kI K):=by
 refine F.ok Aj (λvs H Q E h =>?_) (λcdv A outer s H vs Q E hr h =>?_)
 ·obtain ⟨_,_,_,rfl,_⟩:=eY.mp h
  rfl
 obtain ⟨p,t,x,rfl,ht,q⟩:=eY.mp h
 refine ⟨_,(@ak _ _ _ (@aM _ _ _ _ (AA (cR bZ (@ay _ _ _ _ _ _ _ aE (pv 0) ai (λ_ _=>rfl)) (pv 1) (aN _)) (m7 (cR bZ (@ay _ _ _ _ _ _ _ aE (pv 0) ai (λ_ _=>rfl)) (pv 1) (aN _)))))),?_⟩
 obtain ⟨b,h1,h2⟩:=dJ ht
 refine ⟨_,rfl,p,_,0,_,rfl,rfl,h1,rfl,_,rfl,rfl,_,rfl,?_⟩
 by_cases c:t.1=x
 ·rw[decide_eq_true (show V.int t.1=V.int x by rw[c])]
  refine cQ ?_
  have e:isAt x t=true:=by unfold isAt;rw[decide_eq_true c];rfl
  rw[e] at q;exact q
 ·rw[decide_eq_false (show ¬ V.int t.1=V.int x from λz=>c (V.int.inj z))]
  refine bC ⟨_,rfl,p,_,1,_,rfl,rfl,h1,rfl,_,rfl,rfl,?_⟩
  have e:isAt x t=decide (V.int t.2.1=V.int x):=by unfold isAt;rw[decide_eq_false c,Iw];exact decide_eq_decide.mpr ⟨λz=>by rw[z],λz=>V.int.inj z⟩
  rw[e] at q;exact q
end
section
variable  {P:BD}{w:Cb}{K:Be}{mg:Str->Option Bh}{base:Heap}{f T:Addr}{fd:Cr}
theorem rJ:aO ["tie", "place"] ["tie", "place"] (aq iY):=⟨rfl,rfl,rfl,by decide +kernel,rfl,by decide +kernel,by decide +kernel⟩
theorem rK (F:Fun K "other_end" "other_end" iY f fd)(B:Blt mg):bF P w K mg base CX0 1 f fd ["tie", "place"] (jC K):=by
 refine F.ok rJ (λvs H Q E h =>?_) (λcdv A outer s H vs Q E hr h =>?_)
 ·obtain ⟨_,_,_,rfl,_⟩:=cK.mp h
  rfl
 obtain ⟨p,t,x,rfl,ht,q⟩:=cK.mp h
 refine ⟨_,(@aj _ _ _ _ _ (@bM _ _ _ _ _ _ _ _ (aF bZ (@ay _ _ _ _ _ _ _ aE (pv 0) ai (λ_ _=>rfl)) (pv 1) (aN _)) (@ak _ _ _ (@aM _ _ _ _ (@ay _ _ _ _ _ _ _ aE (pv 0) ai (λ_ _=>rfl)))) aU)
  (@ak _ _ _ (@aM _ _ _ _ (@ay _ _ _ _ _ _ _ aE (pv 0) ai (λ_ _=>rfl))))),?_⟩
 obtain ⟨b,h1,h2⟩:=dJ ht
 refine ⟨_,rfl,p,_,0,_,rfl,rfl,h1,rfl,_,rfl,rfl,_,rfl,?_⟩
 unfold other at q
 by_cases c:t.1=x
 ·rw[decide_eq_true (show V.int t.1=V.int x by rw[c])]
  rw[if_pos c] at q
  exact cQ ⟨_,rfl,p,_,1,_,rfl,rfl,h1,rfl,q⟩
 ·rw[decide_eq_false (show ¬ V.int t.1=V.int x from λz=>c (V.int.inj z))]
  rw[if_neg c] at q
  exact bC ⟨_,rfl,p,_,0,_,rfl,rfl,h1,rfl,q⟩
end
section
variable  {P:BD}{w:Cb}{K:Be}{mg:Str->Option Bh}{base:Heap}{f T:Addr}{fd:Cr}
theorem u9:aO ["tie", "place"] ["tie", "place"] (aq kG):=⟨rfl,rfl,rfl,by decide +kernel,rfl,by decide +kernel,by decide +kernel⟩
theorem va (F:Fun K "way_from" "way_from" kG f fd)(B:Blt mg):bF P w K mg base CX0 1 f fd ["tie", "place"] (tO K):=by
 refine F.ok u9 (λvs H Q E h =>?_) (λcdv A outer s H vs Q E hr h =>?_)
 ·obtain ⟨_,_,_,rfl,_⟩:=gp.mp h
  rfl
 obtain ⟨p,t,x,rfl,ht,lz,q⟩:=gp.mp h
 refine ⟨_,(@aj _ _ _ _ _ (@bM _ _ _ _ _ _ _ _ (aF bZ (@ay _ _ _ _ _ _ _ aE (pv 0) ai (λ_ _=>rfl)) (pv 1) (aN _)) (@ak _ _ _ (@aM _ _ _ _ (@ay _ _ _ _ _ _ _ aE (pv 0) ai (λ_ _=>rfl)))) aU)
  (@ak _ _ _ (@aM _ _ _ _ (mG hr.hd rfl B.b_tuple rfl B.b_reversed (@ay _ _ _ _ _ _ _ aE (pv 0) ai (λ_ _=>rfl)))))),?_⟩
 obtain ⟨b,h1,h2⟩:=dJ ht
 refine ⟨_,rfl,p,_,0,_,rfl,rfl,h1,rfl,_,rfl,rfl,_,rfl,?_⟩
 unfold aX at q
 by_cases c:t.1=x
 ·rw[decide_eq_true (show V.int t.1=V.int x by rw[c])]
  simp only[if_pos c] at q
  exact cQ ⟨_,rfl,p,_,2,_,rfl,rfl,h1,rfl,q b H (ax.refl _) h2⟩
 ·rw[decide_eq_false (show ¬ V.int t.1=V.int x from λz=>c (V.int.inj z))]
  simp only[if_neg c] at q
  exact bC ⟨_,rfl,p,_,2,_,rfl,rfl,h1,rfl,b,_,rfl,h2,by rw[Bg];exact lz,λl hl=>q l _ (ae hl _) (by rw[Fj];exact SqT.of af)⟩
end
section
variable  {P:BD}{w:Cb}{K:Be}{mg:Str->Option Bh}{base:Heap}{f T:Addr}{fd:Cr}
theorem nQ:aO ["ties", "place"] ["ties", "place"] (aq fM):=⟨rfl,rfl,rfl,by decide +kernel,rfl,by decide +kernel,by decide +kernel⟩
theorem eZ:(["tie", "place"]:List Str).Nodup:=by decide +kernel
theorem nR (F:Fun K "beside_ties" "beside_ties" fM f fd)(B:Blt mg)(cIsAt:Cal P w K mg base 1 "is_at" ["tie", "place"] (kI K)):bF P w K mg base CX0 2 f fd ["ties", "place"] (fR K):=by
 refine F.ok nQ (λvs H Q E h =>?_) (λcdv A outer s H vs Q E hr h =>?_)
 ·obtain ⟨_,_,_,rfl,_⟩:=cX.mp h
  rfl
 obtain ⟨l,ks,x,rfl,hl,lz,q⟩:=cX.mp h
 refine ⟨_,(@ak _ _ _ (@aM _ _ _ _ (bV ["tie", "place"] [none,some 1] rfl (@cA _ _ _ _ (pv 0)) rfl (λ_ _ _ _ _=>(aB (i:=0) eZ rfl (Or.inl rfl))) (λ_ _ _ _ _=>(d9 (fA (aH cIsAt hr (by decide) rfl (@aa _ _ _ _ _ (pv 0) (@aa _ _ _ _ _ (pv 1) ag rfl) rfl))))) (λ_ _ _ _ _=>(pv 0))))),?_⟩
 refine ⟨_,rfl,l,rfl,⟨_,hl.1⟩,eG (λk:Addr×Tie=>V.ref k.1) (λk=>V.ref k.1) (λk=>isAt x k.2) ks hl.1 (BS lz (by decide)) (λk hk R r=>⟨_,rfl,_,rfl,eY.mpr ⟨k.1,k.2,x,rfl,hl.2 k hk,_,rfl,r⟩⟩) (λk hk _ R r=>⟨_,rfl,r⟩) λp hp=>q p _ (ae hp _) af⟩
end
open PySem L2
open Srt
def PJ:Addr:=106
def psJ:Array Bh:=yr 53 48 "joined_tie.<locals>.<lambda>"
theorem nmJ {pos:Pos}{q:Str}(hl:pos.line=53)(hc:pos.col=48)(hq:q = "joined_tie.<locals>.<lambda>"):Nm psJ pos q:=by
 subst hq
 exact Aa hl hc
theorem dM.same {K:Be}{H H':Hp}{l:Addr}{ks:List (Addr×Tie)}(s:ax H H')(h:dM K H l ks):dM K H' l ks:=⟨ah s h.1,λk hk=>az s (h.2 k hk)⟩
def jn (u v:Tie)(x:Int):Tie:=(other u x,other v x,if other u x=other v x then (if HT.lexLt ((aX u (other u x))++[x]++aX v x).reverse ((aX u (other u x))++[x]++aX v x)=true then ((aX u (other u x))++[x]++aX v x).reverse else (aX u (other u x))++[x]++aX v x) else (aX u (other u x))++[x]++aX v x)
theorem wW {K:Be}{H:Hp}{Q:VK}{a b:Addr}{xs ys:List V}(ha:SqT K H a xs)(hb:SqT K H b ys)(hy:ys≠[])(hz:xs.length+ys.length<=BJ)(q:∀p H',ax H H'->SqT K H' p (xs++ys)->Q (.ref p) H'):y3 K (.ref a) (.ref b) H Q :=
 ⟨a,b,xs,ys,rfl,rfl,ha,hb,hy,hz,λe=>by subst e;exact q b H (ax.refl _) hb,λ_ p hp=>q p _ (ae hp _) (SqT.of af)⟩
theorem y7 {K:Be}{H:Hp}{Q:VK}{a b:Addr}{xs ys:List V}(ha:SqT K H a xs)(hb:SqT K H b ys)(hz:xs.length+ys.length<=BJ)(q:∀p H',ax H H'->SqT K H' p (xs++ys)->Q (.ref p) H'):y6 K (.ref a) (.ref b) H Q :=
 ⟨a,b,xs,ys,rfl,rfl,ha,hb,hz,λe=>by subst e;exact q b H (ax.refl _) hb,λe=>by subst e;exact q a H (ax.refl _) (by rw[Cf];exact ha),λ_ _ p hp=>q p _ (ae hp _) (SqT.of af)⟩
theorem di (t:Tie)(x:Int):(aX t x).length=t.2.2.length:=by
 unfold aX
 by_cases c:t.1=x
 ·rw[if_pos c]
 ·rw[if_neg c,CZ]
theorem small {n:Nat}(h:n<=1000):n<=BJ:=BS h (by decide)
theorem fS:1<=BJ:=small (by decide)
theorem dC:3<=BJ:=small (by decide)
@[irreducible] def nU (K:Be):Sp:=λvs H Q _=>∃(l:Addr) (ks:List (Addr×Tie)) (x:Int) (u v:Addr×Tie),vs=[.ref l,.int x]/\dM K H l ks/\ks.length<=1000/\H PJ=some (.tbl psJ)/\(ks.filter λk=>isAt x k.2)=[u,v]/\u.2.2.2.length<=400/\v.2.2.2.length<=400/\∀(p:Addr) (H':Hp) (y z:Tie),ax H H'->[y,z].Perm [u.2,v.2]->other y x<=other z x->RowC K H' p (tc (jn y z x))->Q (.ref p) H'
theorem gX {K:Be}{vs:List V}{H:Hp}{Q:VK}{E:XK}:nU K vs H Q E↔∃(l:Addr) (ks:List (Addr×Tie)) (x:Int) (u v:Addr×Tie),vs=[.ref l,.int x]/\dM K H l ks/\ks.length<=1000/\H PJ=some (.tbl psJ)/\(ks.filter λk=>isAt x k.2)=[u,v]/\u.2.2.2.length<=400/\v.2.2.2.length<=400/\∀(p:Addr) (H':Hp) (y z:Tie),ax H H'->[y,z].Perm [u.2,v.2]->other y x<=other z x->RowC K H' p (tc (jn y z x))->Q (.ref p) H':=by
 delta nU
 exact DN
section
variable  {P:BD}{w:Cb}{K:Be}{mg:Str->Option Bh}{base:Heap}{f T:Addr}{fd:Cr}
theorem ck:aO ["ties", "place", "pair", "one", "other", "way"] ["ties", "place"] (aq eR):=⟨rfl,rfl,rfl,by decide +kernel,rfl,by decide +kernel,by decide +kernel⟩
theorem pX {c:Addr}(F:yq K "joined_tie" "joined_tie" eR f fd c PJ)(B:Blt mg)(cOtherEnd:Cal P w K mg base 1 "other_end" ["tie", "place"] (jC K))(cBesideTies:Cal P w K mg base 2 "beside_ties" ["ties", "place"] (fR K))(cWayFrom:Cal P w K mg base 1 "way_from" ["tie", "place"] (tO K)):bF P w K mg base CX0 5 f fd ["ties", "place"] (nU K):=by
 refine F.ok ck (λvs H Q E h =>?_) (λA outer s H vs Q E hr h =>?_)
 ·obtain ⟨_,_,_,_,_,rfl,_⟩:=gX.mp h
  rfl
 obtain ⟨l,ks,x,u,v,rfl,hl,lz,hP,hf,lu,lv,q⟩:=gX.mp h
 refine ⟨_,(@aj _ _ _ _ _ (@aL _ _ 2 _ _ _ _ ck.nd rfl (Or.inl rfl) (nK (α:=Tie) (N':=["tie", "place"]) (ix:=[none,some 1]) (k:=1) rfl B.b_sorted bE (aH cBesideTies hr (by decide) rfl (@aa _ _ _ _ _ (pv 0) (@aa _ _ _ _ _ (pv 1) ag rfl) rfl)) rfl F.hd (nmJ rfl rfl (by first | rfl | kernel_rfl)) (by decide) tD hr (d8.of rfl) rfl rfl rfl rfl rfl rfl (λ_ _ _ _ _ _=>rfl) (λ_ _ _ _ _ hr=>(aH cOtherEnd hr (by decide) rfl (@aa _ _ _ _ _ (pv 0) (@aa _ _ _ _ _ (pv 1) ag rfl) rfl)))) rfl (by first | exact .inl rfl | exact .inr rfl | assumption))
  (@aj _ _ _ _ _ (@aL _ _ 3 _ _ _ _ ck.nd rfl (Or.inl rfl) (aH cOtherEnd hr (by decide) rfl (@aa _ _ _ _ _ (@ay _ _ _ _ _ _ _ bN (pv 2) ai (λ_ _=>rfl)) (@aa _ _ _ _ _ (pv 1) ag rfl) rfl)) rfl (by first | exact .inl rfl | exact .inr rfl | assumption))
  (@aj _ _ _ _ _ (@aL _ _ 4 _ _ _ _ ck.nd rfl (Or.inl rfl) (aH cOtherEnd hr (by decide) rfl (@aa _ _ _ _ _ (@ay _ _ _ _ _ _ _ bN (pv 2) ai (λ_ _=>rfl)) (@aa _ _ _ _ _ (pv 1) ag rfl) rfl)) rfl (by first | exact .inl rfl | exact .inr rfl | assumption))
  (@aj _ _ _ _ _ (@aL _ _ 5 _ _ _ _ ck.nd rfl (Or.inl rfl) (@aQ _ _ _ _ _ _ _ _ pE (@aQ _ _ _ _ _ _ _ _ kh (aH cWayFrom hr (by decide) rfl (@aa _ _ _ _ _ (@ay _ _ _ _ _ _ _ bN (pv 2) ai (λ_ _=>rfl)) (@aa _ _ _ _ _ (pv 3) ag rfl) rfl)) (@bh _ _ _ _ _ (@aa _ _ _ _ _ (pv 1) ag rfl))) (aH cWayFrom hr (by decide) rfl (@aa _ _ _ _ _ (@ay _ _ _ _ _ _ _ bN (pv 2) ai (λ_ _=>rfl)) (@aa _ _ _ _ _ (pv 1) ag rfl) rfl))) rfl (by first | exact .inl rfl | exact .inr rfl | assumption))
  (@aj _ _ _ _ _ (@bM _ _ _ _ _ _ _ _ (aF bZ (pv 3) (pv 4) (aN _)) (@ak _ _ _ (@aL _ _ 5 _ _ _ _ ck.nd rfl (Or.inl rfl) (aD (qV rfl (hu8 hr)) rfl B.b_min gU (@aa _ _ _ _ _ (pv 5) (@aa _ _ _ _ _ (mG hr.hd rfl B.b_tuple rfl B.b_reversed (pv 5)) ag rfl) rfl)) rfl (by first | exact .inl rfl | exact .inr rfl | assumption))) aU)
  (@ak _ _ _ (@aM _ _ _ _ (@bh _ _ _ _ _ (@aa _ _ _ _ _ (pv 3) (@aa _ _ _ _ _ (pv 4) (@aa _ _ _ _ _ (pv 5) ag rfl) rfl) rfl))))))))),?_⟩
 have mem:∀t∈[u,v],t∈ks:=λt ht=>(BX.mp (hf ▸ ht)).1
 refine ⟨_,rfl,_,rfl,cX.mpr ⟨l,ks,x,rfl,hl,lz,λp H1 s1 ep =>?_⟩⟩
 rw[hf] at ep
 refine ⟨p,[u,v],λt=>other t x,rfl,.inl (SqL.of ep),s1 _ _ hP,λt ht H' sb=>⟨_,rfl,_,rfl,cK.mpr ⟨t.1,t.2,x,rfl,yv (s1 _ _ hP) sb (az s1 (hl.2 t (mem t ht))),rfl,ax.refl _⟩⟩,λlp out H2 s2 hn pm pw =>?_⟩
 obtain ⟨y,z,rfl⟩:∃y z,out=[y,z]:=by
  have:=pm.length_eq
  match out,this with
  | [y,z],_=>exact ⟨y,z,rfl⟩
 have my:y∈ks:=mem y (pm.mem_iff.mp Br)
 have mz:z∈ks:=mem z (pm.mem_iff.mp (BG _ Br))
 have lw:∀t∈[u,v],t.2.2.2.length<=400:=λt ht=>by
  rcases BR.mp ht with e | ht
  ·rw[e];exact lu
  ·rw[Bz.mp ht];exact lv
 have ly:=lw y (pm.mem_iff.mp Br)
 have lz':=lw z (pm.mem_iff.mp (BG _ Br))
 have pm2:[y.2,z.2].Perm [u.2,v.2]:=pm.map λt:Addr×Tie=>t.2
 have le:other y.2 x<=other z.2 x:=(DR.mp pw).1 z Br
 have s3:ax H (upd H2 lp (.lst ([y,z].map λt=>V.ref t.1))):=(s1.trans s2).trans (ae hn _)
 have el:(upd H2 lp (.lst ([y,z].map λt=>V.ref t.1))) lp=some (.lst [.ref y.1,.ref z.1]):=af
 generalize upd H2 lp (.lst ([y,z].map λt=>V.ref t.1))=H3 at s3 el
 have hy:=az s3 (hl.2 y my)
 have hz:=az s3 (hl.2 z mz)
 refine ⟨_,rfl,lp,_,0,_,rfl,rfl,SqL.of el,rfl,_,rfl,cK.mpr ⟨y.1,y.2,x,rfl,hy,?_⟩⟩
 refine ⟨_,rfl,lp,_,1,_,rfl,rfl,SqL.of el,rfl,_,rfl,cK.mpr ⟨z.1,z.2,x,rfl,hz,?_⟩⟩
 refine ⟨_,rfl,lp,_,0,_,rfl,rfl,SqL.of el,rfl,_,rfl,gp.mpr ⟨y.1,y.2,other y.2 x,rfl,hy,by omega,λq1 H4 s4 w1 =>?_⟩⟩
 refine ⟨_,rfl,fS,λq2 n2=>wW (ah (ae n2 _) w1) (SqT.of af) (by simp) (small (by rw[Bg,di];simp only[Bs,Cq];omega)) λq3 H6 s6 w3 =>?_⟩
 have s5:ax H3 H6:=(s4.trans (ae n2 _)).trans s6
 refine ⟨_,rfl,lp,_,1,_,rfl,rfl,SqL.of (s5 _ _ el),rfl,_,rfl,gp.mpr ⟨z.1,z.2,x,rfl,az s5 hz,by omega,λq4 H7 s7 w4 =>?_⟩⟩
 refine y7 (ah s7 w3) w4 (small (by rw[Bj,Bg,Bg,di,di];simp only[Bs,Cq];omega)) λq5 H8 s8 w5 =>?_
 have s9:ax H H8:=((s3.trans s5).trans s7).trans s8
 have ew:(aX y.2 (other y.2 x)).map V.int++[V.int x]++(aX z.2 x).map V.int=((aX y.2 (other y.2 x))++[x]++aX z.2 x).map V.int:=by rw[BB,BB];rfl
 rw[ew] at w5
 have lW:((aX y.2 (other y.2 x))++[x]++aX z.2 x).length<=1000:=by rw[Bj,Bj,di,di];simp only[Bs,Cq];omega
 refine ⟨_,rfl,_,rfl,rfl,_,rfl,?_⟩
 by_cases e:other y.2 x=other z.2 x
 ·rw[decide_eq_true (show V.int (other y.2 x)=V.int (other z.2 x) by rw[e])]
  refine cQ ⟨_,rfl,_,rfl,q5,_,rfl,w5,by rw[Bg];exact lW,λq6 n6=>⟨q5,q6,_,((aX y.2 (other y.2 x))++[x]++aX z.2 x).reverse,rfl,ah (ae n6 _) w5,by rw[Fj];exact SqT.of af,λlt =>?_,λnl =>?_⟩⟩
  ·refine ⟨_,rfl,_,rfl,_,rfl,dC,λp np=>q p _ y.2 z.2 ((s9.trans (ae n6 _)).trans (ae np _)) pm2 le ?_⟩
   have hj:jn y.2 z.2 x=(other y.2 x,other z.2 x,((aX y.2 (other y.2 x))++[x]++aX z.2 x).reverse):=by unfold jn;rw[if_pos e,if_pos lt]
   rw[hj]
   exact tN (SqT.of af) (ah (ae np _) (by rw[Fj];exact SqT.of af))
  ·refine ⟨_,rfl,_,rfl,_,rfl,dC,λp np=>q p _ y.2 z.2 ((s9.trans (ae n6 _)).trans (ae np _)) pm2 le ?_⟩
   have hj:jn y.2 z.2 x=(other y.2 x,other z.2 x,(aX y.2 (other y.2 x))++[x]++aX z.2 x):=by unfold jn;rw[if_pos e,nl];rfl
   rw[hj]
   exact tN (SqT.of af) (ah ((ae n6 _).trans (ae np _)) w5)
 ·rw[decide_eq_false (show ¬ V.int (other y.2 x)=V.int (other z.2 x) from λt=>e (V.int.inj t))]
  refine bC ⟨_,rfl,_,rfl,_,rfl,dC,λp np=>q p _ y.2 z.2 (s9.trans (ae np _)) pm2 le ?_⟩
  have hj:jn y.2 z.2 x=(other y.2 x,other z.2 x,(aX y.2 (other y.2 x))++[x]++aX z.2 x):=by unfold jn;rw[if_neg e]
  rw[hj]
  exact tN (SqT.of af) (ah (ae np _) w5)
end
open PySem L2
open Srt
def btw (a b:Int)(t:Tie):Bool:=decide ((t.1,t.2.1)=(if b<a then b else a,if b>a then b else a))
def word (ts:List Tie)(x:Int):Option Str:=if (ts.filter (isAt x)).any (λt=>decide (t.1=t.2.1))=true then some "loop" else if (ts.filter (isAt x)).length<=1 then some "lone" else if (ts.filter (isAt x)).length=2 then some "two" else none
def mM:Option Str->V
 | none =>.non
 | some z =>.str z
@[irreducible] def gq (K:Be):Sp:=λvs H Q _=>∃(l:Addr) (ks:List (Addr×Tie)) (x y:Int),vs=[.ref l,.int x,.int y]/\dM K H l ks/\ks.length<=1000/\∀(p:Addr) (H':Hp),ax H H'->H' p=some (.lst ((ks.filter λk=>btw x y k.2).map λk =>.ref k.1))->Q (.ref p) H'
theorem dD {K:Be}{vs:List V}{H:Hp}{Q:VK}{E:XK}:gq K vs H Q E↔∃(l:Addr) (ks:List (Addr×Tie)) (x y:Int),vs=[.ref l,.int x,.int y]/\dM K H l ks/\ks.length<=1000/\∀(p:Addr) (H':Hp),ax H H'->H' p=some (.lst ((ks.filter λk=>btw x y k.2).map λk =>.ref k.1))->Q (.ref p) H':=by
 delta gq
 exact DN
@[irreducible] def kJ (K:Be):Sp:=λvs H Q _=>∃(l:Addr) (ks:List (Addr×Tie)) (x:Int),vs=[.ref l,.int x]/\dM K H l ks/\ks.length<=1000/\∀(H':Hp),ax H H'->Q (mM (word (ks.map (·.2)) x)) H'
theorem e7 {K:Be}{vs:List V}{H:Hp}{Q:VK}{E:XK}:kJ K vs H Q E↔∃(l:Addr) (ks:List (Addr×Tie)) (x:Int),vs=[.ref l,.int x]/\dM K H l ks/\ks.length<=1000/\∀(H':Hp),ax H H'->Q (mM (word (ks.map (·.2)) x)) H':=by
 delta kJ
 exact DN
theorem cv:2<=BJ:=small (by decide)
section
variable  {P:BD}{w:Cb}{K:Be}{mg:Str->Option Bh}{base:Heap}{f T:Addr}{fd:Cr}
theorem gG:aO ["ties", "one", "other", "pair"] ["ties", "one", "other"] (aq eO):=⟨rfl,rfl,rfl,by decide +kernel,rfl,by decide +kernel,by decide +kernel⟩
theorem fc:(["tie", "pair"]:List Str).Nodup:=by decide +kernel
theorem lJ (F:Fun K "ties_between" "ties_between" eO f fd)(B:Blt mg):bF P w K mg base CX0 1 f fd ["ties", "one", "other"] (gq K):=by
 refine F.ok gG (λvs H Q E h =>?_) (λcdv A outer s H vs Q E hr h =>?_)
 ·obtain ⟨_,_,_,_,rfl,_⟩:=dD.mp h
  rfl
 obtain ⟨l,ks,x,y,rfl,hl,lz,q⟩:=dD.mp h
 refine ⟨_,(@aj _ _ _ _ _ (@aL _ _ 3 _ _ _ _ gG.nd rfl (Or.inr rfl) (@bh _ _ _ _ _ (@aa _ _ _ _ _ (aD (cY rfl) rfl B.b_min gU (@aa _ _ _ _ _ (pv 1) (@aa _ _ _ _ _ (pv 2) ag rfl) rfl)) (@aa _ _ _ _ _ (aD (fZ rfl) rfl B.b_max nO (@aa _ _ _ _ _ (pv 1) (@aa _ _ _ _ _ (pv 2) ag rfl) rfl)) ag rfl) rfl)) rfl (by first | exact .inl rfl | exact .inr rfl | assumption))
  (@ak _ _ _ (@aM _ _ _ _ (bV ["tie", "pair"] [none,some 3] rfl (@cA _ _ _ _ (pv 0)) rfl (λ_ _ _ _ _=>(aB (i:=0) fc rfl (Or.inl rfl))) (λ_ _ _ _ _=>(d9 (aF (wJ (K:=K) (hu8 hr)) (@bh _ _ _ _ _ (@aa _ _ _ _ _ (@ay _ _ _ _ _ _ _ (bq (K:=K)) (pv 0) ai (λ_ _=>rfl)) (@aa _ _ _ _ _ (@ay _ _ _ _ _ _ _ (bq (K:=K)) (pv 0) ai (λ_ _=>rfl)) ag rfl) rfl)) (pv 1) (aN _)))) (λ_ _ _ _ _=>(pv 0)))))),?_⟩
 refine ⟨_,rfl,_,rfl,_,_,rfl,_,rfl,_,rfl,_,_,rfl,cv,λpp np =>?_⟩
 have s1:=ae np (.tup [.int (if y<x then y else x),.int (if y>x then y else x)])
 have ep:(upd H pp (.tup [.int (if y<x then y else x),.int (if y>x then y else x)])) pp=_:=af
 refine ⟨_,rfl,l,rfl,⟨_,ah s1 hl.1⟩,pT (λk:Addr×Tie=>V.ref k.1) (λk=>V.ref k.1) (λk=>btw x y k.2) ks (ah s1 hl.1) (small lz) (λk hk H2 s2 R r =>?t) (λk hk _ H2 s2 R r=>⟨_,rfl,r⟩) λH2 p s2 hp=>q p _ ((s1.trans s2).trans (ae hp _)) af⟩
 obtain ⟨b,h1,h2⟩:=dJ (az (s1.trans s2) (hl.2 k hk))
 refine ⟨_,rfl,k.1,_,0,_,rfl,rfl,h1,rfl,_,rfl,k.1,_,1,_,rfl,rfl,h1,rfl,cv,λp3 n3=>⟨_,rfl,p3,pp,[.i k.2.1,.i k.2.2.1],[.i (if y<x then y else x),.i (if y>x then y else x)],rfl,rfl,⟨_,SqT.of af,rfl,rfl,trivial⟩,⟨_,SqT.of ((s2.trans (ae n3 _)) _ _ ep),rfl,rfl,trivial⟩,_,rfl,?_⟩⟩
 have e:decide ([Cell.i k.2.1,Cell.i k.2.2.1]=[Cell.i (if y<x then y else x),Cell.i (if y>x then y else x)])=btw x y k.2:=by
  unfold btw
  exact decide_eq_decide.mpr (by simp[IZ])
 rw[e]
 exact r _ (ae n3 _)
end
section
variable  {P:BD}{w:Cb}{K:Be}{mg:Str->Option Bh}{base:Heap}{f T:Addr}{fd:Cr}
theorem jk:aO ["ties", "place", "beside"] ["ties", "place"] (aq gQ):=⟨rfl,rfl,rfl,by decide +kernel,rfl,by decide +kernel,by decide +kernel⟩
theorem jv:(["tie"]:List Str).Nodup:=by decide +kernel
theorem pY (F:Fun K "place_word" "place_word" gQ f fd)(B:Blt mg)(cBesideTies:Cal P w K mg base 2 "beside_ties" ["ties", "place"] (fR K)):bF P w K mg base CX0 3 f fd ["ties", "place"] (kJ K):=by
 refine F.ok jk (λvs H Q E h =>?_) (λcdv A outer s H vs Q E hr h =>?_)
 ·obtain ⟨_,_,_,rfl,_⟩:=e7.mp h
  rfl
 obtain ⟨l,ks,x,rfl,hl,lz,q⟩:=e7.mp h
 refine ⟨_,(@aj _ _ _ _ _ (@aL _ _ 2 _ _ _ _ jk.nd rfl (Or.inl rfl) (aH cBesideTies hr (by decide) rfl (@aa _ _ _ _ _ (pv 0) (@aa _ _ _ _ _ (pv 1) ag rfl) rfl)) rfl (by first | exact .inl rfl | exact .inr rfl | assumption))
  (@aj _ _ _ _ _ (@bM _ _ _ _ _ _ _ _ (fA (aD (wq rfl) rfl B.b_any Ah (@aa _ _ _ _ _ (bV ["tie"] [none] rfl (@fX _ _ _ _ (pv 2)) rfl (λ_ _ _ _ _=>(aB (i:=0) jv rfl (Or.inl rfl))) (λ_ _ _ _ _=>fE) (λ_ _ _ _ _=>(cR bZ (@ay _ _ _ _ _ _ _ (bq (K:=K)) (pv 0) ai (λ_ _=>rfl)) (@ay _ _ _ _ _ _ _ (bq (K:=K)) (pv 0) ai (λ_ _=>rfl)) (aN _)))) ag rfl))) (@ak _ _ _ (@aM _ _ _ _ dX)) aU)
  (@aj _ _ _ _ _ (@bM _ _ _ _ _ _ _ _ (aF vB (aD bz rfl B.b_len eV (@aa _ _ _ _ _ (pv 2) ag rfl)) ai (aN _)) (@ak _ _ _ (@aM _ _ _ _ dX)) aU)
  (@aj _ _ _ _ _ (@bM _ _ _ _ _ _ _ _ (aF bZ (aD bz rfl B.b_len eV (@aa _ _ _ _ _ (pv 2) ag rfl)) ai (aN _)) (@ak _ _ _ (@aM _ _ _ _ dX)) aU)
  (@ak _ _ _ (@aM _ _ _ _ vo)))))),?_⟩
 refine ⟨_,rfl,_,rfl,cX.mpr ⟨l,ks,x,rfl,hl,lz,λp H1 s1 ep =>?_⟩⟩
 obtain ⟨bs,eb⟩:∃bs,bs=ks.filter λk=>isAt x k.2:=⟨_,rfl⟩
 rw[<- eb] at ep
 have lb:bs.length<=1000:=by rw[eb];exact BS (DP _ _) lz
 have rw':∀k∈bs,RowC K H1 k.1 (tc k.2):=λk hk=>az s1 (hl.2 k (BX.mp (eb ▸ hk)).1)
 have eg:((bs.filter λ_=>true).map λk=>V.bl (decide (k.2.1=k.2.2.1)))=(bs.map λk=>decide (k.2.1=k.2.2.1)).map V.bl:=by rw[Dl.mpr (λ_ _=>rfl),BP];rfl
 have e0:(ks.map (·.2)).filter (isAt x)=bs.map (·.2):=by rw[eb,Es];rfl
 have ea:((ks.map (·.2)).filter (isAt x)).any (λt=>decide (t.1=t.2.1))=(bs.map λk=>decide (k.2.1=k.2.2.1)).any id:=by rw[e0,JV,JV];rfl
 have el:((ks.map (·.2)).filter (isAt x)).length=bs.length:=by rw[e0,Bg]
 have q':∀H',ax H1 H'->Q (mM (word (ks.map (·.2)) x)) H':=λH' s=>q H' (s1.trans s)
 unfold word at q'
 rw[ea,el] at q'
 refine ⟨_,rfl,p,rfl,⟨_,SqL.of ep⟩,df (λk:Addr×Tie=>V.ref k.1) (λk=>V.bl (decide (k.2.1=k.2.2.1))) (λ_=>true) bs (SqL.of ep) (small lb) (λk hk R r=>r) (λk hk _ R r =>?e) λla hn =>?c⟩
 case e =>
  obtain ⟨b,h1,h2⟩:=dJ (rw' k hk)
  refine ⟨_,rfl,k.1,_,0,_,rfl,rfl,h1,rfl,_,rfl,k.1,_,1,_,rfl,rfl,h1,rfl,rfl,?_⟩
  rw[show decide (V.int k.2.1=V.int k.2.2.1)=decide (k.2.1=k.2.2.1) from decide_eq_decide.mpr ⟨λz=>V.int.inj z,λz=>by rw[z]⟩]
  exact r
 case c =>
  rw[eg]
  have s2:=ae hn (.lst ((bs.map λk=>decide (k.2.1=k.2.2.1)).map V.bl))
  refine ⟨la,_,rfl,SqL.of af,?_⟩
  have q2:=q' _ s2
  have ep2:=s2 _ _ ep
  generalize (bs.map λk=>decide (k.2.1=k.2.2.1)).any id=c1 at q2
  refine ⟨_,rfl,?_⟩
  cases c1 with
  | true=>exact cQ q2
  | false =>
   rw[if_neg Bo] at q2
   refine bC ⟨_,rfl,p,_,rfl,.inl (SqL.of ep2),_,_,rfl,rfl,_,rfl,?_⟩
   rw[Bg]
   by_cases c2:bs.length<=1
   ·rw[if_pos c2] at q2
    rw[decide_eq_true (show ((bs.length:Nat):Int)<=1 by omega)]
    exact cQ q2
   ·rw[if_neg c2] at q2
    rw[decide_eq_false (show ¬ ((bs.length:Nat):Int)<=1 by omega)]
    refine bC ⟨_,rfl,p,_,rfl,.inl (SqL.of ep2),rfl,_,rfl,?_⟩
    rw[Bg]
    by_cases c3:bs.length=2
    ·rw[if_pos c3] at q2
     rw[decide_eq_true (show V.int ((bs.length:Nat):Int)=V.int 2 by rw[c3];rfl)]
     exact cQ q2
    ·rw[if_neg c3] at q2
     rw[decide_eq_false (show ¬ V.int ((bs.length:Nat):Int)=V.int 2 from λz=>c3 (by have:=V.int.inj z;omega))]
     exact bC q2
end
open PySem L2
open Srt
def leT (a b:Tie):Bool := !HT.lexLt (bj (tc b)) (bj (tc a))
def dN (l:List Tie):List Tie:=l.mergeSort leT
theorem mN (a b c:Tie)(h1:leT a b=true)(h2:leT b c=true):leT a c=true:=by
 unfold leT at *
 rw[Et] at *
 cases h:HT.lexLt (bj (tc c)) (bj (tc a)) with
 | false=>rfl
 | true =>
  rcases nA _ (bj (tc b)) _ h with z | z
  ·rw[z] at h2;cases h2
  ·rw[z] at h1;cases h1
theorem mO (a b:Tie):(leT a b || leT b a)=true:=by
 unfold leT
 cases h:HT.lexLt (bj (tc b)) (bj (tc a)) with
 | false=>rfl
 | true =>
  cases h2:HT.lexLt (bj (tc a)) (bj (tc b)) with
  | false=>simp
  | true=>have:=lex_trans _ _ _ h h2;rw[lex_irrefl] at this;cases this
theorem wX {a b:Tie}(h:bj (tc a)=bj (tc b)):a=b:=by
 have:=fK (cs:=tc a) (ds:=tc b) ⟨rfl,rfl,rfl,trivial⟩ h
 obtain ⟨a1,a2,a3⟩:=a
 obtain ⟨b1,b2,b3⟩:=b
 simp only[tc,E2,Cell.i.injEq,Cell.t.injEq,and_true] at this
 obtain ⟨rfl,rfl,rfl⟩:=this
 rfl
theorem dO {l m:List Tie}(p:l.Perm m)(s:l.Pairwise λa b=>HT.lexLt (bj (tc b)) (bj (tc a))=false):l=dN m:=by
 refine dr (λt=>bj (tc t)) (p.trans (Dm m leT).symm) (λa _ b _ h=>wX h) s ?_
 refine (DY mN mO m).imp λ{a b} h =>?_
 unfold leT at h
 rwa [Et] at h
theorem kK:Alike (λcs=>∃t:Tie,cs=tc t):=⟨λa b ⟨t,e1⟩ ⟨u,e2⟩=>by subst e1 e2;exact ⟨rfl,rfl,rfl,trivial⟩,.inl λa ⟨t,e⟩=>⟨t.1,by rw[e];rfl⟩⟩
theorem yD:∀l:List V,ie l none (some 2)=l.take 2:=λl=>by
 match l with
 | []=>rfl
 | [a]=>rfl
 | a :: b :: r =>
  have h1:HT.sIx (a :: b :: r).length (a :: b :: r).length (some 2)=2:=by
   unfold HT.sIx
   simp only[Bs]
   split <;> omega
  unfold ie
  rw[h1]
  rfl
def many (ts:List Tie)(a b:Int):List Tie:=dN (ts.filter (λt => !btw a b t)++(ts.filter (btw a b)).take 2)
@[irreducible] def nV (K:Be):Sp:=λvs H Q _=>∃(l:Addr) (ks:List (Addr×Tie)) (x y:Int),vs=[.ref l,.int x,.int y]/\dM K H l ks/\ks.length<=500/\∀(p:Addr) (H':Hp) (ks':List (Addr×Tie)),ax H H'->dM K H' p ks'->ks'.map (·.2)=many (ks.map (·.2)) x y->Q (.ref p) H'
theorem gY {K:Be}{vs:List V}{H:Hp}{Q:VK}{E:XK}:nV K vs H Q E↔∃(l:Addr) (ks:List (Addr×Tie)) (x y:Int),vs=[.ref l,.int x,.int y]/\dM K H l ks/\ks.length<=500/\∀(p:Addr) (H':Hp) (ks':List (Addr×Tie)),ax H H'->dM K H' p ks'->ks'.map (·.2)=many (ks.map (·.2)) x y->Q (.ref p) H':=by
 delta nV
 exact DN
@[irreducible] def iD (K:Be):Sp:=λvs H Q _=>∃(w t:Addr) (n:Nat) (ts:List (Addr×Int×Int)),vs=[.ref w]/\SqT K H w [.int n,.ref t]/\SqT K H t (ts.map λu =>.ref u.1)/\(∀u∈ts,SqT K H u.1 [.int u.2.1,.int u.2.2])/\n<=500/\ts.length<=500/\∀(p q l k:Addr) (H':Hp) (ks:List (Addr×Tie)),ax H H'->SqT K H' p [.ref q,.ref l,.ref k]->SqT K H' q ((Cc n).map λi =>.int (i:Nat))->dM K H' l ks->ks.map (·.2)=ts.map (λu=>(u.2.1,u.2.2,[]))->SqT K H' k []->Q (.ref p) H'
theorem du {K:Be}{vs:List V}{H:Hp}{Q:VK}{E:XK}:iD K vs H Q E↔∃(w t:Addr) (n:Nat) (ts:List (Addr×Int×Int)),vs=[.ref w]/\SqT K H w [.int n,.ref t]/\SqT K H t (ts.map λu =>.ref u.1)/\(∀u∈ts,SqT K H u.1 [.int u.2.1,.int u.2.2])/\n<=500/\ts.length<=500/\∀(p q l k:Addr) (H':Hp) (ks:List (Addr×Tie)),ax H H'->SqT K H' p [.ref q,.ref l,.ref k]->SqT K H' q ((Cc n).map λi =>.int (i:Nat))->dM K H' l ks->ks.map (·.2)=ts.map (λu=>(u.2.1,u.2.2,[]))->SqT K H' k []->Q (.ref p) H':=by
 delta iD
 exact DN
section
variable  {P:BD}{w:Cb}{K:Be}{mg:Str->Option Bh}{base:Heap}{f T:Addr}{fd:Cr}
theorem kM:aO ["ties", "one", "other", "full"] ["ties", "one", "other"] (aq iZ):=⟨rfl,rfl,rfl,by decide +kernel,rfl,by decide +kernel,by decide +kernel⟩
theorem gA:(["tie", "full"]:List Str).Nodup:=by decide +kernel
theorem rL (F:Fun K "many_done" "many_done" iZ f fd)(B:Blt mg)(cTiesBetween:Cal P w K mg base 1 "ties_between" ["ties", "one", "other"] (gq K)):bF P w K mg base CX0 2 f fd ["ties", "one", "other"] (nV K):=by
 refine F.ok kM (λvs H Q E h =>?_) (λcdv A outer s H vs Q E hr h =>?_)
 ·obtain ⟨_,_,_,_,rfl,_⟩:=gY.mp h
  rfl
 obtain ⟨l,ks,x,y,rfl,hl,lz,q⟩:=gY.mp h
 refine ⟨_,(@aj _ _ _ _ _ (@aL _ _ 3 _ _ _ _ kM.nd rfl (Or.inr rfl) (aH cTiesBetween hr (by decide) rfl (@aa _ _ _ _ _ (pv 0) (@aa _ _ _ _ _ (pv 1) (@aa _ _ _ _ _ (pv 2) ag rfl) rfl) rfl)) rfl (by first | exact .inl rfl | exact .inr rfl | assumption))
  (@ak _ _ _ (@aM _ _ _ _ (a7 bB rfl B.b_tuple cJ (@aa _ _ _ _ _ (aD (cW (hu8 hr)) rfl B.b_sorted bE (@aa _ _ _ _ _ (@aQ _ _ _ _ _ _ _ _ f7 (bV ["tie", "full"] [none,some 3] rfl (@cA _ _ _ _ (pv 0)) rfl (λ_ _ _ _ _=>(aB (i:=0) gA rfl (Or.inl rfl))) (λ_ _ _ _ _=>(d9 (aF (u6 (K:=K) (hu8 hr)) (pv 0) (pv 1) rfl))) (λ_ _ _ _ _=>(pv 0))) (ic sA (pv 3) jy (jz ai))) ag rfl)) ag rfl))))),?_⟩
 refine ⟨_,rfl,_,rfl,_,rfl,dD.mpr ⟨l,ks,x,y,rfl,hl,by omega,λp H1 s1 ep =>?_⟩⟩
 obtain ⟨fu,ef⟩:∃fu,fu=ks.filter λk=>btw x y k.2:=⟨_,rfl⟩
 rw[<- ef] at ep
 have inF:∀k∈fu,k∈ks/\btw x y k.2=true:=λk hk=>BX.mp (ef ▸ hk)
 have rowF:∀H',ax H1 H'->∀k∈fu.map (λk:Addr×Tie=>(k.1,tc k.2)),RowC K H' k.1 k.2:=λH' s k hk=>by
  obtain ⟨k',hk',rfl⟩:=Bw.mp hk
  exact az (s1.trans s) (hl.2 k' (inF k' hk').1)
 have mF:∀k∈ks,decide (tc k.2∈(fu.map λk:Addr×Tie=>(k.1,tc k.2)).map (·.2))=btw x y k.2:=λk hk=>by
  cases e:btw x y k.2 with
  | true =>
   refine decide_eq_true (Bw.mpr ⟨(k.1,tc k.2),Bw.mpr ⟨k,?_,rfl⟩,rfl⟩)
   rw[ef]
   exact BX.mpr ⟨hk,e⟩
  | false =>
   refine decide_eq_false λz =>?_
   obtain ⟨c1,hc,e1⟩:=Bw.mp z
   obtain ⟨k',hk',rfl⟩:=Bw.mp hc
   have:=(inF k' hk').2
   rw[wX (a:=k'.2) (b:=k.2) (congrArg bj e1),e] at this
   cases this
 refine ⟨_,rfl,l,rfl,⟨_,ah s1 hl.1⟩,eG (λk:Addr×Tie=>V.ref k.1) (λk=>V.ref k.1) (λk => !btw x y k.2) ks (ah s1 hl.1) (small (by omega)) (λk hk R r=>⟨_,rfl,_,rfl,p,k.1,fu.map (λk:Addr×Tie=>(k.1,tc k.2)),tc k.2,rfl,rfl,.inl (by rw[BP];exact SqL.of ep),rowF H1 (ax.refl _),az s1 (hl.2 k hk),_,rfl,by rw[mF k hk];exact r⟩) (λk hk _ R r=>⟨_,rfl,r⟩) λla na =>?_⟩
 have s2:=ae na (.lst ((ks.filter λk => !btw x y k.2).map λk=>V.ref k.1))
 have el:(upd H1 la (.lst ((ks.filter λk => !btw x y k.2).map λk=>V.ref k.1))) la=_:=af
 generalize upd H1 la (.lst ((ks.filter λk => !btw x y k.2).map λk=>V.ref k.1))=H2 at s2 el
 refine ⟨_,rfl,_,rfl,p,_,rfl,SqL.of (s2 _ _ ep),λpc nc =>?_⟩
 have e2:ie (fu.map λk:Addr×Tie=>V.ref k.1) none (some 2)=(fu.take 2).map λk=>V.ref k.1:=by rw[G7];exact yD _
 rw[e2]
 have s3:=ae nc (.lst ((fu.take 2).map λk=>V.ref k.1))
 have ec:(upd H2 pc (.lst ((fu.take 2).map λk=>V.ref k.1))) pc=_:=af
 generalize upd H2 pc (.lst ((fu.take 2).map λk=>V.ref k.1))=H3 at s3 ec
 have l1:(ks.filter λk => !btw x y k.2).length<=500:=BS (DP _ _) lz
 have l2:(fu.take 2).length<=2:=Gn _ _
 refine ⟨la,pc,_,_,rfl,rfl,SqL.of (s3 _ _ el),SqL.of ec,small (by rw[Bg,Bg];omega),λpl nl =>?_⟩
 rw[<- BB]
 obtain ⟨zs,ez⟩:∃zs,zs=(ks.filter λk => !btw x y k.2)++fu.take 2:=⟨_,rfl⟩
 rw[<- ez]
 have inZ:∀k∈zs,k∈ks:=λk hk=>by
  rw[ez] at hk
  rcases BC.mp hk with z | z
  ·exact (BX.mp z).1
  ·exact (inF k (Dc z)).1
 have s4:=ae nl (.lst (zs.map λk=>V.ref k.1))
 have e4:(upd H3 pl (.lst (zs.map λk=>V.ref k.1))) pl=_:=af
 generalize upd H3 pl (.lst (zs.map λk=>V.ref k.1))=H4 at s4 e4
 have s5:ax H H4:=((s1.trans s2).trans s3).trans s4
 refine ⟨_,pl,zs.map (λk:Addr×Tie=>(k.1,tc k.2)),kK,rfl,.inl (by rw[BP];exact SqL.of e4),λk hk =>?_,λls out ns pm pw =>?_⟩
 ·obtain ⟨k',hk',rfl⟩:=Bw.mp hk
  exact ⟨az s5 (hl.2 k' (inZ k' hk')),k'.2,rfl⟩
 obtain ⟨os,pmo,rfl⟩:=bH pm
 refine ⟨ls,_,rfl,.inl ⟨SqL.of af,λlt nt=>q lt _ os ((s5.trans (ae ns _)).trans (ae nt _)) ⟨?_,λk hk=>az ((s5.trans (ae ns _)).trans (ae nt _)) (hl.2 k (inZ k (pmo.mem_iff.mp hk)))⟩ ?_⟩⟩
 ·rw[BP]
  exact SqT.of af
 ·unfold many
  refine dO ?_ ?_
  ·rw[show (ks.map (·.2)).filter (λt => !btw x y t)++((ks.map (·.2)).filter (btw x y)).take 2=zs.map (·.2) by rw[ez,ef,BB,G7,Es,Es];rfl]
   exact pmo.map _
  ·rw[B0] at pw ⊢
   exact pw
end
section
variable  {P:BD}{w:Cb}{K:Be}{mg:Str->Option Bh}{base:Heap}{f T:Addr}{fd:Cr}
theorem nW:aO ["web"] ["web"] (aq fL):=⟨rfl,rfl,rfl,by decide +kernel,rfl,by decide +kernel,by decide +kernel⟩
theorem i5:(["tie"]:List Str).Nodup:=by decide +kernel
theorem nX (F:Fun K "begin_rules" "begin_rules" fL f fd)(B:Blt mg):bF P w K mg base CX0 1 f fd ["web"] (iD K):=by
 refine F.ok nW (λvs H Q E h =>?_) (λcdv A outer s H vs Q E hr h =>?_)
 ·obtain ⟨_,_,_,_,rfl,_⟩:=du.mp h
  rfl
 obtain ⟨r,t,n,ts,rfl,hw,ht,hu,n5,t5,q⟩:=du.mp h
 refine ⟨_,(@ak _ _ _ (@aM _ _ _ _ (@bh _ _ _ _ _ (@aa _ _ _ _ _ (a7 (o8 hr.hd) rfl B.b_tuple cJ (@aa _ _ _ _ _ (a7 o6 rfl B.b_range wV (@aa _ _ _ _ _ (@ay _ _ _ _ _ _ _ aE (pv 0) ai (λ_ _=>rfl)) ag rfl)) ag rfl)) (@aa _ _ _ _ _ (a7 bB rfl B.b_tuple cJ (@aa _ _ _ _ _ (bV ["tie"] [none] rfl (@cA _ _ _ _ (@ay _ _ _ _ _ _ _ aE (pv 0) ai (λ_ _=>rfl))) rfl (λ_ _ _ _ _=>(aB (i:=0) i5 rfl (Or.inl rfl))) (λ_ _ _ _ _=>fE) (λ_ _ _ _ _=>(@bh _ _ _ _ _ (@aa _ _ _ _ _ (@ay _ _ _ _ _ _ _ (bq (K:=K)) (pv 0) ai (λ_ _=>rfl)) (@aa _ _ _ _ _ (@ay _ _ _ _ _ _ _ (bq (K:=K)) (pv 0) ai (λ_ _=>rfl)) (@aa _ _ _ _ _ (@bh _ _ _ _ _ ag) ag rfl) rfl) rfl)))) ag rfl)) (@aa _ _ _ _ _ (@bh _ _ _ _ _ ag) ag rfl) rfl) rfl)))),?_⟩
 refine ⟨_,rfl,r,_,0,_,rfl,rfl,hw,rfl,_,rfl,λpa na =>?_⟩
 have s1:=ae na (.rng 0 (n:Int))
 have ea:(upd H pa (.rng 0 (n:Int))) pa=_:=af
 generalize upd H pa (.rng 0 (n:Int))=H1 at s1 ea
 refine ⟨pa,n,rfl,ea,by omega,λpq nq =>?_⟩
 have s2:=s1.trans (ae nq (.tup ((Cc n).map λi=>V.int (i:Nat))))
 have eq:(upd H1 pq (.tup ((Cc n).map λi=>V.int (i:Nat)))) pq=_:=af
 generalize upd H1 pq (.tup ((Cc n).map λi=>V.int (i:Nat)))=H2 at s2 eq
 refine ⟨_,rfl,r,_,1,_,rfl,rfl,ah s2 hw,rfl,t,rfl,⟨_,ah s2 ht⟩,eI (λH p (u:Tie)=>RowC K H p (tc u)) (λH1 H2 p b s h=>az s h) (λu:Addr×Int×Int=>V.ref u.1) (λu=>((u.2.1,u.2.2,[]):Tie)) (λ_=>true) ts (ah s2 ht) (small (by omega)) (λu hm H3 s3 R r=>r H3 (ax.refl _)) (λu hm _ H3 s3 R rr =>?e) λH3 ks la s3 rk ek na' =>?c⟩
 case e =>
  have h1:=ah (s2.trans s3) (hu u hm)
  refine ⟨_,rfl,u.1,_,0,_,rfl,rfl,h1,rfl,_,rfl,u.1,_,1,_,rfl,rfl,h1,rfl,BU _,λp0 n0=>⟨dC,λp1 n1=>rr p1 _ ((ae n0 _).trans (ae n1 _)) (tN (SqT.of af) (SqT.of (ae n1 _ _ _ af)))⟩⟩
 case c =>
  have ef:(ts.filter λ_=>true)=ts:=Dl.mpr λ_ _=>rfl
  rw[ef] at ek
  refine ⟨la,_,rfl,.inl ⟨SqL.of af,λpt nt =>?_⟩⟩
  refine ⟨BU _,λpk nk=>⟨dC,λp np =>?_⟩⟩
  have s6:=(ae nk (.tup [])).trans (ae np (.tup [.ref pq,.ref pt,.ref pk]))
  have s5:=(ae nt (.tup (ks.map λk=>V.ref k.1))).trans s6
  have s4:=(ae na' (.lst (ks.map λk=>V.ref k.1))).trans s5
  exact q p pq pt pk _ ks ((s2.trans s3).trans s4) (SqT.of af) (SqT.of ((s3.trans s4) _ _ eq)) ⟨SqT.of (s6 _ _ af),λk hk=>az s4 (rk k hk)⟩ ek (SqT.of (ae np _ _ _ af))
end
open PySem L2
open Srt
theorem kN {u:Tie}{x:Int}(nl:u.1≠u.2.1)(ha:isAt x u=true):aX u (other u x)=(aX u x).reverse:=by
 unfold isAt at ha
 rw[Ek,decide_eq_true_iff,decide_eq_true_iff] at ha
 unfold aX other
 by_cases c:u.1=x
 ·rw[if_pos c,if_pos c,if_neg nl]
 ·rw[if_neg c,if_neg c,if_pos rfl,DV]
theorem yE {u v:Tie}{x:Int}(nu:u.1≠u.2.1)(nv:v.1≠v.2.1)(au:isAt x u=true)(av:isAt x v=true)(e:other u x=other v x):jn u v x=jn v u x:=by
 have h1:=kN nu au
 have h2:=kN nv av
 unfold jn
 rw[if_pos e,if_pos e.symm,h1,h2]
 obtain ⟨W,eW⟩:∃W,W=(aX u x).reverse++[x]++aX v x:=⟨_,rfl⟩
 have e2:(aX v x).reverse++[x]++aX u x=W.reverse:=by
  rw[eW,Dk,Dk,DV]
  simp
 rw[<- eW,e2,DV,e]
 refine congrArg (Prod.mk (other v x)) (congrArg (Prod.mk (other v x)) ?_)
 cases c1:HT.lexLt W.reverse W with
 | true =>
  cases c2:HT.lexLt W W.reverse with
  | true=>have:=lex_trans _ _ _ c1 c2;rw[lex_irrefl] at this;cases this
  | false=>rfl
 | false =>
  cases c2:HT.lexLt W W.reverse with
  | true=>rfl
  | false=>exact (dI _ _ c1 c2).symm
def jn2 (u v:Tie)(x:Int):Tie:=if other u x<=other v x then jn u v x else jn v u x
theorem Al {u v y z:Tie}{x:Int}(nu:u.1≠u.2.1)(nv:v.1≠v.2.1)(au:isAt x u=true)(av:isAt x v=true)(p:[y,z].Perm [u,v])(le:other y x<=other z x):jn y z x=jn2 u v x:=by
 have hy:(y=u/\z=v)\/(y=v/\z=u):=by
  rcases BR.mp (p.mem_iff.mp Br) with e | e
  ·subst e
   have:=(HU y).mp p
   exact .inl ⟨rfl,by simpa using F4.mp this⟩
  ·have e:=Bz.mp e
   subst e
   have:=(HU y).mp (p.trans (List.Perm.swap _ _ _))
   exact .inr ⟨rfl,by simpa using F4.mp this⟩
 unfold jn2
 rcases hy with ⟨rfl,rfl⟩ | ⟨rfl,rfl⟩
 ·rw[if_pos le]
 ·by_cases c:other z x<=other y x
  ·rw[if_pos c]
   exact yE nv nu av au (by omega)
  ·rw[if_neg c]
inductive Stp | one (w:Str) (x:Int) | two (x y:Int)
def Stp.cs:Stp->List Cell
 | .one w x=>[.s w,.i x]
 | .two x y=>[.s "many",.i x,.i y]
structure Sta where
 lf:List Int
 ts:List Tie
 tk:List Int
def StA (K:Be)(H:Hp)(p:Addr)(s:Sta):Prop:=∃(a b c:Addr) (ks:List (Addr×Tie)),SqT K H p [.ref a,.ref b,.ref c]/\SqT K H a (s.lf.map V.int)/\dM K H b ks/\ks.map (·.2)=s.ts/\SqT K H c (s.tk.map V.int)
theorem StA.same {K:Be}{H H':Hp}{p:Addr}{s:Sta}(k:ax H H')(h:StA K H p s):StA K H' p s:=by
 obtain ⟨a,b,c,ks,h1,h2,h3,h4,h5⟩:=h
 exact ⟨a,b,c,ks,ah k h1,ah k h2,h3.same k,h4,ah k h5⟩
def sortI (l:List Int):List Int:=l.mergeSort λa b=>decide (a<=b)
def behind (s:Sta):Stp->Sta
 | .two x y=>⟨s.lf,many s.ts x y,s.tk⟩
 | .one w x=>⟨s.lf.filter λy => !decide (y=x),dN (s.ts.filter (λt => !isAt x t)++(if w = "two" then [match s.ts.filter (isAt x) with
   | [u,v]=>jn2 u v x
   | _=>(0,0,[])] else [])),if w = "loop" then sortI (s.tk++[x]) else s.tk⟩
open PySem L2
open Srt
def OkS (s:Sta):Stp->Prop
 | .two _ _=>True
 | .one w x=>(w = "lone" \/ w = "loop" \/ w = "two")/\(w = "two" -> ∃u v,s.ts.filter (isAt x)=[u,v]/\u.1≠u.2.1/\v.1≠v.2.1)
structure Sml (s:Sta):Prop where
 lf:s.lf.length<=400
 ts:s.ts.length<=400
 tk:s.tk.length<=400
 ws:∀t∈s.ts,t.2.2.length<=400
theorem Am:∀{l:List (Addr×Tie)} {u v:Tie},l.map (·.2)=[u,v]->∃u1 v1,l=[u1,v1]/\u1.2=u/\v1.2=v
 | [a,b],u,v,h=>⟨a,b,rfl,(CC h).1,(CC (CC h).2).1⟩
 | [],_,_,h=>by cases h
 | [_],_,_,h=>by cases (CC h).2
 | _ :: _ :: _ :: _,_,_,h=>by cases (CC (CC h).2).2
theorem dP {l m:List Int}(p:l.Perm m)(s:l.Pairwise (· <= ·)):l=sortI m:=by
 have le1:∀{a b:Int},a<=b->HT.lexLt [b] [a]=false:=λ{a b} h=>by
  rw[HT.aP]
  by_cases e:b=a
  ·rw[if_pos e];rfl
  ·rw[if_neg e];exact decide_eq_false (by omega)
 refine dr (λn=>[n]) (p.trans (Dm m _).symm) (λa _ b _ h=>(CC h).1) (s.imp le1) ?_
 exact (DY (le:=λa b:Int=>decide (a<=b)) (λa b c h1 h2=>decide_eq_true (Int.le_trans (of_decide_eq_true h1) (of_decide_eq_true h2))) (λa b=>by simp only[Ek,decide_eq_true_eq];omega) m).imp λ{a b} h=>le1 (of_decide_eq_true h)
theorem yF {K:Be}{H:Hp}{l a:Addr}{xs ys:List V}{cs:List Cell}(hl:H l=some (.lst xs))(h:RowC K H a cs):RowC K (upd H l (.lst ys)) a cs:=by
 have k:∀b us,SqT K H b us->SqT K (upd H l (.lst ys)) b us:=λb us h=>h.imp (λr=>r.elim (λe =>.inl (by rw[ao (λz=>by rw[z,hl] at e;cases e)];exact e)) λ⟨o,e⟩ =>.inr ⟨o,by rw[ao (λz=>by rw[z,hl] at e;cases e)];exact e⟩) id
 obtain ⟨us,h1,h2⟩:=h
 exact ⟨us,k _ _ h1,dg k h2⟩
@[irreducible] def gZ (K:Be):Sp:=λvs H Q _=>∃(p q:Addr) (s:Sta) (st:Stp),vs=[.ref p,.ref q]/\StA K H p s/\RowC K H q st.cs/\H PJ=some (.tbl psJ)/\OkS s st/\Sml s/\∀(p':Addr) (H':Hp),ax H H'->StA K H' p' (behind s st)->Q (.ref p') H'
theorem fe {K:Be}{vs:List V}{H:Hp}{Q:VK}{E:XK}:gZ K vs H Q E↔∃(p q:Addr) (s:Sta) (st:Stp),vs=[.ref p,.ref q]/\StA K H p s/\RowC K H q st.cs/\H PJ=some (.tbl psJ)/\OkS s st/\Sml s/\∀(p':Addr) (H':Hp),ax H H'->StA K H' p' (behind s st)->Q (.ref p') H':=by
 delta gZ
 exact DN
section
variable  {P:BD}{w:Cb}{K:Be}{mg:Str->Option Bh}{base:Heap}{f T:Addr}{fd:Cr}
theorem dj:aO ["state", "step", "left", "ties", "taken"] ["state", "step"] (aq i3):=⟨rfl,rfl,rfl,by decide +kernel,rfl,by decide +kernel,by decide +kernel⟩
theorem fz:(["place", "step"]:List Str).Nodup:=by decide +kernel
theorem gB:(["tie", "step"]:List Str).Nodup:=by decide +kernel
theorem rM (F:Fun K "step_done" "step_done" i3 f fd)(B:Blt mg)(cManyDone:Cal P w K mg base 2 "many_done" ["ties", "one", "other"] (nV K))(cJoinedTie:Cal P w K mg base 5 "joined_tie" ["ties", "place"] (nU K))(cIsAt:Cal P w K mg base 1 "is_at" ["tie", "place"] (kI K)):bF P w K mg base CX0 6 f fd ["state", "step"] (gZ K):=by
 refine F.ok dj (λvs H Q E h =>?_) (λcdv A outer s H vs Q E hr h =>?_)
 ·obtain ⟨_,_,_,_,rfl,_⟩:=fe.mp h
  rfl
 obtain ⟨p,q,z0,st,rfl,hs,hq,hP,ok,sm,k⟩:=fe.mp h
 refine ⟨_,(@aj _ _ _ _ _ (@bM _ _ _ _ _ _ _ _ (aF bZ (@ay _ _ _ _ _ _ _ aE (pv 1) ai (λ_ _=>rfl)) dX (aN _)) (@ak _ _ _ (@aM _ _ _ _ (@bh _ _ _ _ _ (@aa _ _ _ _ _ (@ay _ _ _ _ _ _ _ aE (pv 0) ai (λ_ _=>rfl)) (@aa _ _ _ _ _ (aH cManyDone hr (by decide) rfl (@aa _ _ _ _ _ (@ay _ _ _ _ _ _ _ aE (pv 0) ai (λ_ _=>rfl)) (@aa _ _ _ _ _ (@ay _ _ _ _ _ _ _ aE (pv 1) ai (λ_ _=>rfl)) (@aa _ _ _ _ _ (@ay _ _ _ _ _ _ _ aE (pv 1) ai (λ_ _=>rfl)) ag rfl) rfl) rfl)) (@aa _ _ _ _ _ (@ay _ _ _ _ _ _ _ aE (pv 0) ai (λ_ _=>rfl)) ag rfl) rfl) rfl)))) aU)
  (@aj _ _ _ _ _ (@aL _ _ 2 _ _ _ _ dj.nd rfl (Or.inl rfl) (a7 bB rfl B.b_tuple cJ (@aa _ _ _ _ _ (bV ["place", "step"] [none,some 1] rfl (@cA _ _ _ _ (@ay _ _ _ _ _ _ _ aE (pv 0) ai (λ_ _=>rfl))) rfl (λ_ _ _ _ _=>(aB (i:=0) fz rfl (Or.inl rfl))) (λ_ _ _ _ _=>(d9 (aF AL (pv 0) (@ay _ _ _ _ _ _ _ (bq (K:=K)) (pv 1) ai (λ_ _=>rfl)) (aN _)))) (λ_ _ _ _ _=>(pv 0))) ag rfl)) rfl (by first | exact .inl rfl | exact .inr rfl | assumption))
  (@aj _ _ _ _ _ (de (i:=3) ["tie", "step"] [none,some 1] rfl dj.nd rfl rfl (@cA _ _ _ _ (@ay _ _ _ _ _ _ _ aE (pv 0) ai (λ_ _=>rfl))) rfl (λ_ _ _ _ _=>(aB (i:=0) gB rfl (Or.inl rfl))) (λ_ _ _ _ _=>(d9 (iM (fA (aH cIsAt hr (by decide) rfl (@aa _ _ _ _ _ (pv 0) (@aa _ _ _ _ _ (@ay _ _ _ _ _ _ _ (bq (K:=K)) (pv 1) ai (λ_ _=>rfl)) ag rfl) rfl)))))) (λ_ _ _ _ _=>(pv 0)))
  (@aj _ _ _ _ _ (@aL _ _ 4 _ _ _ _ dj.nd rfl (Or.inl rfl) (@ay _ _ _ _ _ _ _ aE (pv 0) ai (λ_ _=>rfl)) rfl (by first | exact .inl rfl | exact .inr rfl | assumption))
  (@aj _ _ _ _ _ (@bM _ _ _ _ _ _ _ _ (aF bZ (@ay _ _ _ _ _ _ _ aE (pv 1) ai (λ_ _=>rfl)) dX (aN _)) (@ak _ _ _ (dk (fD Cp CW CY cB (pv 3) (@aa _ _ _ _ _ (aH cJoinedTie hr (by decide) rfl (@aa _ _ _ _ _ (@ay _ _ _ _ _ _ _ aE (pv 0) ai (λ_ _=>rfl)) (@aa _ _ _ _ _ (@ay _ _ _ _ _ _ _ aE (pv 1) ai (λ_ _=>rfl)) ag rfl) rfl)) ag rfl)))) aU)
  (@aj _ _ _ _ _ (@bM _ _ _ _ _ _ _ _ (aF bZ (@ay _ _ _ _ _ _ _ aE (pv 1) ai (λ_ _=>rfl)) dX (aN _)) (@ak _ _ _ (@aL _ _ 4 _ _ _ _ dj.nd rfl (Or.inl rfl) (a7 bB rfl B.b_tuple cJ (@aa _ _ _ _ _ (aD cV rfl B.b_sorted bE (@aa _ _ _ _ _ (@aQ _ _ _ _ _ _ _ _ kh (pv 4) (@bh _ _ _ _ _ (@aa _ _ _ _ _ (@ay _ _ _ _ _ _ _ aE (pv 1) ai (λ_ _=>rfl)) ag rfl))) ag rfl)) ag rfl)) rfl (by first | exact .inl rfl | exact .inr rfl | assumption))) aU)
  (@ak _ _ _ (@aM _ _ _ _ (@bh _ _ _ _ _ (@aa _ _ _ _ _ (pv 2) (@aa _ _ _ _ _ (a7 bB rfl B.b_tuple cJ (@aa _ _ _ _ _ (aD (cW (hu8 hr)) rfl B.b_sorted bE (@aa _ _ _ _ _ (pv 3) ag rfl)) ag rfl)) (@aa _ _ _ _ _ (pv 4) ag rfl) rfl) rfl)))))))))),?_⟩
 obtain ⟨a,b,c,ks,h1,h2,h3,h4,h5⟩:=hs
 have lk:ks.length<=400:=by have:=sm.ts;rw[<- h4,Bg] at this;exact this
 cases st with
 | two x y =>
  have hq':=tH hq
  refine ⟨_,rfl,q,_,0,_,rfl,rfl,hq',rfl,rfl,_,rfl,?_⟩
  rw[decide_eq_true rfl]
  refine cQ ⟨_,rfl,p,_,0,_,rfl,rfl,h1,rfl,_,rfl,p,_,1,_,rfl,rfl,h1,rfl,_,rfl,q,_,1,_,rfl,rfl,hq',rfl,_,rfl,q,_,2,_,rfl,rfl,hq',rfl,gY.mpr ⟨b,ks,x,y,rfl,h3,by omega,λpm H1 ks' s1 t1 e1=>⟨_,rfl,p,_,2,_,rfl,rfl,ah s1 h1,rfl,dC,λpr nr=>k pr _ (s1.trans (ae nr _)) ⟨a,pm,c,ks',SqT.of af,ah (s1.trans (ae nr _)) h2,t1.same (ae nr _),by rw[e1,h4];rfl,ah (s1.trans (ae nr _)) h5⟩⟩⟩⟩
 | one w x =>
  have hq':=wK hq
  have wm:¬ w = "many" := by
   rcases ok.1 with e | e | e <;> (rw[e];decide)
  refine ⟨_,rfl,q,_,0,_,rfl,rfl,hq',rfl,rfl,_,rfl,?_⟩
  rw[decide_eq_false (show ¬ V.str w=V.str "many" from λe=>wm (V.str.inj e))]
  refine bC ⟨_,rfl,p,_,0,_,rfl,rfl,h1,rfl,a,rfl,⟨_,h2⟩,eG (λi:Int=>V.int i) (λi=>V.int i) (λy => !decide (y=x)) z0.lf h2 (small (by have:=sm.lf;omega)) (λy hy R r=>⟨_,rfl,_,rfl,q,_,1,_,rfl,rfl,hq',rfl,rfl,_,rfl,by rw[show decide (V.int y=V.int x)=decide (y=x) from decide_eq_decide.mpr ⟨λe=>V.int.inj e,λe=>by rw[e]⟩];exact r⟩) (λy _ _ R r=>⟨_,rfl,r⟩) λla na =>?_⟩
  refine ⟨la,_,rfl,.inl ⟨SqL.of af,λlt nt =>?_⟩⟩
  have s2:=(ae na (.lst ((z0.lf.filter λy => !decide (y=x)).map V.int))).trans (ae nt (.tup ((z0.lf.filter λy => !decide (y=x)).map V.int)))
  have et:(upd (upd H la (.lst ((z0.lf.filter λy => !decide (y=x)).map V.int))) lt (.tup ((z0.lf.filter λy => !decide (y=x)).map V.int))) lt=_:=af
  generalize upd (upd H la (.lst ((z0.lf.filter λy => !decide (y=x)).map V.int))) lt (.tup ((z0.lf.filter λy => !decide (y=x)).map V.int))=H2 at s2 et
  have hq2:=ah s2 hq'
  have h32:=h3.same s2
  refine ⟨_,rfl,p,_,1,_,rfl,rfl,ah s2 h1,rfl,b,rfl,⟨_,h32.1⟩,eG (λk:Addr×Tie=>V.ref k.1) (λk=>V.ref k.1) (λk => !isAt x k.2) ks h32.1 (small (by omega)) (λkk hk R r=>⟨_,rfl,_,rfl,q,_,1,_,rfl,rfl,hq2,rfl,eY.mpr ⟨kk.1,kk.2,x,rfl,h32.2 kk hk,_,rfl,r⟩⟩) (λkk _ _ R r=>⟨_,rfl,r⟩) λlb nb =>?_⟩
  have s3:=s2.trans (ae nb (.lst ((ks.filter λk => !isAt x k.2).map λk=>V.ref k.1)))
  have s23:=ae nb (.lst ((ks.filter λk => !isAt x k.2).map λk=>V.ref k.1))
  have eb:(upd H2 lb (.lst ((ks.filter λk => !isAt x k.2).map λk=>V.ref k.1))) lb=_:=af
  generalize upd H2 lb (.lst ((ks.filter λk => !isAt x k.2).map λk=>V.ref k.1))=H3 at s3 s23 eb
  have hq3:=ah s3 hq'
  refine ⟨_,rfl,p,_,2,_,rfl,rfl,ah s3 h1,rfl,?_⟩
  refine ⟨_,rfl,q,_,0,_,rfl,rfl,hq3,rfl,rfl,_,rfl,?_⟩
  have rows0:∀H',ax H H'->∀k1∈ks,RowC K H' k1.1 (tc k1.2):=λH' s' k1 hk1=>az s' (h3.2 k1 hk1)
  have fl:(ks.filter λk => !isAt x k.2).map (·.2)=z0.ts.filter λt => !isAt x t:=by rw[<- h4,Es];rfl
  by_cases w2:w = "two"
  ·rw[decide_eq_true (show V.str w=V.str "two" by rw[w2])]
   obtain ⟨u,v,euv,nu,nv⟩:=ok.2 w2
   have e1:(ks.filter λk=>isAt x k.2).map (·.2)=[u,v]:=by rw[<- euv, <- h4,Es];rfl
   obtain ⟨u1,v1,ef,eu,ev⟩:∃u1 v1,(ks.filter λk=>isAt x k.2)=[u1,v1]/\u1.2=u/\v1.2=v:=Am e1
   have mu:=BX.mp (show u∈z0.ts.filter (isAt x) by rw[euv];exact Br)
   have mv:=BX.mp (show v∈z0.ts.filter (isAt x) by rw[euv];exact BG _ Br)
   refine cQ ⟨_,rfl,.inl ⟨rfl,_,SqL.of eb⟩,_,rfl,p,_,1,_,rfl,rfl,ah s3 h1,rfl,_,rfl,q,_,1,_,rfl,rfl,hq3,rfl,gX.mpr ⟨b,ks,x,u1,v1,rfl,h3.same s3,by omega,s3 _ _ hP,ef,by rw[eu];exact sm.ws u mu.1,by rw[ev];exact sm.ws v mv.1,λpj H4 y z s4 pm le rj =>?_⟩⟩
   rw[eu,ev] at pm
   rw[Al nu nv mu.2 mv.2 pm le] at rj
   have l3:(ks.filter λk => !isAt x k.2).length<=400:=BS (DP _ _) lk
   refine ⟨lb,_,_,rfl,rfl,s4 _ _ eb,by rw[Bg];exact Cn l3 (by decide),?_⟩
   obtain ⟨zs,ez⟩:∃zs,zs=(ks.filter λk => !isAt x k.2)++[(pj,jn2 u v x)]:=⟨_,rfl⟩
   have ex:((ks.filter λk => !isAt x k.2).map λk=>V.ref k.1)++[V.ref pj]=zs.map λk=>V.ref k.1:=by rw[ez,BB];rfl
   rw[ex]
   have hnb:H lb=none:=by
    cases e:H lb with
    | none=>rfl
    | some o=>rw[s2 _ _ e] at nb;cases nb
   have s5:ax H (upd H4 lb (.lst (zs.map λk=>V.ref k.1))):=λb' o e=>by rw[ao (aA e hnb)];exact (s3.trans s4) _ _ e
   have e5:(upd H4 lb (.lst (zs.map λk=>V.ref k.1))) lb=_:=af
   have t5:(upd H4 lb (.lst (zs.map λk=>V.ref k.1))) lt=some (.tup ((z0.lf.filter λy => !decide (y=x)).map V.int)):=by rw[ao (aA et nb)];exact (s23.trans s4) _ _ et
   have r5:∀k1∈zs,RowC K (upd H4 lb (.lst (zs.map λk=>V.ref k.1))) k1.1 (tc k1.2):=λk1 hk1=>by
    rw[ez] at hk1
    rcases BC.mp hk1 with z1 | z1
    ·exact rows0 _ s5 k1 (BX.mp z1).1
    ·rw[Bz.mp z1]
     have e6:H3 lb=some _:=eb
     refine yF (s4 _ _ eb) rj
   generalize upd H4 lb (.lst (zs.map λk=>V.ref k.1))=H5 at s5 e5 t5 r5
   refine ⟨_,rfl,q,_,0,_,rfl,rfl,ah s5 hq',rfl,rfl,_,rfl,?_⟩
   have w3:¬ w = "loop" := by rw[w2];decide
   rw[decide_eq_false (show ¬ V.str w=V.str "loop" from λe=>w3 (V.str.inj e))]
   refine bC ?_
   have ebh:behind z0 (.one w x)=⟨z0.lf.filter λy => !decide (y=x),dN (zs.map (·.2)),z0.tk⟩:=by unfold behind;simp only[if_pos w2,if_neg w3,euv];rw[ez,BB,fl];rfl
   rw[ebh] at k
   refine ⟨_,rfl,_,rfl,_,lb,zs.map (λk:Addr×Tie=>(k.1,tc k.2)),kK,rfl,.inl (by rw[BP];exact SqL.of e5),λk1 hk1=>(by obtain ⟨k2,hk2,rfl⟩:=Bw.mp hk1;exact ⟨r5 k2 hk2,k2.2,rfl⟩),λls out ns pm1 pw1 =>?_⟩
   obtain ⟨os,pmo,rfl⟩:=bH pm1
   refine ⟨ls,_,rfl,.inl ⟨SqL.of af,λl5 n5=>⟨_,rfl,dC,λpr nr=>k pr _ (((s5.trans (ae ns _)).trans (ae n5 _)).trans (ae nr _)) ⟨lt,l5,c,os,SqT.of af,ah (((ae ns _).trans (ae n5 _)).trans (ae nr _)) (SqT.of t5),⟨?_,λk1 hk1=>az (((ae ns _).trans (ae n5 _)).trans (ae nr _)) (r5 k1 (pmo.mem_iff.mp hk1))⟩,?_,ah (((ae ns _).trans (ae n5 _)).trans (ae nr _)) (ah s5 h5)⟩⟩⟩⟩
   ·exact SqT.of ((ae nr _ _ _ af).trans (by rw[BP];rfl))
   ·refine dO ?_ ?_
    ·exact pmo.map _
    ·rw[B0] at pw1 ⊢
     exact pw1
  ·rw[decide_eq_false (show ¬ V.str w=V.str "two" from λe=>w2 (V.str.inj e))]
   obtain ⟨zs,ez⟩:∃zs,zs=ks.filter λk => !isAt x k.2:=⟨_,rfl⟩
   rw[<- ez] at eb fl
   have rz:∀H',ax H H'->∀k1∈zs,RowC K H' k1.1 (tc k1.2):=λH' s' k1 hk1=>rows0 H' s' k1 (BX.mp (ez ▸ hk1)).1
   refine bC ⟨_,rfl,q,_,0,_,rfl,rfl,hq3,rfl,rfl,_,rfl,?_⟩
   by_cases w3:w = "loop"
   ·rw[decide_eq_true (show V.str w=V.str "loop" by rw[w3])]
    refine cQ ?_
    refine ⟨_,rfl,_,rfl,q,_,1,_,rfl,rfl,hq3,rfl,fS,λp6 n6=>wW (ah (s3.trans (ae n6 _)) h5) (SqT.of af) (by simp) (small (by have:=sm.tk;rw[Bg];simp only[Bs,Cq];omega)) λp7 H7 s7 w7 =>?_⟩
    refine ⟨p7,z0.tk++[x],rfl,.inr (by rw[BB];exact w7),λl7 out7 n7 pm7 pw7 =>?_⟩
    refine ⟨l7,_,rfl,.inl ⟨SqL.of af,λl8 n8 =>?_⟩⟩
    have s8:=(((ae n6 (.tup [V.int x])).trans s7).trans (ae n7 (.lst (out7.map V.int)))).trans (ae n8 (.tup (out7.map V.int)))
    have e8:(upd (upd H7 l7 (.lst (out7.map V.int))) l8 (.tup (out7.map V.int))) l8=_:=af
    generalize upd (upd H7 l7 (.lst (out7.map V.int))) l8 (.tup (out7.map V.int))=H8 at s8 e8
    rw[dP pm7 pw7] at e8
    have ebh:behind z0 (.one w x)=⟨z0.lf.filter λy => !decide (y=x),dN (zs.map (·.2)),sortI (z0.tk++[x])⟩:=by unfold behind;simp only[if_neg w2,if_pos w3,Cf];rw[fl]
    rw[ebh] at k
    have s38:=s3.trans s8
    refine ⟨_,rfl,_,rfl,_,lb,zs.map (λk:Addr×Tie=>(k.1,tc k.2)),kK,rfl,.inl (by rw[BP];exact SqL.of (s8 _ _ eb)),λk1 hk1=>(by obtain ⟨k2,hk2,rfl⟩:=Bw.mp hk1;exact ⟨rz _ s38 k2 hk2,k2.2,rfl⟩),λls out ns pm1 pw1 =>?_⟩
    obtain ⟨os,pmo,rfl⟩:=bH pm1
    refine ⟨ls,_,rfl,.inl ⟨SqL.of af,λl5 n5=>⟨_,rfl,dC,λpr nr=>k pr _ (((s38.trans (ae ns _)).trans (ae n5 _)).trans (ae nr _)) ⟨lt,l5,l8,os,SqT.of af,ah (((ae ns _).trans (ae n5 _)).trans (ae nr _)) (SqT.of ((s23.trans s8) _ _ et)),⟨?_,λk1 hk1=>az (((ae ns _).trans (ae n5 _)).trans (ae nr _)) (rz _ s38 k1 (pmo.mem_iff.mp hk1))⟩,?_,ah (((ae ns _).trans (ae n5 _)).trans (ae nr _)) (SqT.of e8)⟩⟩⟩⟩
    ·exact SqT.of ((ae nr _ _ _ af).trans (by rw[BP];rfl))
    ·refine dO ?_ ?_
     ·exact pmo.map _
     ·rw[B0] at pw1 ⊢
      exact pw1
   ·rw[decide_eq_false (show ¬ V.str w=V.str "loop" from λe=>w3 (V.str.inj e))]
    refine bC ?_
    have ebh:behind z0 (.one w x)=⟨z0.lf.filter λy => !decide (y=x),dN (zs.map (·.2)),z0.tk⟩:=by unfold behind;simp only[if_neg w2,if_neg w3,Cf];rw[fl]
    rw[ebh] at k
    refine ⟨_,rfl,_,rfl,_,lb,zs.map (λk:Addr×Tie=>(k.1,tc k.2)),kK,rfl,.inl (by rw[BP];exact SqL.of eb),λk1 hk1=>(by obtain ⟨k2,hk2,rfl⟩:=Bw.mp hk1;exact ⟨rz _ s3 k2 hk2,k2.2,rfl⟩),λls out ns pm1 pw1 =>?_⟩
    obtain ⟨os,pmo,rfl⟩:=bH pm1
    refine ⟨ls,_,rfl,.inl ⟨SqL.of af,λl5 n5=>⟨_,rfl,dC,λpr nr=>k pr _ (((s3.trans (ae ns _)).trans (ae n5 _)).trans (ae nr _)) ⟨lt,l5,c,os,SqT.of af,ah (((ae ns _).trans (ae n5 _)).trans (ae nr _)) (SqT.of (s23 _ _ et)),⟨?_,λk1 hk1=>az (((ae ns _).trans (ae n5 _)).trans (ae nr _)) (rz _ s3 k1 (pmo.mem_iff.mp hk1))⟩,?_,ah (((ae ns _).trans (ae n5 _)).trans (ae nr _)) (ah s3 h5)⟩⟩⟩⟩
    ·exact SqT.of ((ae nr _ _ _ af).trans (by rw[BP];rfl))
    ·refine dO ?_ ?_
     ·exact pmo.map _
     ·rw[B0] at pw1 ⊢
      exact pw1
end
open PySem L2
open Srt
def cnt (ts:List Tie)(a b:Int):Nat:=(ts.filter λt=>decide (t.1=a/\t.2.1=b)).length
def kk (q:Int×Int):List Key:=[.inl q.1,.inl q.2]
theorem rN {p q:Int×Int}(h:kk p=kk q):p=q:=by
 obtain ⟨a,b⟩:=p
 obtain ⟨c,d⟩:=q
 simpa [kk] using h
theorem pZ (ts:List Tie)(t:Tie)(a b:Int):cnt (ts++[t]) a b=cnt ts a b+(if t.1=a/\t.2.1=b then 1 else 0):=by
 unfold cnt
 rw[Dd,Bj]
 by_cases c:t.1=a/\t.2.1=b
 ·rw[if_pos c]
  simp[List.filter,c]
 ·rw[if_neg c]
  simp[List.filter,c]
structure vb (kvs:List (List Key×V))(prs:List (Int×Int))(ts:List Tie):Prop where
 keys:kvs.map (·.1)=prs.map kk
 nd:prs.Nodup
 len:kvs.length<=ts.length
 val:∀q,cy kvs (kk q)=if cnt ts q.1 q.2=0 then none else some (.int (cnt ts q.1 q.2))
theorem vb.mem {kvs:List (List Key×V)}{prs:List (Int×Int)}{ts:List Tie}(c:vb kvs prs ts)(q:Int×Int):q∈prs↔cnt ts q.1 q.2≠0:=by
 have e:=c.val q
 constructor
 ·intro m z
  rw[z,if_pos rfl] at e
  exact pA e (by rw[c.keys];exact EE m)
 ·intro n
  rw[if_neg n] at e
  have:=yg e
  rw[c.keys] at this
  obtain ⟨p,hp,ep⟩:=Bw.mp this
  exact rN ep ▸ hp
theorem vb.put {kvs:List (List Key×V)}{prs:List (Int×Int)}{ts:List Tie}(c:vb kvs prs ts)(t:Tie):∃prs',vb (putK kvs (kk (t.1,t.2.1)) (.int (cnt ts t.1 t.2.1+1))) prs' (ts++[t]):=by
 have hv:∀q,cy (putK kvs (kk (t.1,t.2.1)) (.int (cnt ts t.1 t.2.1+1))) (kk q)=if cnt (ts++[t]) q.1 q.2=0 then none else some (.int (cnt (ts++[t]) q.1 q.2)):=λq=>by
  rw[v8]
  by_cases e:kk q=kk (t.1,t.2.1)
  ·have:=rN e
   subst this
   have e1:cnt (ts++[t]) t.1 t.2.1=cnt ts t.1 t.2.1+1:=by rw[pZ,if_pos ⟨rfl,rfl⟩]
   rw[if_pos (by rfl)]
   show _=if cnt (ts++[t]) t.1 t.2.1=0 then none else some (V.int (cnt (ts++[t]) t.1 t.2.1))
   rw[e1,if_neg (by omega)];rfl
  ·have e1:cnt (ts++[t]) q.1 q.2=cnt ts q.1 q.2:=by rw[pZ,if_neg (λz=>e (by rw[z.1,z.2])),Hy]
   rw[if_neg e,e1]
   exact c.val q
 have hn:=Ae (kk (t.1,t.2.1)) (.int (cnt ts t.1 t.2.1+1)) (kvs:=kvs) (by rw[c.keys];exact (B0.mpr (c.nd.imp λh z=>h (rN z))))
 have hm:∀x∈(putK kvs (kk (t.1,t.2.1)) (.int (cnt ts t.1 t.2.1+1))).map (·.1),∃q,x=kk q:=λx hx=>by
  rcases yA hx with e | e
  ·exact ⟨_,e⟩
  ·rw[c.keys] at e
   obtain ⟨p,_,e⟩:=Bw.mp e
   exact ⟨p,e.symm⟩
 have un:∀l:List (List Key),(∀x∈l,∃q,x=kk q)->∃prs':List (Int×Int),l=prs'.map kk:=by
  intro l
  induction l with
  | nil=>exact λ_=>⟨[],rfl⟩
  | cons x l ih =>
   intro h
   obtain ⟨q,e⟩:=h x Br
   obtain ⟨ps,e2⟩:=ih λy hy=>h y (BG _ hy)
   exact ⟨q :: ps,by rw[e,e2];rfl⟩
 obtain ⟨prs',e⟩:=un _ hm
 refine ⟨prs',e,?_,?_,hv⟩
 ·rw[e] at hn
  exact (B0.mp hn).imp λh z=>h (by rw[z])
 ·have:=fI kvs (kk (t.1,t.2.1)) (.int (cnt ts t.1 t.2.1+1))
  have:=c.len
  rw[Bj,BV]
  omega
@[irreducible] def iE (K:Be):Sp:=λvs H Q _=>∃(l:Addr) (ks:List (Addr×Tie)),vs=[.ref l]/\dM K H l ks/\ks.length<=1000/\∀(p:Addr) (H':Hp) (ps:List (Addr×Int×Int)),ax H H'->H' p=some (.lst (ps.map λk =>.ref k.1))->(∀k∈ps,SqT K H' k.1 [.int k.2.1,.int k.2.2])->(ps.map (·.2)).Nodup->(∀a b,(a,b)∈ps.map (·.2)↔a<b/\2<cnt (ks.map (·.2)) a b)->Q (.ref p) H'
theorem dv {K:Be}{vs:List V}{H:Hp}{Q:VK}{E:XK}:iE K vs H Q E↔∃(l:Addr) (ks:List (Addr×Tie)),vs=[.ref l]/\dM K H l ks/\ks.length<=1000/\∀(p:Addr) (H':Hp) (ps:List (Addr×Int×Int)),ax H H'->H' p=some (.lst (ps.map λk =>.ref k.1))->(∀k∈ps,SqT K H' k.1 [.int k.2.1,.int k.2.2])->(ps.map (·.2)).Nodup->(∀a b,(a,b)∈ps.map (·.2)↔a<b/\2<cnt (ks.map (·.2)) a b)->Q (.ref p) H':=by
 delta iE
 exact DN
section
variable  {P:BD}{w:Cb}{K:Be}{mg:Str->Option Bh}{base:Heap}{f T:Addr}{fd:Cr}
theorem dw:aO ["ties", "counts", "tie", "pair"] ["ties"] (aq eQ):=⟨rfl,rfl,rfl,by decide +kernel,rfl,by decide +kernel,by decide +kernel⟩
theorem dQ:(["pair", "counts"]:List Str).Nodup:=by decide +kernel
theorem p8 (F:Fun K "full_pairs" "full_pairs" eQ f fd)(B:Blt mg):bF P w K mg base CX0 1 f fd ["ties"] (iE K):=by
 refine F.ok dw (λvs H Q E h =>?_) (λcdv A outer s H vs Q E hr h =>?_)
 ·obtain ⟨_,_,rfl,_⟩:=dv.mp h
  rfl
 obtain ⟨l,ks,rfl,hl,lz,q⟩:=dv.mp h
 have hu:(oA CX0 P w K mg base ["ties", "counts", "tie", "pair"] "full_pairs" (aq eQ) f cdv A outer s H E).nox.A.units+1<cLine:=AX hr
 refine ⟨_,(@aj _ _ _ _ _ (@aL _ _ 1 _ _ _ _ dw.nd rfl (Or.inr rfl) wg rfl (by first | exact .inl rfl | exact .inr rfl | assumption))
  (@aj _ _ _ _ _ (@dA _ _ _ _ _ _ _ _ Dj rfl (@cA _ _ _ _ (pv 0)) (aB (i:=2) dw.nd rfl (Or.inl rfl))
   (@aj _ _ _ _ _ (@aL _ _ 3 _ _ _ _ dw.nd rfl (Or.inl rfl) (@bh _ _ _ _ _ (@aa _ _ _ _ _ (@ay _ _ _ _ _ _ _ aE (pv 2) ai (λ_ _=>rfl)) (@aa _ _ _ _ _ (@ay _ _ _ _ _ _ _ aE (pv 2) ai (λ_ _=>rfl)) ag rfl) rfl)) rfl (by first | exact .inl rfl | exact .inr rfl | assumption))
   (@ak _ _ _ (yf hu (pv 1) (pv 3) (@aQ _ _ _ _ _ _ _ _ da (wj hu (pv 1) (pv 3) ai ⟨rfl,rfl,rfl,rfl⟩) ai) rfl))) (λ_=>rfl))
  (@ak _ _ _ (@aM _ _ _ _ (bV ["pair", "counts"] [none,some 1] rfl (wM (pv 1)) rfl (λ_ _ _ _ _=>(aB (i:=0) dQ rfl (Or.inl rfl))) (λ_ _ _ _ _=>(d9 (PW.pt (jM (aF sj (@ay _ _ _ _ _ _ _ (bq (K:=K)) (pv 0) ai (λ_ _=>rfl)) (@ay _ _ _ _ _ _ _ (bq (K:=K)) (pv 0) ai (λ_ _=>rfl)) (aN _)) (ia (aF sk (ye hu (pv 1) (pv 0) (λ_ _=>rfl)) ai (aN _))))))) (λ_ _ _ _ _=>(pv 0))))))),?_⟩
 intro d hd
 have s0:ax H (upd H d (.dT [])):=ae hd _
 refine ⟨_,rfl,l,rfl,⟨_,ah s0 hl.1⟩,sd (xs:=ks.map λk:Addr×Tie=>V.ref k.1) (λi σ H'=>∃kvs prs c2 c3,σ=[some (.ref l),some (.ref d),c2,c3]/\H' d=some (.dT kvs)/\ax H H'/\vb kvs prs ((ks.map (·.2)).take i)) ⟨[],[],_,_,rfl,af,s0,rfl,HS,Bn _,λq=>rfl⟩ (λi σ H' _ ⟨_,_,_,_,_,_,s,_⟩=>ah s hl.1) ?_ ?_⟩
 ·rintro i x σ H' hx ⟨kvs,prs,c2,c3,rfl,ed,s,cn⟩
  rw[BQ] at hx
  cases ek:ks[i]? with
  | none=>rw[ek] at hx;cases hx
  | some k =>
   rw[ek] at hx
   cases hx
   have hk:=B4 ek
   obtain ⟨b,h1,h2⟩:=dJ (az s (hl.2 k hk))
   have et:(ks.map (·.2)).take (i+1)=(ks.map (·.2)).take i++[k.2]:=by rw[CT,BQ,ek];rfl
   refine ⟨_,rfl,k.1,_,0,_,rfl,rfl,h1,rfl,_,rfl,k.1,_,1,_,rfl,rfl,h1,rfl,cv,λpb nb =>?_⟩
   have sb:=ae nb (.tup [.int k.2.1,.int k.2.2.1])
   have eb:(upd H' pb (.tup [.int k.2.1,.int k.2.2.1])) pb=some (.tup ((kk (k.2.1,k.2.2.1)).map kV)):=af
   generalize upd H' pb (.tup [.int k.2.1,.int k.2.2.1])=H2 at sb eb
   have ed2:=sb _ _ ed
   have lk:kvs.length<BJ:=Cn cn.len (Cn (BS (Gn _ _) (BS (Fo (Bt.mp ek).1) lz)) (by decide:(1000:Nat)<BJ))
   obtain ⟨prs',cn'⟩:=cn.put k.2
   rw[<- et] at cn'
   have hD:H d=none:=hd
   refine ⟨_,rfl,d,rfl,.inr ⟨kvs,.inl ed2⟩,_,rfl,_,kg.t ed2 eb,?_⟩
   rw[cn.val]
   have eo:((if cnt ((ks.map (·.2)).take i) k.2.1 k.2.2.1=0 then none else some (V.int (cnt ((ks.map (·.2)).take i) k.2.1 k.2.2.1))).getD (V.int 0)) = .int (cnt ((ks.map (·.2)).take i) k.2.1 k.2.2.1):=by
    by_cases z:cnt ((ks.map (·.2)).take i) k.2.1 k.2.2.1=0
    ·rw[if_pos z,z];rfl
    ·rw[if_neg z];rfl
   rw[eo]
   refine ⟨_,_,rfl,rfl,_,rfl,_,rfl,d,_,rfl,wa.t ed2 eb lk,_,prs',_,_,rfl,af,λa o e =>?_,cn'⟩
   rw[ao (aA e hD)]
   exact (s.trans sb) _ _ e
 ·rintro σ H' ⟨kvs,prs,c2,c3,rfl,ed,s,cn⟩
  rw[Bg,B5 (by rw[Bg];exact Bn _)] at cn
  have hm:∀(i:Nat) (kv:List Key×V),kvs[i]? = some kv->∃pr:Int×Int,prs[i]? = some pr/\kv.1=kk pr:=λi kv e=>by
   have:=congrArg (λz=>z[i]?) cn.keys
   rw[BQ,BQ,e] at this
   cases ep:prs[i]? with
   | none=>rw[ep] at this;cases this
   | some pr=>rw[ep] at this;exact ⟨pr,rfl,BW this⟩
  have lp:prs.length=kvs.length:=by have:=congrArg List.length cn.keys;simpa using this.symm
  have lk:kvs.length<=1000:=BS cn.len (by rw[Bg];exact lz)
  refine ⟨_,rfl,d,kvs,rfl,ed,λob =>?_⟩
  have sF:ax H (upd H' d (.frz ob (.dT kvs))):=λa o e=>by rw[ao (aA e hd)];exact s _ _ e
  have eF:(upd H' d (.frz ob (.dT kvs))) d=some (.frz ob (.dT kvs)):=af
  generalize upd H' d (.frz ob (.dT kvs))=H2 at sF eF
  refine pV (λi ys H3=>H3=H2/\∃ps:List (Addr×Int×Int),ys=ps.map (λk=>V.ref k.1)/\(∀k∈ps,SqT K H2 k.1 [.int k.2.1,.int k.2.2])/\ps.map (·.2)=(prs.take i).filter λq=>decide (q.1<q.2) && decide (2<cnt (ks.map (·.2)) q.1 q.2)) ⟨rfl,[],rfl,λk hk=>(by cases hk),rfl⟩ (small lk) (λi ys H3 _ z=>by rw[z.1];exact eF) ?_ ?_
  ·rintro i b kv ys H3 hkv hb _ ⟨rfl,ps,rfl,hps,eps⟩ R1 R0 r1 r0
   obtain ⟨pr,epr,ekv⟩:=hm i kv hkv
   rw[ekv] at hb
   have hb2:SqT K H3 b [.int pr.1,.int pr.2]:=SqT.of hb
   have et:prs.take (i+1)=prs.take i++[pr]:=by rw[CT,epr];rfl
   have c0:cnt (ks.map (·.2)) pr.1 pr.2≠0:=(cn.mem pr).mp (B4 epr)
   have no:∀c:Bool,(decide (pr.1<pr.2) && decide (2<cnt (ks.map (·.2)) pr.1 pr.2))=false->R0 H3:=λ_ c=>r0 _ ⟨rfl,ps,rfl,hps,by rw[et,Dd,eps];simp[List.filter,c]⟩
   refine ⟨_,rfl,b,_,0,_,rfl,rfl,hb2,rfl,_,rfl,b,_,1,_,rfl,rfl,hb2,rfl,_,_,rfl,rfl,_,rfl,?_⟩
   by_cases c1:pr.1<pr.2
   ·rw[decide_eq_true c1]
    refine cQ ⟨_,rfl,_,rfl,d,.int (cnt (ks.map (·.2)) pr.1 pr.2),rfl,?_,?_⟩
    ·have:=kg.tF eF hb
     rw[cn.val,if_neg c0] at this
     exact this
    refine ⟨_,_,rfl,rfl,_,rfl,?_⟩
    by_cases c2:2<cnt (ks.map (·.2)) pr.1 pr.2
    ·rw[decide_eq_true (show ((cnt (ks.map (·.2)) pr.1 pr.2:Nat):Int)>2 by omega)]
     refine cQ ⟨_,rfl,r1 _ _ ⟨rfl,ps++[(b,pr)],by rw[BB];rfl,λk hk =>?_,?_⟩⟩
     ·rcases BC.mp hk with hk | hk
      ·exact hps k hk
      ·rw[Bz.mp hk];exact hb2
     ·rw[et,Dd,BB,eps]
      simp[List.filter,c1,c2]
    ·rw[decide_eq_false (show ¬ ((cnt (ks.map (·.2)) pr.1 pr.2:Nat):Int)>2 by omega)]
     exact bC (no true (by rw[decide_eq_false c2,JJ]))
   ·rw[decide_eq_false c1]
    exact bC (bC (no true (by rw[decide_eq_false c1,JC])))
  ·rintro ys H3 _ ⟨rfl,ps,rfl,hps,eps⟩ p np
   rw[B5 (by omega)] at eps
   have sp:=ae np (.lst (ps.map λk=>V.ref k.1))
   refine q p _ ps (sF.trans sp) af (λk hk=>ah sp (hps k hk)) (by rw[eps];exact cn.nd.filter _) λa b =>?_
   rw[eps,BX,cn.mem]
   simp only[Cj,decide_eq_true_eq]
   omega
end
open PySem L2
open Srt
theorem dR (k:Int):∀ps:List Int,inV (.int k) (ps.map V.int)=decide (k∈ps)
 | []=>by simp[inV]
 | p :: ps=>by
  have ih:=dR k ps
  unfold inV at ih ⊢
  rw[BF,E6,ih]
  have e:eqV (.int p) (.int k)=(p == k):=rfl
  rw[e]
  by_cases h:p=k
  ·subst h;simp
  ·rw[beq_eq_false_iff_ne.mpr h,Iw]
   apply decide_eq_decide.mpr
   rw[BR]
   exact ⟨.inr,λx=>x.elim (λy=>absurd y.symm h) id⟩
theorem dS (ps:List Int):(ps.map V.int).all ij=true:=by
 rw[List.all_map]
 exact D5.mpr λ_ _=>rfl
def dE (s:Sta):List Stp:=s.lf.filterMap λx=>(word s.ts x).map λw=>Stp.one w x
def pairsOf (s:Sta):List Stp:=s.lf.flatMap λa=>(s.lf.filter λb=>decide (a<b) && decide (2<cnt s.ts a b)).map λb=>Stp.two a b
def raw (s:Sta):List Stp:=dE s++pairsOf s
def leS (a b:Stp):Bool := !HT.lexLt (bj b.cs) (bj a.cs)
def gu (s:Sta):List Stp:=(raw s).mergeSort leS
theorem vd (a b c:Stp)(h1:leS a b=true)(h2:leS b c=true):leS a c=true:=by
 unfold leS at *
 rw[Et] at *
 cases h:HT.lexLt (bj c.cs) (bj a.cs) with
 | false=>rfl
 | true =>
  rcases nA _ (bj b.cs) _ h with z | z
  ·rw[z] at h2;cases h2
  ·rw[z] at h1;cases h1
theorem ve (a b:Stp):(leS a b || leS b a)=true:=by
 unfold leS
 cases h:HT.lexLt (bj b.cs) (bj a.cs) with
 | false=>simp
 | true =>
  cases h2:HT.lexLt (bj a.cs) (bj b.cs) with
  | false=>simp
  | true=>have:=lex_trans _ _ _ h h2;rw[lex_irrefl] at this;cases this
theorem wY:∀a b:Stp,pP a.cs b.cs
 | .one _ _,.one _ _=>⟨rfl,rfl,trivial⟩
 | .one _ _,.two _ _=>⟨rfl,rfl,trivial⟩
 | .two _ _,.one _ _=>⟨rfl,rfl,trivial⟩
 | .two _ _,.two _ _=>⟨rfl,rfl,rfl,trivial⟩
theorem wZ:∀{a b:Stp},a.cs=b.cs->a=b
 | .one w x,.one v y,h=>by
  simp only[Stp.cs,E2,Cell.s.injEq,Cell.i.injEq,and_true] at h
  rw[h.1,h.2]
 | .one w x,.two y z,h=>by simp[Stp.cs] at h
 | .two y z,.one w x,h=>by simp[Stp.cs] at h
 | .two w x,.two v y,h=>by
  simp only[Stp.cs,E2,Cell.i.injEq,and_true,true_and] at h
  rw[h.1,h.2]
theorem rO {l:List Stp}{s:Sta}(p:l.Perm (raw s))(o:l.Pairwise λa b=>HT.lexLt (bj b.cs) (bj a.cs)=false):l=gu s:=by
 refine dr (λt:Stp=>bj t.cs) (p.trans (Dm _ leS).symm) (λa _ b _ h=>wZ (fK (wY a b) h)) o ?_
 refine (DY vd ve (raw s)).imp λ{a b} h =>?_
 unfold leS at h
 rwa [Et] at h
theorem vf {s:Sta}{t:Stp}:t∈gu s↔t∈raw s:=(Dm _ leS).mem_iff
theorem An:Alike (λcs=>∃t:Stp,cs=t.cs):=⟨λa b ⟨t,e1⟩ ⟨u,e2⟩=>by subst e1 e2;exact wY t u,.inr λa ⟨t,e⟩=>by subst e;cases t <;> exact ⟨_,rfl⟩⟩
structure Wf (s:Sta):Prop extends Sml s where
 nd:s.lf.Nodup
 ends:∀t∈s.ts,t.1∈s.lf/\t.2.1∈s.lf
theorem w9 {ts:List Tie}{a b:Int}(h:0<cnt ts a b):∃t∈ts,t.1=a/\t.2.1=b:=by
 unfold cnt at h
 obtain ⟨t,ht⟩:=List.exists_mem_of_length_pos h
 have:=BX.mp ht
 exact ⟨t,this.1,of_decide_eq_true this.2⟩
theorem dU {s:Sta}(W:Wf s){a b:Int}:Stp.two a b∈pairsOf s↔a<b/\2<cnt s.ts a b:=by
 unfold pairsOf
 rw[Jo]
 constructor
 ·rintro ⟨x,hx,h⟩
  obtain ⟨y,hy,e⟩:=Bw.mp h
  cases e
  have:=(BX.mp hy).2
  rw[Cj,decide_eq_true_iff,decide_eq_true_iff] at this
  exact this
 ·intro h
  obtain ⟨t,ht,e1,e2⟩:=w9 (show 0<cnt s.ts a b by omega)
  obtain ⟨m1,m2⟩:=W.ends t ht
  rw[e1] at m1
  rw[e2] at m2
  exact ⟨a,m1,Bw.mpr ⟨b,BX.mpr ⟨m2,by rw[Cj,decide_eq_true_iff,decide_eq_true_iff];exact h⟩,rfl⟩⟩
theorem gv {s:Sta}{t:Stp}(h:t∈pairsOf s):∃a b,t = .two a b:=by
 unfold pairsOf at h
 obtain ⟨x,hx,h⟩:=Jo.mp h
 obtain ⟨y,hy,e⟩:=Bw.mp h
 exact ⟨x,y,e.symm⟩
theorem xb {s:Sta}(W:Wf s):(pairsOf s).Nodup:=by
 unfold pairsOf
 refine List.pairwise_flatMap.mpr ⟨λa _ =>?_,W.nd.imp λ{a b} n x hx y hy =>?_⟩
 ·exact B0.mpr ((W.nd.filter _).imp λh z=>h (by cases z;rfl))
 ·obtain ⟨c,_,rfl⟩:=Bw.mp hx
  obtain ⟨d,_,rfl⟩:=Bw.mp hy
  exact λz=>n (by cases z;rfl)
theorem rP {s:Sta}(W:Wf s){l:List (Int×Int)}(n:l.Nodup)(m:∀a b,(a,b)∈l↔a<b/\2<cnt s.ts a b):(l.map λq=>Stp.two q.1 q.2).Perm (pairsOf s):=by
 refine (Fb ?_ (xb W)).mpr λt =>?_
 ·exact B0.mpr (n.imp λ{p q} h z=>h (by obtain ⟨p1,p2⟩:=p;obtain ⟨q1,q2⟩:=q;cases z;rfl))
 ·constructor
  ·intro h
   obtain ⟨⟨a,b⟩,hq,rfl⟩:=Bw.mp h
   exact (dU W).mpr ((m a b).mp hq)
  ·intro h
   obtain ⟨a,b,rfl⟩:=gv h
   exact Bw.mpr ⟨(a,b),(m a b).mpr ((dU W).mp h),rfl⟩
theorem kO {s:Sta}{w:Str}{x:Int}:Stp.one w x∈dE s↔x∈s.lf/\word s.ts x=some w:=by
 unfold dE
 rw[EO]
 constructor
 ·rintro ⟨y,hy,e⟩
  cases h:word s.ts y with
  | none=>rw[h] at e;cases e
  | some v=>rw[h] at e;cases e;exact ⟨hy,h⟩
 ·rintro ⟨h1,h2⟩
  exact ⟨x,h1,by rw[h2];rfl⟩
theorem p9 {s:Sta}{t:Stp}(h:t∈dE s):∃w x,t = .one w x:=by
 unfold dE at h
 obtain ⟨y,hy,e⟩:=EO.mp h
 cases h:word s.ts y with
 | none=>rw[h] at e;cases e
 | some v=>rw[h] at e;cases e;exact ⟨_,_,rfl⟩
theorem yG (ws:List (Option Str×Int)):∀lf:List Int,∀f:Int->Option Str,ws=lf.map (λx=>(f x,x))->lf.filterMap (λx=>(f x).map λw=>Stp.one w x)=(ws.filter λb=>b.1.isSome).map λb=>Stp.one (b.1.getD "") b.2:=by
 intro lf f e
 subst e
 induction lf with
 | nil=>rfl
 | cons x lf ih =>
  rw[BF,Ey]
  cases h:f x with
  | none =>
   rw[DA (by simp)]
   exact ih
  | some w =>
   rw[DB (by simp),BF, <- ih]
   rfl
theorem tQ {s:Sta}(W:Wf s):(raw s).length<=200000:=by
 unfold raw dE pairsOf
 have h1:(s.lf.filterMap λx=>(word s.ts x).map λw=>Stp.one w x).length<=s.lf.length:=List.length_filterMap_le _ _
 have h2:∀l:List Int,(l.flatMap λa=>(s.lf.filter λb=>decide (a<b) && decide (2<cnt s.ts a b)).map λb=>Stp.two a b).length<=l.length*s.lf.length:=by
  intro l
  induction l with
  | nil=>exact BU _
  | cons a l ih =>
   rw[Er,Bj,Bg,Bs,Nat.succ_mul]
   have:=DP (λb=>decide (a<b) && decide (2<cnt s.ts a b)) s.lf
   omega
 have h3:=h2 s.lf
 have h4:=W.lf
 have h5:s.lf.length*s.lf.length<=400*400:=Nat.mul_le_mul h4 h4
 rw[Bj]
 omega
theorem big {n:Nat}(h:n<=400000):n<=BJ:=BS h (by decide)
@[irreducible] def jD (K:Be):Sp:=λvs H Q _=>∃(p:Addr) (s:Sta),vs=[.ref p]/\StA K H p s/\Wf s/\∀(l:Addr) (H':Hp) (os:List (Addr×Stp)),ax H H'->H l=none->H' l=some (.lst (os.map λk =>.ref k.1))->(∀k∈os,RowC K H' k.1 k.2.cs)->os.map (·.2)=gu s->Q (.ref l) H'
theorem dy {K:Be}{vs:List V}{H:Hp}{Q:VK}{E:XK}:jD K vs H Q E↔∃(p:Addr) (s:Sta),vs=[.ref p]/\StA K H p s/\Wf s/\∀(l:Addr) (H':Hp) (os:List (Addr×Stp)),ax H H'->H l=none->H' l=some (.lst (os.map λk =>.ref k.1))->(∀k∈os,RowC K H' k.1 k.2.cs)->os.map (·.2)=gu s->Q (.ref l) H':=by
 delta jD
 exact DN
section
variable  {P:BD}{w:Cb}{K:Be}{mg:Str->Option Bh}{base:Heap}{f T:Addr}{fd:Cr}
theorem g6:aO ["state", "words", "steps"] ["state"] (aq iX):=⟨rfl,rfl,rfl,by decide +kernel,rfl,by decide +kernel,by decide +kernel⟩
theorem ff:(["place", "state"]:List Str).Nodup:=by decide +kernel
theorem jw:(["step"]:List Str).Nodup:=by decide +kernel
theorem jx:(["pair"]:List Str).Nodup:=by decide +kernel
theorem rQ (F:Fun K "steps_now" "steps_now" iX f fd)(B:Blt mg)(cPlaceWord:Cal P w K mg base 3 "place_word" ["ties", "place"] (kJ K))(cFullPairs:Cal P w K mg base 1 "full_pairs" ["ties"] (iE K)):bF P w K mg base CX0 4 f fd ["state"] (jD K):=by
 refine F.ok g6 (λvs H Q E h =>?_) (λcdv A outer s H vs Q E hr h =>?_)
 ·obtain ⟨_,_,rfl,_⟩:=dy.mp h
  rfl
 obtain ⟨p,z,rfl,hs,W,q⟩:=dy.mp h
 refine ⟨_,(@aj _ _ _ _ _ (de (i:=1) ["place", "state"] [none,some 0] rfl g6.nd rfl rfl (@cA _ _ _ _ (@ay _ _ _ _ _ _ _ aE (pv 0) ai (λ_ _=>rfl))) rfl (λ_ _ _ _ _=>(aB (i:=0) ff rfl (Or.inl rfl))) (λ_ _ _ _ _=>fE) (λ_ _ _ _ _=>(@bh _ _ _ _ _ (@aa _ _ _ _ _ (aH cPlaceWord hr (by decide) rfl (@aa _ _ _ _ _ (@ay _ _ _ _ _ _ _ (bq (K:=K)) (pv 1) ai (λ_ _=>rfl)) (@aa _ _ _ _ _ (pv 0) ag rfl) rfl)) (@aa _ _ _ _ _ (pv 0) ag rfl) rfl))))
  (@aj _ _ _ _ _ (de (i:=2) ["step"] [none] rfl g6.nd rfl rfl (@fX _ _ _ _ (pv 1)) rfl (λ_ _ _ _ _=>(aB (i:=0) jw rfl (Or.inl rfl))) (λ_ _ _ _ _=>(d9 (aF xC (@ay _ _ _ _ _ _ _ (bq (K:=K)) (pv 0) ai (λ_ _=>rfl)) vo (aN _)))) (λ_ _ _ _ _=>(pv 0)))
  (@ak _ _ _ (@aM _ _ _ _ (aD (cW (hu8 hr)) rfl B.b_sorted bE (@aa _ _ _ _ _ (@aQ _ _ _ _ _ _ _ _ f7 (pv 2) (bV ["pair"] [none] rfl (@fX _ _ _ _ (aH cFullPairs hr (by decide) rfl (@aa _ _ _ _ _ (@ay _ _ _ _ _ _ _ aE (pv 0) ai (λ_ _=>rfl)) ag rfl))) rfl (λ_ _ _ _ _=>(aB (i:=0) jx rfl (Or.inl rfl))) (λ_ _ _ _ _=>fE) (λ_ _ _ _ _=>(@bh _ _ _ _ _ (@aa _ _ _ _ _ dX (@aa _ _ _ _ _ (@ay _ _ _ _ _ _ _ (bq (K:=K)) (pv 0) ai (λ_ _=>rfl)) (@aa _ _ _ _ _ (@ay _ _ _ _ _ _ _ (bq (K:=K)) (pv 0) ai (λ_ _=>rfl)) ag rfl) rfl) rfl))))) ag rfl)))))),?_⟩
 obtain ⟨a,b,c,ks,h1,h2,h3,h4,h5⟩:=hs
 have lk:ks.length<=400:=by have:=W.ts;rw[<- h4,Bg] at this;exact this
 have ll:=W.lf
 refine ⟨_,rfl,p,_,0,_,rfl,rfl,h1,rfl,a,rfl,⟨_,h2⟩,eI (λH p (u:Option Str×Int)=>SqT K H p [mM u.1,.int u.2]) (λH1 H2 p b s h=>ah s h) (λi:Int=>V.int i) (λx=>(word z.ts x,x)) (λ_=>true) z.lf h2 (small (by omega)) (λu hm H3 s3 R r=>r H3 (ax.refl _)) (λx hm _ H3 s3 R rr =>?e) λH3 us la s3 ru eu na =>?c⟩
 case e =>
  refine ⟨_,rfl,p,_,1,_,rfl,rfl,ah s3 h1,rfl,_,rfl,e7.mpr ⟨b,ks,x,rfl,h3.same s3,by omega,λH4 s4 =>?_⟩⟩
  rw[h4]
  exact ⟨_,rfl,cv,λpt nt=>rr pt _ (s4.trans (ae nt _)) (SqT.of af)⟩
 case c =>
  rw[Dl.mpr (λ_ _=>rfl)] at eu
  have lu:us.length<=400:=by have:=congrArg List.length eu;simp only[Bg] at this;omega
  have hl0:H la=none:=by
   cases e:H la with
   | none=>rfl
   | some o=>rw[s3 _ _ e] at na;cases na
  have s4:=s3.trans (ae na (.lst (us.map λk=>V.ref k.1)))
  have ru4:∀k∈us,SqT K (upd H3 la (.lst (us.map λk=>V.ref k.1))) k.1 [mM k.2.1,.int k.2.2]:=λk hk=>ah (ae na _) (ru k hk)
  have el:(upd H3 la (.lst (us.map λk=>V.ref k.1))) la=_:=af
  generalize upd H3 la (.lst (us.map λk=>V.ref k.1))=H4 at s4 ru4 el
  refine ⟨_,rfl,la,rfl,⟨_,SqL.of el⟩,df (λk:Addr×Option Str×Int=>V.ref k.1) (λk=>V.ref k.1) (λk=>k.2.1.isSome) us (SqL.of el) (small (by omega)) (λk hk R r=>⟨_,rfl,k.1,_,0,_,rfl,rfl,ru4 k hk,rfl,rfl,_,rfl,?t⟩) (λk hk _ R r=>⟨_,rfl,r⟩) λlb nb =>?d⟩
  case t =>
   cases e:k.2.1 with
   | none=>rw[e] at r;exact r
   | some w=>rw[e] at r;exact r
  case d =>
  obtain ⟨vs,evs⟩:∃vs:List (Addr×Stp),vs=(us.filter λk=>k.2.1.isSome).map λk=>(k.1,Stp.one (k.2.1.getD "") k.2.2):=⟨_,rfl⟩
  have ev1:((us.filter λk=>k.2.1.isSome).map λk=>V.ref k.1)=vs.map λk=>V.ref k.1:=by rw[evs,BP];rfl
  have ev2:vs.map (·.2)=dE z:=by
   have:=yG (us.map (·.2)) z.lf (word z.ts) eu
   unfold dE
   rw[this,evs,Es,BP,BP];rfl
  rw[ev1]
  have s5:=s4.trans (ae nb (.lst (vs.map λk=>V.ref k.1)))
  have rv:∀k∈vs,RowC K (upd H4 lb (.lst (vs.map λk=>V.ref k.1))) k.1 k.2.cs:=λk hk=>by
   rw[evs] at hk
   obtain ⟨k1,hk1,rfl⟩:=Bw.mp hk
   obtain ⟨m1,m2⟩:=BX.mp hk1
   have:=ah (ae nb (.lst (vs.map λk=>V.ref k.1))) (ru4 k1 m1)
   obtain ⟨a1,o1,x1⟩:=k1
   cases o1 with
   | none=>cases m2
   | some w=>exact ⟨_,this,rfl,rfl,trivial⟩
  have eb:(upd H4 lb (.lst (vs.map λk=>V.ref k.1))) lb=_:=af
  generalize upd H4 lb (.lst (vs.map λk=>V.ref k.1))=H5 at s5 rv eb
  have lv:vs.length<=400:=by
   rw[evs,Bg]
   exact BS (DP _ _) lu
  refine ⟨_,rfl,_,rfl,p,_,1,_,rfl,rfl,ah s5 h1,rfl,dv.mpr ⟨b,ks,rfl,h3.same s5,by omega,λlp H6 ps s6 ep rp np mp =>?_⟩⟩
  rw[h4] at mp
  have pp:=rP W np mp
  have lps:ps.length<=200000:=by
   have e1:=pp.length_eq
   have e2:=tQ W
   unfold raw at e2
   rw[Bj] at e2
   rw[Bg,Bg] at e1
   omega
  refine ⟨lp,rfl,⟨_,SqL.of ep⟩,rb (λH p (u:Stp)=>RowC K H p u.cs) (λH1 H2 p b s h=>az s h) (λu:Addr×Int×Int=>V.ref u.1) (λu=>Stp.two u.2.1 u.2.2) (λ_=>true) ps (SqL.of ep) (big (by omega)) (λu hm H3 s3 R r=>r H3 (ax.refl _)) (λu hm _ H7 s7 R rr =>?f) λH7 ts lt s7 rt et nt =>?g⟩
  case f =>
   have hu:=ah s7 (rp u hm)
   exact ⟨_,rfl,u.1,_,0,_,rfl,rfl,hu,rfl,_,rfl,u.1,_,1,_,rfl,rfl,hu,rfl,dC,λp1 n1=>rr p1 _ (ae n1 _) ⟨_,SqT.of af,rfl,rfl,rfl,trivial⟩⟩
  case g =>
  rw[Dl.mpr (λ_ _=>rfl)] at et
  have s8:=((s5.trans s6).trans s7).trans (ae nt (.lst (ts.map λk=>V.ref k.1)))
  have s58:=(s6.trans s7).trans (ae nt (.lst (ts.map λk=>V.ref k.1)))
  have s78:=ae nt (.lst (ts.map λk=>V.ref k.1))
  have e8:(upd H7 lt (.lst (ts.map λk=>V.ref k.1))) lt=_:=af
  have lts:ts.length=ps.length:=by have:=congrArg List.length et;simpa using this
  generalize upd H7 lt (.lst (ts.map λk=>V.ref k.1))=H8 at s8 s58 s78 e8
  refine ⟨lb,lt,_,_,rfl,rfl,SqL.of (s58 _ _ eb),SqL.of e8,big (by rw[Bg,Bg];omega),λpl nl =>?_⟩
  rw[<- BB]
  have s9:=s8.trans (ae nl (.lst ((vs++ts).map λk=>V.ref k.1)))
  have s89:=ae nl (.lst ((vs++ts).map λk=>V.ref k.1))
  have e9:(upd H8 pl (.lst ((vs++ts).map λk=>V.ref k.1))) pl=_:=af
  generalize upd H8 pl (.lst ((vs++ts).map λk=>V.ref k.1))=H9 at s9 s89 e9
  have r9:∀k∈vs++ts,RowC K H9 k.1 k.2.cs:=λk hk=>by
   rcases BC.mp hk with hk | hk
   ·exact az (s58.trans s89) (rv k hk)
   ·exact az (s78.trans s89) (rt k hk)
  refine ⟨_,pl,(vs++ts).map (λk:Addr×Stp=>(k.1,k.2.cs)),An,rfl,.inl (by rw[BP];exact SqL.of e9),λk hk =>?_,λls out ns pm pw =>?_⟩
  ·obtain ⟨k',hk',rfl⟩:=Bw.mp hk
   exact ⟨r9 k' hk',k'.2,rfl⟩
  obtain ⟨os,pmo,rfl⟩:=bH pm
  have hs0:H ls=none:=by
   cases e:H ls with
   | none=>rfl
   | some o=>rw[s9 _ _ e] at ns;cases ns
  refine q ls _ os (s9.trans (ae ns _)) hs0 (by rw[BP];exact af) (λk hk=>az (ae ns _) (r9 k (pmo.mem_iff.mp hk))) (rO ?_ ?_)
  ·unfold raw
   have e1:(vs++ts).map (·.2)=dE z++ps.map (λu=>Stp.two u.2.1 u.2.2):=by rw[BB,ev2,et]
   refine (pmo.map (·.2)).trans ?_
   rw[e1]
   refine Dp _ ?_
   rw[BP] at pp
   exact pp
  ·rw[B0] at pw ⊢
   exact pw
end
open PySem L2
open Srt
def oc (w:Str)(is:List Int):List Cell :=.s w :: is.map Cell.i
theorem qb {K:Be}{H:Hp}:∀{is:List Int} {xs:List V},bX K H xs (is.map Cell.i)->xs=is.map V.int
 | [],[],_=>rfl
 | [],_ :: _,h=>h.elim
 | _ :: _,[],h=>h.elim
 | i :: is,x :: xs,⟨a,b⟩=>by
  cases (show x=V.int i from a)
  rw[BF, <- qb b]
theorem qc {K:Be}{H:Hp}:∀is:List Int,bX K H (is.map V.int) (is.map Cell.i)
 | []=>trivial
 | _ :: is=>⟨rfl,qc is⟩
theorem xc {K:Be}{H:Hp}{q:Addr}{w:Str}{is:List Int}(h:RowC K H q (oc w is)):SqT K H q (.str w :: is.map V.int):=by
 obtain ⟨xs,h1,h2⟩:=h
 obtain ⟨x,ys,rfl,e,h3⟩:=bX.cons h2
 cases (show x=V.str w from e)
 rw[qb h3] at h1
 exact h1
theorem y8:∀t:Stp,∃w is,t.cs=oc w is
 | .one w x=>⟨w,[x],rfl⟩
 | .two x y=>⟨"many",[x,y],rfl⟩
theorem nY {w v:Str}{is js:List Int}(h:oc w is=oc v js):w=v/\is=js:=by
 unfold oc at h
 rw[E2,Cell.s.injEq] at h
 refine ⟨h.1,?_⟩
 have:∀as bs:List Int,as.map Cell.i=bs.map Cell.i->as=bs:=by
  intro as
  induction as with
  | nil =>
   intro bs h
   cases bs with
   | nil=>rfl
   | cons b bs=>cases h
  | cons a as ih =>
   intro bs h
   cases bs with
   | nil=>cases h
   | cons b bs =>
    rw[BF,BF,E2,Cell.i.injEq] at h
    rw[h.1,ih bs h.2]
 exact this _ _ h.2
def can (s:Sta)(w:Str)(is:List Int):Bool:=decide (oc w is∈(raw s).map Stp.cs)
theorem fg {s:Sta}{t:Stp}:t∈raw s↔t∈dE s\/t∈pairsOf s:=by
 unfold raw
 exact BC
theorem yH {s:Sta}{w:Str}{x:Int}:oc w [x]∈(raw s).map Stp.cs↔x∈s.lf/\word s.ts x=some w:=by
 rw[<- kO]
 constructor
 ·intro h
  obtain ⟨t,ht,e⟩:=Bw.mp h
  rw[show t = .one w x from wZ (e.trans rfl)] at ht
  rcases fg.mp ht with h | h
  ·exact h
  ·obtain ⟨a,b,e⟩:=gv h
   cases e
 ·exact λh=>Bw.mpr ⟨.one w x,fg.mpr (.inl h),rfl⟩
theorem yI {s:Sta}(W:Wf s){w:Str}{x y:Int}:oc w [x,y]∈(raw s).map Stp.cs↔w = "many" /\ x<y/\2<cnt s.ts x y:=by
 constructor
 ·intro h
  obtain ⟨t,ht,e⟩:=Bw.mp h
  cases t with
  | one v z=>have:=(nY (w:=v) (is:=[z]) e).2;cases this
  | two a b =>
   obtain ⟨e1,e2⟩:=nY (w := "many") (is:=[a,b]) e
   cases e2
   refine ⟨e1.symm,?_⟩
   rcases fg.mp ht with h | h
   ·obtain ⟨v,z,e⟩:=p9 h
    cases e
   ·exact (dU W).mp h
 ·rintro ⟨rfl,h⟩
  exact Bw.mpr ⟨.two x y,fg.mpr (.inr ((dU W).mpr h)),rfl⟩
theorem Ao {s:Sta}{w:Str}{is:List Int}(h1:is.length≠1)(h2:is.length≠2):can s w is=false:=by
 refine decide_eq_false λh =>?_
 obtain ⟨t,ht,e⟩:=Bw.mp h
 cases t with
 | one v z=>have:=(nY (w:=v) (is:=[z]) e).2;subst this;exact h1 rfl
 | two a b=>have:=(nY (w := "many") (is:=[a,b]) e).2;subst this;exact h2 rfl
@[irreducible] def kP (K:Be):Sp:=λvs H Q _=>∃(p q:Addr) (s:Sta) (w:Str) (is:List Int),vs=[.ref p,.ref q]/\StA K H p s/\Wf s/\SqT K H q (.str w :: is.map V.int)/\∀H',ax H H'->Q (.bl (can s w is)) H'
theorem gw {K:Be}{vs:List V}{H:Hp}{Q:VK}{E:XK}:kP K vs H Q E↔∃(p q:Addr) (s:Sta) (w:Str) (is:List Int),vs=[.ref p,.ref q]/\StA K H p s/\Wf s/\SqT K H q (.str w :: is.map V.int)/\∀H',ax H H'->Q (.bl (can s w is)) H':=by
 delta kP
 exact DN
section
variable  {P:BD}{w:Cb}{K:Be}{mg:Str->Option Bh}{base:Heap}{f T:Addr}{fd:Cr}
theorem yJ:aO ["state", "step"] ["state", "step"] (aq rB):=⟨rfl,rfl,rfl,by decide +kernel,rfl,by decide +kernel,by decide +kernel⟩
theorem yK (F:Fun K "can_do" "can_do" rB f fd)(B:Blt mg)(cPlaceWord:Cal P w K mg base 3 "place_word" ["ties", "place"] (kJ K))(cFullPairs:Cal P w K mg base 1 "full_pairs" ["ties"] (iE K)):bF P w K mg base CX0 4 f fd ["state", "step"] (kP K):=by
 refine F.ok yJ (λvs H Q E h =>?_) (λcdv A outer s H vs Q E hr h =>?_)
 ·obtain ⟨_,_,_,_,_,rfl,_⟩:=gw.mp h
  rfl
 obtain ⟨p,r,z,wd,is,rfl,hs,W,hq,q⟩:=gw.mp h
 refine ⟨_,(@aj _ _ _ _ _ (@bM _ _ _ _ _ _ _ _ (aF bZ (aD bz rfl B.b_len eV (@aa _ _ _ _ _ (pv 1) ag rfl)) ai (aN _)) (@ak _ _ _ (@aM _ _ _ _ (qv (cR iP (@ay _ _ _ _ _ _ _ aE (pv 1) ai (λ_ _=>rfl)) (@ay _ _ _ _ _ _ _ aE (pv 0) ai (λ_ _=>rfl)) rfl) (m7 (cR bZ (@ay _ _ _ _ _ _ _ aE (pv 1) ai (λ_ _=>rfl)) (aH cPlaceWord hr (by decide) rfl (@aa _ _ _ _ _ (@ay _ _ _ _ _ _ _ aE (pv 0) ai (λ_ _=>rfl)) (@aa _ _ _ _ _ (@ay _ _ _ _ _ _ _ aE (pv 1) ai (λ_ _=>rfl)) ag rfl) rfl)) (aN _)))))) aU)
  (@aj _ _ _ _ _ (@bM _ _ _ _ _ _ _ _ (aF bZ (aD bz rfl B.b_len eV (@aa _ _ _ _ _ (pv 1) ag rfl)) ai (aN _)) (@ak _ _ _ (@aM _ _ _ _ (qv (cR bZ (@ay _ _ _ _ _ _ _ aE (pv 1) ai (λ_ _=>rfl)) dX (aN _)) (m7 (cR (Ab (K:=K) (hu8 hr)) (@bh _ _ _ _ _ (@aa _ _ _ _ _ (@ay _ _ _ _ _ _ _ aE (pv 1) ai (λ_ _=>rfl)) (@aa _ _ _ _ _ (@ay _ _ _ _ _ _ _ aE (pv 1) ai (λ_ _=>rfl)) ag rfl) rfl)) (aH cFullPairs hr (by decide) rfl (@aa _ _ _ _ _ (@ay _ _ _ _ _ _ _ aE (pv 0) ai (λ_ _=>rfl)) ag rfl)) rfl))))) aU)
  (@ak _ _ _ (@aM _ _ _ _ hZ)))),?_⟩
 obtain ⟨a,b,c,ks,h1,h2,h3,h4,h5⟩:=hs
 have lk:ks.length<=400:=by have:=W.ts;rw[<- h4,Bg] at this;exact this
 have ln:∀n:Int,(is.length:Int)+1≠n->decide (V.int (((V.str wd :: is.map V.int).length:Nat):Int)=V.int n)=false:=λn h=>decide_eq_false λe=>h (by have:=V.int.inj e;rw[Bs,Bg] at this;omega)
 refine ⟨_,rfl,r,_,rfl,.inr hq,rfl,_,rfl,?_⟩
 by_cases l1:is.length=1
 ·obtain ⟨x,rfl⟩:∃x,is=[x]:=by
   match is,l1 with
   | [x],_=>exact ⟨x,rfl⟩
  rw[decide_eq_true (by rfl)]
  refine cQ ⟨_,rfl,r,_,1,_,rfl,rfl,hq,rfl,_,rfl,p,_,0,_,rfl,rfl,h1,rfl,a,_,rfl,.inr h2,rfl,dS z.lf,?_⟩
  rw[if_neg Bo,dR]
  refine ⟨_,rfl,?_⟩
  have qq:∀H',ax H H'->Q (.bl (decide (x∈z.lf/\word z.ts x=some wd))) H':=λH' s=>by
   have:=q H' s
   unfold can at this
   rwa [decide_eq_decide.mpr yH] at this
  by_cases c1:x∈z.lf
  ·rw[decide_eq_true c1]
   refine cQ ⟨_,rfl,r,_,0,_,rfl,rfl,hq,rfl,_,rfl,p,_,1,_,rfl,rfl,h1,rfl,_,rfl,r,_,1,_,rfl,rfl,hq,rfl,e7.mpr ⟨b,ks,x,rfl,h3,by omega,λH1 s1 =>?_⟩⟩
   rw[h4]
   have q1:=qq H1 s1
   refine ⟨by cases word z.ts x <;> rfl,?_⟩
   rw[show decide (V.str wd=mM (word z.ts x))=decide (x∈z.lf/\word z.ts x=some wd) from decide_eq_decide.mpr ?_]
   ·exact q1
   cases e:word z.ts x with
   | none=>exact ⟨λy=>(by cases y),λy=>(by cases y.2)⟩
   | some v=>exact ⟨λe=>⟨c1,by rw[V.str.inj e]⟩,λe=>by rw[BW e.2];rfl⟩
  ·rw[decide_eq_false c1]
   have:=qq H (ax.refl _)
   rw[decide_eq_false (λh=>c1 h.1)] at this
   exact bC this
 ·rw[ln 2 (by omega)]
  refine bC ⟨_,rfl,r,_,rfl,.inr hq,rfl,_,rfl,?_⟩
  by_cases l2:is.length=2
  ·obtain ⟨x,y,rfl⟩:∃x y,is=[x,y]:=by
    match is,l2 with
    | [x,y],_=>exact ⟨x,y,rfl⟩
   rw[decide_eq_true (by rfl)]
   have qq:∀H',ax H H'->Q (.bl (decide (wd = "many" /\ x<y/\2<cnt z.ts x y))) H':=λH' s=>by
    have:=q H' s
    unfold can at this
    rwa [decide_eq_decide.mpr (yI W)] at this
   refine cQ ⟨_,rfl,r,_,0,_,rfl,rfl,hq,rfl,rfl,_,rfl,?_⟩
   by_cases c1:wd = "many"
   ·rw[decide_eq_true (show V.str wd=V.str "many" by rw[c1])]
    refine cQ ⟨_,rfl,r,_,1,_,rfl,rfl,hq,rfl,_,rfl,r,_,2,_,rfl,rfl,hq,rfl,cv,λpt nt=>⟨_,rfl,p,_,1,_,rfl,rfl,ah (ae nt _) h1,rfl,dv.mpr ⟨b,ks,rfl,h3.same (ae nt _),by omega,λlp H1 ps s1 ep rp np mp =>?_⟩⟩⟩
    have et:=s1 _ _ (af:(upd H pt (.tup [.int x,.int y])) pt=_)
    rw[h4] at mp
    refine ⟨lp,pt,ps.map (λk:Addr×Int×Int=>(k.1,[Cell.i k.2.1,Cell.i k.2.2])),[.i x,.i y],rfl,rfl,.inl (by rw[BP];exact SqL.of ep),λk hk =>?_,⟨_,SqT.of et,rfl,rfl,trivial⟩,?_⟩
    ·obtain ⟨k',hk',rfl⟩:=Bw.mp hk
     exact ⟨_,rp k' hk',rfl,rfl,trivial⟩
    have:=qq H1 ((ae nt _).trans s1)
    have e:decide ([Cell.i x,Cell.i y]∈(ps.map (λk:Addr×Int×Int=>(k.1,[Cell.i k.2.1,Cell.i k.2.2]))).map (·.2))=decide (wd = "many" /\ x<y/\2<cnt z.ts x y):=by
     refine decide_eq_decide.mpr ?_
     rw[and_iff_right c1, <- mp,BP,Bw,Bw]
     constructor
     ·rintro ⟨k,hk,e⟩
      have e:[Cell.i k.2.1,Cell.i k.2.2]=[Cell.i x,Cell.i y]:=e
      simp only[E2,Cell.i.injEq,and_true] at e
      exact ⟨k,hk,Ik e.1 e.2⟩
     ·rintro ⟨k,hk,e⟩
      exact ⟨k,hk,by show [Cell.i k.2.1,Cell.i k.2.2]=_;rw[e]⟩
    rw[e]
    exact this
   ·rw[decide_eq_false (show ¬ V.str wd=V.str "many" from λe=>c1 (V.str.inj e))]
    have:=qq H (ax.refl _)
    rw[decide_eq_false (λh=>c1 h.1)] at this
    exact bC this
  ·rw[ln 3 (by omega)]
   have:=q H (ax.refl _)
   rw[Ao l1 l2] at this
   exact bC this
end
open PySem L2
open Srt
theorem Bb {d:Int}(h0:0<=d)(h1:d<8):∃N:Int,atI ([.int 0,.int 1,.int 3,.int 5,.int 7,.int 9,.int 11,.int 14]:List V) d=some (.int N)/\0<=N/\N<=14:=by
 have:d=0\/d=1\/d=2\/d=3\/d=4\/d=5\/d=6\/d=7:=by omega
 rcases this with rfl | rfl | rfl | rfl | rfl | rfl | rfl | rfl <;> exact ⟨_,rfl,by decide,by decide⟩
theorem three {d a b c:Int}(h0:0<=d)(h1:d<=2):∃y:Int,atI ([.int a,.int b,.int c]:List V) d=some (.int y)/\(y=a\/y=b\/y=c):=by
 have:d=0\/d=1\/d=2:=by omega
 rcases this with rfl | rfl | rfl
 ·exact ⟨a,rfl,.inl rfl⟩
 ·exact ⟨b,rfl,.inr (.inl rfl)⟩
 ·exact ⟨c,rfl,.inr (.inr rfl)⟩
theorem bK {m:Int}(h0:0<m)(h1:m<1000):Wd m:=Cn (show m.natAbs<=1000 by omega) (by decide +kernel)
structure Tw (H:Hp)(n:Int)(us:List (Addr×List Int)):Prop where
 at':∀u∈us,H u.1=some (.tup (u.2.map V.int))
 two:∀u∈us,∃a b,u.2=[a,b]/\0<=a/\a<=b/\b<n
theorem Tw.tup {H H':Hp}{n:Int}{us:List (Addr×List Int)}(h:Tw H n us)(k:∀a ys,H a=some (.tup ys)->H' a=some (.tup ys)):Tw H' n us:=⟨λu hu=>k _ _ (h.at' u hu),h.two⟩
theorem Tw.add {H:Hp}{n:Int}{us:List (Addr×List Int)}(h:Tw H n us){t:Addr}{a b:Int}(e:H t=some (.tup [.int a,.int b]))(h0:0<=a)(h1:a<=b)(h2:b<n):Tw H n (us++[(t,[a,b])]):=by
 refine ⟨λu hu =>?_,λu hu =>?_⟩
 ·rcases BC.mp hu with z | z
  ·exact h.at' u z
  ·rw[Bz.mp z];exact e
 ·rcases BC.mp hu with z | z
  ·exact h.two u z
  ·rw[Bz.mp z];exact ⟨a,b,rfl,h0,h1,h2⟩
abbrev xf:Sp:=λvs H Q _=>∃(p:Addr) (m:Int),vs=[.ref p,.int m]/\Pt 1 H p/\0<=m/\m<=40/\∀(r t:Addr) (n:Nat) (us:List (Addr×List Int)) (H':Hp),Bu 1 p H H'->H' r=some (.tup [.int n,.ref t])->H' t=some (.tup (us.map λu =>.ref u.1))->Tw H' n us->(n:Int)<=m->us.length<=28->us.Pairwise (λa b=>HT.lexLt b.2 a.2=false)->Q (.ref r) H'
@[irreducible] def tR:Sp:=xf
theorem i6 {vs:List V}{H:Hp}{Q:VK}{E:XK}:tR vs H Q E↔xf vs H Q E:=by
 delta tR
 exact DN
section
variable  {P:BD}{w:Cb}{K:Be}{mg:Str->Option Bh}{base:Heap}{f T:Addr}{fd:Cr}
theorem i7:aO ["pot", "most", "many", "ties", "k", "one", "other"] ["pot", "most"] (aq wQ):=⟨rfl,rfl,rfl,by decide +kernel,rfl,by decide +kernel,by decide +kernel⟩
theorem Ap (F:Fun K "_law_web" "_law_web" wQ f fd)(B:Blt mg)(cLTake:Cal P w K mg base 1 "_law_take" ["pot", "many"] fQ):bF P w K mg base CX0 2 f fd ["pot", "most"] tR:=by
 refine F.ok i7 (λvs H Q E h =>?_) (λcdv A outer s H vs Q E hr h =>?_)
 ·obtain ⟨_,_,rfl,_⟩:=i6.mp h
  rfl
 obtain ⟨p,m,rfl,hp,m0,m4,q⟩:=i6.mp h
 refine ⟨_,(@aj _ _ _ _ _ (@aL _ _ 2 _ _ _ _ i7.nd rfl (Or.inl rfl) (aH cLTake hr (by decide) rfl (@aa _ _ _ _ _ (pv 0) (@aa _ _ _ _ _ (@aQ _ _ _ _ _ _ _ _ da (pv 1) ai) ag rfl) rfl)) rfl (by first | exact .inl rfl | exact .inr rfl | assumption))
  (@aj _ _ _ _ _ (@aL _ _ 3 _ _ _ _ i7.nd rfl (Or.inl rfl) (@cO _ _ _ _ ag) rfl (by first | exact .inl rfl | exact .inr rfl | assumption))
  (@aj _ _ _ _ _ (@dA _ _ _ _ _ _ _ _ Dj rfl (dF rfl B.b_range (@aa _ _ _ _ _ (@ay _ _ _ _ _ _ _ bN (@cO _ _ _ _ (@aa _ _ _ _ _ ai (@aa _ _ _ _ _ ai (@aa _ _ _ _ _ ai (@aa _ _ _ _ _ ai (@aa _ _ _ _ _ ai (@aa _ _ _ _ _ ai (@aa _ _ _ _ _ ai (@aa _ _ _ _ _ ai ag rfl) rfl) rfl) rfl) rfl) rfl) rfl) rfl)) (aH cLTake hr (by decide) rfl (@aa _ _ _ _ _ (pv 0) (@aa _ _ _ _ _ ai ag rfl) rfl)) (λ_ _=>rfl)) ag rfl)) (aB (i:=4) i7.nd rfl (Or.inl rfl))
   (@ak _ _ _ (@bM _ _ _ _ _ _ _ _ (aF sk (pv 2) ai (aN _)) (@aj _ _ _ _ _ (@aL _ _ 5 _ _ _ _ i7.nd rfl (Or.inl rfl) (aH cLTake hr (by decide) rfl (@aa _ _ _ _ _ (pv 0) (@aa _ _ _ _ _ (pv 2) ag rfl) rfl)) rfl (by first | exact .inl rfl | exact .inr rfl | assumption))
    (@aj _ _ _ _ _ (@aL _ _ 6 _ _ _ _ i7.nd rfl (Or.inl rfl) (@ay _ _ _ _ _ _ _ bN (@cO _ _ _ _ (@aa _ _ _ _ _ (aH cLTake hr (by decide) rfl (@aa _ _ _ _ _ (pv 0) (@aa _ _ _ _ _ (pv 2) ag rfl) rfl)) (@aa _ _ _ _ _ (@aQ _ _ _ _ _ _ _ _ iO (@aQ _ _ _ _ _ _ _ _ da (pv 5) ai) (pv 2)) (@aa _ _ _ _ _ (pv 5) ag rfl) rfl) rfl)) (aD (cY rfl) rfl B.b_min gU (@aa _ _ _ _ _ ai (@aa _ _ _ _ _ (@aQ _ _ _ _ _ _ _ _ se (aH cLTake hr (by decide) rfl (@aa _ _ _ _ _ (pv 0) (@aa _ _ _ _ _ ai ag rfl) rfl)) ai) ag rfl) rfl)) (λ_ _=>rfl)) rfl (by first | exact .inl rfl | exact .inr rfl | assumption))
    (@aj _ _ _ _ _ (dk (fD Cp CW CY cB (pv 3) (@aa _ _ _ _ _ (@bh _ _ _ _ _ (@aa _ _ _ _ _ (aD (cY rfl) rfl B.b_min gU (@aa _ _ _ _ _ (pv 5) (@aa _ _ _ _ _ (pv 6) ag rfl) rfl)) (@aa _ _ _ _ _ (aD (fZ rfl) rfl B.b_max nO (@aa _ _ _ _ _ (pv 5) (@aa _ _ _ _ _ (pv 6) ag rfl) rfl)) ag rfl) rfl)) ag rfl)))
    (@ak _ _ _ (@bM _ _ _ _ _ _ _ _ (aF bZ (aH cLTake hr (by decide) rfl (@aa _ _ _ _ _ (pv 0) (@aa _ _ _ _ _ ai ag rfl) rfl)) ai (aN _)) (@ak _ _ _ (dk (fD Cp CW CY cB (pv 3) (@aa _ _ _ _ _ (@ay _ _ _ _ _ _ _ bN (pv 3) (vy qy ai) (λ_ _=>rfl)) ag rfl)))) aU))))) aU)) (λ_=>rfl))
  (@ak _ _ _ (@aM _ _ _ _ (@bh _ _ _ _ _ (@aa _ _ _ _ _ (pv 2) (@aa _ _ _ _ _ (a7 bB rfl B.b_tuple cJ (@aa _ _ _ _ _ (aD iy rfl B.b_sorted bE (@aa _ _ _ _ _ (pv 3) ag rfl)) ag rfl)) ag rfl) rfl))))))),?_⟩
 refine ⟨_,rfl,_,rfl,_,_,rfl,rfl,aS.mpr ⟨p,m+1,rfl,hp,by omega,bK (by omega) (by omega),λn0 H1 h0 h1 b1 =>?_⟩⟩
 obtain ⟨n,rfl⟩:∃n:Nat,n0=n:=⟨n0.toNat,by omega⟩
 refine ⟨BU _,λl hl =>?_⟩
 have nl:l≠p:=b1.pot.ne hl
 have hl0:H l=none:=by
  cases e:H l with
  | none=>rfl
  | some o=>rw[b1.st l o nl e] at hl;cases hl
 have b2:Bu 1 p H (upd H1 l (.lst [])):=b1.ki hl0 nl _
 have e2:(upd H1 l (.lst [])) l=some (.lst []):=af
 generalize upd H1 l (.lst [])=H2 at b2 e2
 refine ⟨(by decide:8<=BJ),λq8 n8 =>?_⟩
 have s3:=ae n8 (.lst [.int 0,.int 1,.int 3,.int 5,.int 7,.int 9,.int 11,.int 14])
 have b3:=b2.same s3
 have e3:(upd H2 q8 (.lst [.int 0,.int 1,.int 3,.int 5,.int 7,.int 9,.int 11,.int 14])) q8=_:=af
 have l3:=s3 _ _ e2
 have nq8:q8≠p:=b2.pot.ne n8
 generalize upd H2 q8 (.lst [.int 0,.int 1,.int 3,.int 5,.int 7,.int 9,.int 11,.int 14])=H3 at b3 e3 l3
 refine ⟨_,rfl,aS.mpr ⟨p,8,rfl,b3.pot,by decide,bK (by decide) (by decide),λd H4 d0 d1 b4 =>?_⟩⟩
 obtain ⟨N,eN,N0,N1⟩:=Bb d0 d1
 refine ⟨q8,_,d,_,rfl,rfl,SqL.of (b4.st _ _ nq8 e3),eN,N,rfl,by omega,by omega,fY (λi σ H'=>(∃c4 c5 c6,σ=[some (.ref p),some (.int m),some (.int n),some (.ref l),c4,c5,c6])/\Bu 1 p H H'/\∃us:List (Addr×List Int),H' l=some (.lst (us.map λu =>.ref u.1))/\Tw H' n us/\us.length<=2*i) ⟨⟨_,_,_,rfl⟩,b3.trans b4,[],b4.st _ _ nl l3,⟨λu hu=>(by cases hu),λu hu=>(by cases hu)⟩,BU _⟩ ?_ ?_⟩
 ·rintro i σ J hi ⟨⟨c4,c5,c6,rfl⟩,bJ,us,el,tw,lu⟩
  refine ⟨_,rfl,_,_,rfl,rfl,_,rfl,xJ (λz =>?_) λ_=>⟨⟨_,_,_,rfl⟩,bJ,us,el,tw,by omega⟩⟩
  have n1:(0:Int)<n:=of_decide_eq_true z
  refine ⟨_,rfl,_,rfl,aS.mpr ⟨p,n,rfl,bJ.pot,n1,bK n1 (by omega),λx J1 x0 x1 w1 =>?_⟩⟩
  have v1:=bJ.trans w1
  refine ⟨_,rfl,_,rfl,aS.mpr ⟨p,n,rfl,v1.pot,n1,bK n1 (by omega),λy J2 y0 y1 w2 =>?_⟩⟩
  have v2:=v1.trans w2
  refine ⟨_,rfl,_,_,rfl,rfl,_,rfl,_,_,rfl,rfl,n1,_,rfl,(by decide:3<=BJ),λq3 n3 =>?_⟩
  have m0:=Fz (x+1) (show (n:Int)≠0 by omega)
  have m1:=ES (x+1) n1
  have g3:=ae n3 (.lst [.int y,.int ((x+1)%n),.int x])
  have eq3:(upd J2 q3 (.lst [.int y,.int ((x+1)%n),.int x])) q3=_:=af
  have v3:=v2.same g3
  have el3:=g3 _ _ ((w1.trans w2).st _ _ nl el)
  have tw3:=tw.tup (H':=upd J2 q3 (.lst [.int y,.int ((x+1)%n),.int x])) λa ys e=>g3 _ _ ((w1.trans w2).tup bJ.pot e)
  have nq3:q3≠p:=v2.pot.ne n3
  generalize upd J2 q3 (.lst [.int y,.int ((x+1)%n),.int x])=J3 at eq3 v3 el3 tw3
  refine ⟨_,rfl,aS.mpr ⟨p,8,rfl,v3.pot,by decide,bK (by decide) (by decide),λd3 J4 k0 k1 w4 =>?_⟩⟩
  have v4:=v3.trans w4
  have el4:=w4.st _ _ nl el3
  have tw4:=tw3.tup (H':=J4) λa ys e=>w4.tup v3.pot e
  have eq4:=w4.st _ _ nq3 eq3
  have a0:0<=d3/3:=Int.ediv_nonneg k0 (by decide)
  have a1:d3/3<3:=Int.ediv_lt_of_lt_mul (by decide) (by omega)
  refine ⟨_,_,rfl,rfl,⟨by decide,by decide⟩,_,_,rfl,?_⟩
  obtain ⟨o,eo,ho⟩:=three (d:=if d3/3<2 then d3/3 else 2) (a:=y) (b:=(x+1)%n) (c:=x) (by split <;> omega) (by split <;> omega)
  refine ⟨q3,_,_,_,rfl,rfl,SqL.of eq4,eo,?_⟩
  have o0:0<=o/\o<n:=by rcases ho with rfl | rfl | rfl <;> omega
  refine ⟨_,rfl,.inl ⟨rfl,_,SqL.of el4⟩,_,rfl,_,rfl,_,_,rfl,_,rfl,_,rfl,_,_,rfl,cv,λpt nt =>?_⟩
  have b0:0<=(if o<x then o else x):=by split <;> omega
  have b1':(if o<x then o else x)<=(if o>x then o else x):=by split <;> split <;> omega
  have b2':(if o>x then o else x)<(n:Int):=by split <;> omega
  have g5:=ae nt (.tup [.int (if o<x then o else x),.int (if o>x then o else x)])
  have et:(upd J4 pt (.tup [.int (if o<x then o else x),.int (if o>x then o else x)])) pt=_:=af
  have v5:=v4.same g5
  have el5:=g5 _ _ el4
  have tw5:=(tw4.tup (H':=upd J4 pt (.tup [.int (if o<x then o else x),.int (if o>x then o else x)])) λa ys e=>g5 _ _ e).add et b0 b1' b2'
  generalize upd J4 pt (.tup [.int (if o<x then o else x),.int (if o>x then o else x)])=J5 at et v5 el5 tw5
  generalize (if o<x then o else x)=ta at *
  generalize (if o>x then o else x)=tb at *
  have keep:∀{J:Hp} {xs ys:List V},J l=some (.lst xs)->∀a zs,J a=some (.tup zs)->(upd J l (.lst ys)) a=some (.tup zs):=λ{J xs ys} e1 a zs e=>by
   rw[ao (jK e e1 nofun)];exact e
  refine ⟨l,_,_,rfl,rfl,el5,by rw[Bg];exact Cn (show us.length<=1000 by omega) (by decide),?_⟩
  have v6:Bu 1 p H (upd J5 l (.lst ((us.map λu=>V.ref u.1)++[.ref pt]))):=v5.ki hl0 nl _
  have el6:(upd J5 l (.lst ((us.map λu=>V.ref u.1)++[.ref pt]))) l=some (.lst ((us++[(pt,[ta,tb])]).map λu=>V.ref u.1)):=by rw[af,BB];rfl
  have tw6:=tw5.tup (H':=upd J5 l (.lst ((us.map λu=>V.ref u.1)++[.ref pt]))) (keep el5)
  generalize upd J5 l (.lst ((us.map λu=>V.ref u.1)++[.ref pt]))=J6 at v6 el6 tw6
  refine ⟨_,rfl,aS.mpr ⟨p,4,rfl,v6.pot,by decide,bK (by decide) (by decide),λd6 J7 k6 k7 w7=>⟨rfl,_,rfl,?_⟩⟩⟩
  have v7:=v6.trans w7
  have el7:=w7.st _ _ nl el6
  have tw7:=tw6.tup (H':=J7) λa ys e=>w7.tup v6.pot e
  have l7:(us++[(pt,[ta,tb])]).length<=2*i+1:=by rw[Bj,BV];omega
  refine xJ (λz =>?_) λ_=>⟨⟨_,_,_,rfl⟩,v7,_,el7,tw7,by omega⟩
  have em:((us++[(pt,[ta,tb])]).map λu=>V.ref u.1)=(us.map λu=>V.ref u.1)++[.ref pt]:=by rw[BB];rfl
  refine ⟨_,rfl,.inl ⟨rfl,_,SqL.of el7⟩,_,rfl,_,rfl,l,_, -1,_,rfl,rfl,SqL.of el7,by rw[em];exact oE _ _,l,_,_,rfl,rfl,el7,by rw[Bg];exact Cn (show _<=1000 by omega) (by decide),?_⟩
  have e8:((us++[(pt,[ta,tb])]).map λu=>V.ref u.1)++[V.ref pt]=((us++[(pt,[ta,tb])])++[(pt,[ta,tb])]).map λu=>V.ref u.1:=by rw[BB (l₁:=us++[(pt,[ta,tb])])];rfl
  rw[e8]
  have ept:=tw7.at' (pt,[ta,tb]) (BO _ Br)
  exact ⟨⟨_,_,_,rfl⟩,v7.ki hl0 nl _,_,af,(tw7.add ept b0 b1' b2').tup (keep el7),by rw[Bj,BV];omega⟩
 ·rintro σ J ⟨⟨c4,c5,c6,rfl⟩,bJ,us,el,tw,lu⟩
  refine ⟨_,rfl,_,rfl,l,us,rfl,.inl (SqL.of el),λu hu=>⟨SqT.of (tw.at' u hu),by obtain ⟨a,b,e,_⟩:=tw.two u hu;rw[e];exact nofun⟩,λls out ns pm pw =>?_⟩
  refine ⟨ls,_,rfl,.inl ⟨SqL.of af,λlt nt=>⟨cv,λlr nr =>?_⟩⟩⟩
  have s1:=ae ns (.lst (out.map λt=>V.ref t.1))
  have s2:=s1.trans (ae nt (.tup (out.map λt=>V.ref t.1)))
  have s3':=s2.trans (ae nr (.tup [.int n,.ref lt]))
  refine q lr lt n out _ (bJ.same s3') af (ae nr _ _ _ af) ⟨λu hu=>s3' _ _ (tw.at' u (pm.mem_iff.mp hu)),λu hu=>tw.two u (pm.mem_iff.mp hu)⟩ (by omega) (by rw[pm.length_eq];omega) pw
end
open PySem L2
open Srt
theorem kQ {ts:List Tie}{x:Int}{w:Str}(h:word ts x=some w):(w = "lone" \/ w = "loop" \/ w = "two")/\(w = "two" -> ∃u v,ts.filter (isAt x)=[u,v]/\u.1≠u.2.1/\v.1≠v.2.1):=by
 unfold word at h
 by_cases c1:(ts.filter (isAt x)).any (λt=>decide (t.1=t.2.1))=true
 ·rw[if_pos c1] at h
  cases h
  exact ⟨.inr (.inl rfl),λz=>absurd z (by decide)⟩
 rw[if_neg c1] at h
 by_cases c2:(ts.filter (isAt x)).length<=1
 ·rw[if_pos c2] at h
  cases h
  exact ⟨.inl rfl,λz=>absurd z (by decide)⟩
 rw[if_neg c2] at h
 by_cases c3:(ts.filter (isAt x)).length=2
 ·rw[if_pos c3] at h
  cases h
  refine ⟨.inr (.inr rfl),λ_ =>?_⟩
  generalize ts.filter (isAt x)=l at c1 c3
  match l,c3 with
  | [u,v],_ =>
   rw[Bool.not_eq_true,List.any_eq_false] at c1
   exact ⟨u,v,rfl,λe=>c1 u Br (decide_eq_true e),λe=>c1 v (BG _ Br) (decide_eq_true e)⟩
 ·rw[if_neg c3] at h
  cases h
theorem xg {s:Sta}{t:Stp}(h:t∈raw s):OkS s t:=by
 cases t with
 | two a b=>trivial
 | one w x =>
  rcases fg.mp h with h | h
  ·exact kQ (kO.mp h).2
  ·obtain ⟨a,b,e⟩:=gv h
   cases e
@[irreducible] def jE (K:Be):Sp:=λvs H Q _=>∃(p q:Addr) (s:Sta) (st:Stp),vs=[.ref p,.ref q]/\StA K H p s/\Wf s/\RowC K H q st.cs/\H PJ=some (.tbl psJ)/\st∈raw s/\∀(p':Addr) (H':Hp),ax H H'->StA K H' p' (behind s st)->Q (.ref p') H'
theorem fT {K:Be}{vs:List V}{H:Hp}{Q:VK}{E:XK}:jE K vs H Q E↔∃(p q:Addr) (s:Sta) (st:Stp),vs=[.ref p,.ref q]/\StA K H p s/\Wf s/\RowC K H q st.cs/\H PJ=some (.tbl psJ)/\st∈raw s/\∀(p':Addr) (H':Hp),ax H H'->StA K H' p' (behind s st)->Q (.ref p') H':=by
 delta jE
 exact DN
section
variable  {P:BD}{w:Cb}{K:Be}{mg:Str->Option Bh}{base:Heap}{f T:Addr}{fd:Cr}
theorem rR:aO ["state", "step"] ["state", "step"] (aq i4):=⟨rfl,rfl,rfl,by decide +kernel,rfl,by decide +kernel,by decide +kernel⟩
theorem rT (F:Fun K "rule_step" "rule_step" i4 f fd)(B:Blt mg)(cStepDone:Cal P w K mg base 6 "step_done" ["state", "step"] (gZ K))(cCanDo:Cal P w K mg base 4 "can_do" ["state", "step"] (kP K)):bF P w K mg base CX0 7 f fd ["state", "step"] (jE K):=by
 refine F.ok rR (λvs H Q E h =>?_) (λcdv A outer s H vs Q E hr h =>?_)
 ·obtain ⟨_,_,_,_,rfl,_⟩:=fT.mp h
  rfl
 obtain ⟨p,r,z,st,rfl,hs,W,hq,hP,hst,yes⟩:=fT.mp h
 refine ⟨_,(@aj _ _ _ _ _ (@bM _ _ _ _ _ _ _ _ (iM (fA (aH cCanDo hr (by decide) rfl (@aa _ _ _ _ _ (pv 0) (@aa _ _ _ _ _ (pv 1) ag rfl) rfl)))) lM aU)
  (@ak _ _ _ (@aM _ _ _ _ (aH cStepDone hr (by decide) rfl (@aa _ _ _ _ _ (pv 0) (@aa _ _ _ _ _ (pv 1) ag rfl) rfl))))),?_⟩
 obtain ⟨wd,is,e⟩:=y8 st
 have hc:can z wd is=true:=decide_eq_true (Bw.mpr ⟨st,hst,e⟩)
 refine ⟨_,rfl,_,rfl,gw.mpr ⟨p,r,z,wd,is,rfl,hs,W,xc (e ▸ hq),λH1 s1=>⟨_,rfl,?_⟩⟩⟩
 rw[hc]
 exact bC ⟨_,rfl,_,rfl,fe.mpr ⟨p,r,z,st,rfl,hs.same s1,az s1 hq,s1 _ _ hP,xg hst,W.toSml,λp' H' s' h'=>yes p' H' (s1.trans s') h'⟩⟩
end
open PySem L2
open Srt
def sumF (f:Tie->Nat)(l:List Tie):Nat:=(l.map f).sum
section
variable  (f:Tie->Nat)
theorem vg {l m:List Tie}(p:l.Perm m):sumF f l=sumF f m:=by
 unfold sumF
 induction p with
 | nil=>rfl
 | cons _ _ ih=>simp only[BF,Hd];omega
 | swap _ _ _=>simp only[BF,Hd];omega
 | trans _ _ a b=>exact a.trans b
theorem fU (l m:List Tie):sumF f (l++m)=sumF f l+sumF f m:=by
 unfold sumF
 rw[BB,List.sum_append]
theorem aK (t:Tie)(l:List Tie):sumF f (t :: l)=f t+sumF f l:=by
 unfold sumF
 rw[BF,Hd]
theorem cw:sumF f []=0:=rfl
theorem kR:∀{l:List Tie} {t:Tie},t∈l->f t<=sumF f l
 | u :: l,t,h=>by
  rw[aK]
  rcases BR.mp h with e | h
  ·rw[e];omega
  ·have:=kR h
   omega
theorem bY (p:Tie->Bool):∀l:List Tie,sumF f (l.filter p)+sumF f (l.filter λt => !p t)=sumF f l
 | []=>rfl
 | t :: l=>by
  have h1:=bY p l
  cases c:p t with
  | true =>
   rw[DB c,DA (by rw[c];decide),aK,aK]
   omega
  | false =>
   rw[DA (by rw[c];decide),DB (by rw[c];rfl),aK,aK]
   omega
theorem mP:∀(n:Nat) (l:List Tie),sumF f (l.take n)<=sumF f l
 | 0,l=>by rw[Ed];exact BU _
 | n+1,[]=>Bn _
 | n+1,t :: l=>by
  rw[Ic,aK,aK]
  have:=mP n l
  omega
theorem i8 (l:List Tie):sumF f (dN l)=sumF f l:=vg f (Dm l leT)
theorem yL (ts:List Tie)(x y:Int):sumF f (many ts x y)<=sumF f ts:=by
 unfold many
 rw[i8,fU]
 have h1:=bY f (btw x y) ts
 have h2:=mP f 2 (ts.filter (btw x y))
 omega
end
theorem iF (l:List Tie):l.length=sumF (λ_=>1) l:=by
 induction l with
 | nil=>rfl
 | cons t l ih=>rw[aK,Bs,ih];omega
theorem qd (p:Tie->Bool):∀l:List Tie,(l.filter p).length=sumF (λt=>if p t=true then 1 else 0) l
 | []=>rfl
 | t :: l=>by
  rw[aK, <- qd p l]
  cases c:p t with
  | true=>rw[DB c,Bs,if_pos rfl];omega
  | false=>rw[DA (by rw[c];decide),if_neg (by decide)];omega
def eds:List Int->List (Int×Int)
 | a :: b :: r=>(if b<a then b else a,if b>a then b else a) :: eds (b :: r)
 | _=>[]
theorem nZ:∀(A:List Int) (x:Int) (B:List Int),eds (A++x :: B)=eds (A++[x])++eds (x :: B)
 | [],x,B=>rfl
 | [a],x,B=>rfl
 | a :: b :: A,x,B=>by
  have ih:=nZ (b :: A) x B
  show _ :: eds (b :: A++x :: B)=_ :: (eds (b :: A++[x])++_)
  rw[ih]
theorem jF (p:Int×Int):∀l:List Int,(eds l.reverse).count p=(eds l).count p
 | []=>rfl
 | [a]=>rfl
 | a :: b :: r=>by
  have ih:=jF p (b :: r)
  rw[Dn,Dn,BZ]
  show (eds (r.reverse++b :: [a])).count p=_
  rw[nZ,Dr, <- Dn,ih]
  show (eds (b :: r)).count p+((if a<b then a else b,if a>b then a else b) :: []).count p=((if b<a then b else a,if b>a then b else a) :: eds (b :: r)).count p
  have e:((if a<b then a else b,if a>b then a else b):Int×Int)=(if b<a then b else a,if b>a then b else a):=by
   refine Ik ?_ ?_
   ·show (if a<b then a else b)=if b<a then b else a
    split <;> split <;> omega
   ·show (if a>b then a else b)=if b>a then b else a
    split <;> split <;> omega
  rw[e,Cy,Cy,GO]
  omega
def wlk (t:Tie):List Int:=t.1 :: (t.2.2++[t.2.1])
theorem tS {u:Tie}{x:Int}(n:u.1≠u.2.1)(h:isAt x u=true)(p:Int×Int):(eds (other u x :: (aX u (other u x)++[x]))).count p=(eds (wlk u)).count p/\(eds (x :: (aX u x++[other u x]))).count p=(eds (wlk u)).count p:=by
 unfold isAt at h
 rw[Ek,decide_eq_true_iff,decide_eq_true_iff] at h
 have r:∀(a b:Int) (w:List Int),(a :: (w++[b])).reverse=b :: (w.reverse++[a]):=λa b w=>by rw[Dn,Dk];rfl
 unfold other aX wlk
 by_cases c:u.1=x
 ·rw[if_pos c,if_neg n,if_pos c]
  refine ⟨?_,by rw[c]⟩
  rw[<- c, <- r,jF]
 ·rw[if_neg c,if_pos rfl,if_neg c]
  have c2:=h.resolve_left c
  refine ⟨by rw[<- c2],?_⟩
  rw[<- c2, <- r,jF]
theorem yM {u v:Tie}{x:Int}(nu:u.1≠u.2.1)(nv:v.1≠v.2.1)(hu:isAt x u=true)(hv:isAt x v=true)(p:Int×Int):(eds (wlk (jn u v x))).count p=(eds (wlk u)).count p+(eds (wlk v)).count p:=by
 have h:(eds (other u x :: ((aX u (other u x)++[x]++aX v x)++[other v x]))).count p=(eds (wlk u)).count p+(eds (wlk v)).count p:=by
  rw[<- (tS nu hu p).1, <- (tS nv hv p).2, <- Dr]
  have:=nZ (other u x :: aX u (other u x)) x (aX v x++[other v x])
  rw[Fh,Fh] at this
  rw[<- this]
  simp only[BZ,Fh,Fy]
 unfold jn
 by_cases c:other u x=other v x
 ·rw[if_pos c]
  split
  ·have r:∀(a b:Int) (w:List Int),(a :: (w++[b])).reverse=b :: (w.reverse++[a]):=λa b w=>by rw[Dn,Dk];rfl
   rw[<- h, <- jF p (other u x :: _),r]
   generalize (aX u (other u x)++[x]++aX v x).reverse=z
   show (eds (other u x :: (z++[other v x]))).count p=_
   rw[c]
  ·exact h
 ·rw[if_neg c]
  exact h
theorem xh {u v:Tie}(x a:Int):(jn u v x).2.2.count a=u.2.2.count a+v.2.2.count a+(if a=x then 1 else 0):=by
 have w:∀(t:Tie) (y:Int),(aX t y).count a=t.2.2.count a:=λt y=>by
  unfold aX
  split
  ·rfl
  ·exact Iz
 have h:(aX u (other u x)++[x]++aX v x).count a=u.2.2.count a+v.2.2.count a+(if a=x then 1 else 0):=by
  rw[Dr,Dr,w,w,Cy,GO]
  by_cases c:a=x
  ·rw[if_pos c,c];simp;omega
  ·rw[if_neg c]
   have:(x == a)=false:=beq_eq_false_iff_ne.mpr λz=>c z.symm
   rw[this];simp
 unfold jn
 dsimp only
 split
 ·split
  ·rw[Iz];exact h
  ·exact h
 ·exact h
theorem oa (u v:Tie)(x:Int):∃y z,((y=u/\z=v)\/(y=v/\z=u))/\other y x<=other z x/\jn2 u v x=jn y z x:=by
 unfold jn2
 by_cases c:other u x<=other v x
 ·rw[if_pos c];exact ⟨u,v,.inl ⟨rfl,rfl⟩,c,rfl⟩
 ·rw[if_neg c];exact ⟨v,u,.inr ⟨rfl,rfl⟩,by omega,rfl⟩
theorem xk (u v:Tie)(x:Int):(jn u v x).2.2≠[]/\((jn u v x).1=(jn u v x).2.1->HT.lexLt (jn u v x).2.2.reverse (jn u v x).2.2=false):=by
 have ne:aX u (other u x)++[x]++aX v x≠[]:=by simp
 unfold jn
 dsimp only
 by_cases c:other u x=other v x
 ·rw[if_pos c]
  by_cases l:HT.lexLt (aX u (other u x)++[x]++aX v x).reverse (aX u (other u x)++[x]++aX v x)=true
  ·rw[if_pos l]
   refine ⟨by simp,λ_ =>?_⟩
   rw[DV]
   cases h:HT.lexLt (aX u (other u x)++[x]++aX v x) (aX u (other u x)++[x]++aX v x).reverse with
   | false=>rfl
   | true=>have:=lex_trans _ _ _ l h;rw[lex_irrefl] at this;cases this
  ·rw[if_neg l]
   exact ⟨ne,λ_=>by simpa using l⟩
 ·rw[if_neg c]
  exact ⟨ne,λz=>absurd z c⟩
theorem qe:∀{l:List Int} {x:Int},x∈l->(l.filter λy => !decide (y=x)).length+1<=l.length
 | y :: l,x,h=>by
  by_cases c:y=x
  ·rw[DA (by rw[decide_eq_true c];decide),Bs]
   have:=DP (λy => !decide (y=x)) l
   omega
  ·rw[DB (by rw[decide_eq_false c];rfl),Bs,Bs]
   have:=qe ((BR.mp h).resolve_left λe=>c e.symm)
   omega
theorem qf {u:Tie}{x:Int}{l:List Int}(n:u.1≠u.2.1)(h:u.1∈l/\u.2.1∈l):other u x∈l/\other u x≠x:=by
 unfold other
 by_cases c:u.1=x
 ·rw[if_pos c];exact ⟨h.2,λe=>n (c.trans e.symm)⟩
 ·rw[if_neg c];exact ⟨h.1,c⟩
theorem mQ {l:List Tie}{t:Tie}:t∈dN l↔t∈l:=(Dm l leT).mem_iff
theorem Aq {s:Sta}{w:Str}{x:Int}(h:Stp.one w x∈raw s):x∈s.lf/\(behind s (.one w x)).lf=s.lf.filter (λy => !decide (y=x))/\(behind s (.one w x)).tk=(if w = "loop" then sortI (s.tk++[x]) else s.tk) ∧
  ((w = "two" /\ ∃u v,s.ts.filter (isAt x)=[u,v]/\(u∈s.ts/\u.1≠u.2.1/\isAt x u=true)/\(v∈s.ts/\v.1≠v.2.1/\isAt x v=true)/\(behind s (.one w x)).ts=dN (s.ts.filter (λt => !isAt x t)++[jn2 u v x]))\/(w ≠ "two" /\ (behind s (.one w x)).ts=dN (s.ts.filter λt => !isAt x t))):=by
 have hx:x∈s.lf/\word s.ts x=some w:=by
  rcases fg.mp h with h | h
  ·exact kO.mp h
  ·obtain ⟨_,_,e⟩:=gv h
   cases e
 refine ⟨hx.1,rfl,rfl,?_⟩
 obtain ⟨_,two⟩:=kQ hx.2
 by_cases c:w = "two"
 ·obtain ⟨u,v,e,nu,nv⟩:=two c
  have mu:=BX.mp (show u∈s.ts.filter (isAt x) by rw[e];exact Br)
  have mv:=BX.mp (show v∈s.ts.filter (isAt x) by rw[e];exact BG _ Br)
  refine .inl ⟨c,u,v,e,⟨mu.1,nu,mu.2⟩,⟨mv.1,nv,mv.2⟩,?_⟩
  unfold behind
  simp only[if_pos c,e]
 ·refine .inr ⟨c,?_⟩
  unfold behind
  simp only[if_neg c,Cf]
open PySem L2
open Srt
def TsS (l:List Tie):Prop:=l.Pairwise λa b=>HT.lexLt (bj (tc b)) (bj (tc a))=false
theorem rV {l:List Tie}(h:TsS l):dN l=l:=(dO (Fe l) h).symm
theorem qg (l:List Tie):TsS (dN l):=by
 refine (DY mN mO l).imp λ{a b} h =>?_
 unfold leT at h
 rwa [Et] at h
theorem xn {a b:Int}(h:a<b)(t:Tie):btw a b t=decide (t.1=a/\t.2.1=b):=by
 unfold btw
 rw[if_neg (show ¬ b<a by omega),if_pos (show b>a by omega)]
 exact decide_eq_decide.mpr (by simp[IZ])
structure Iv (n:Nat)(W:Int->Int->Nat)(s:Sta):Prop where
 nd:s.lf.Nodup
 ends:∀t∈s.ts,t.1∈s.lf/\t.2.1∈s.lf
 so:TsS s.ts
 lfS:s.lf.Pairwise (· <= ·)
 tkS:s.tk.Pairwise (· <= ·)
 m1:s.lf.length+s.tk.length+sumF (λt=>t.2.2.length) s.ts<=40
 m3:s.ts.length<=200
 cP:∀a,s.lf.count a+s.tk.count a+sumF (λt=>t.2.2.count a) s.ts<=if 0<=a/\a<n then 1 else 0
 ord:∀t∈s.ts,t.1<=t.2.1/\(t.1=t.2.1->HT.lexLt t.2.2.reverse t.2.2=false)
 st0:∀a b,sumF (λt=>if t.2.2=[]/\t.1=a/\t.2.1=b then 1 else 0) s.ts<=W a b
 pr:∀a b,a∈s.lf->b∈s.lf->min 2 (W a b)<=cnt s.ts a b
 us:∀p,sumF (λt=>(eds (wlk t)).count p) s.ts<=W p.1 p.2
theorem Iv.wf {n:Nat}{W:Int->Int->Nat}{s:Sta}(h:Iv n W s):Wf s:=⟨⟨by have:=h.m1;omega,by have:=h.m3;omega,by have:=h.m1;omega,λt ht=>by have:=kR (λt=>t.2.2.length) ht;have:=h.m1;omega⟩,h.nd,h.ends⟩
theorem kT:∀{l:List Int} {x:Int},l.Nodup->x∈l->∀a,(l.filter λy => !decide (y=x)).count a+(if a=x then 1 else 0)=l.count a
 | y :: l,x,nd,h,a=>by
  obtain ⟨h1,h2⟩:=DM.mp nd
  by_cases c:y=x
  ·rw[DA (by rw[decide_eq_true c];decide),Cy]
   have e:l.filter (λy => !decide (y=x))=l:=Dl.mpr λz hz=>by
    rw[decide_eq_false (λe=>h1 (by rw[c, <- e];exact hz))];rfl
   rw[e]
   by_cases c2:a=x
   ·rw[if_pos c2,c,c2];simp
   ·rw[if_neg c2,c]
    have:(x == a)=false:=beq_eq_false_iff_ne.mpr λz=>c2 z.symm
    rw[this];simp
  ·rw[DB (by rw[decide_eq_false c];rfl),Cy,Cy]
   have:=kT h2 ((BR.mp h).resolve_left λe=>c e.symm) a
   omega
theorem jG (ts:List Tie)(a b:Int):cnt ts a b=sumF (λt=>if t.1=a/\t.2.1=b then 1 else 0) ts:=by
 unfold cnt
 rw[qd]
 refine congrArg (λf=>sumF f ts) (funext λt =>?_)
 by_cases c:t.1=a/\t.2.1=b
 ·rw[if_pos c,if_pos (decide_eq_true c)]
 ·rw[if_neg c,if_neg (by rw[decide_eq_false c];decide)]
theorem iG {f:Tie->Nat}:∀{l:List Tie},(∀t∈l,f t=0)->sumF f l=0
 | [],_=>rfl
 | t :: l,h=>by
  rw[aK,h t Br,iG λu hu=>h u (BG _ hu)]
theorem oe (l:List Int):(sortI l).Pairwise (· <= ·):=by
 unfold sortI
 exact (DY (le:=λa b:Int=>decide (a<=b)) (λa b c h1 h2=>decide_eq_true (Int.le_trans (of_decide_eq_true h1) (of_decide_eq_true h2))) (λa b=>by simp only[Ek,decide_eq_true_eq];omega) l).imp λh=>of_decide_eq_true h
theorem sortI_perm (l:List Int):(sortI l).Perm l:=Dm l _
theorem Ar {n:Nat}{W:Int->Int->Nat}{s:Sta}{x y:Int}(g:Iv n W s)(h:Stp.two x y∈raw s):Iv n W (behind s (.two x y)):=by
 have L:=λf=>yL f s.ts x y
 have mem:∀t∈many s.ts x y,t∈s.ts:=λt ht=>by
  rcases BC.mp (mQ.mp ht) with z | z
  ·exact (BX.mp z).1
  ·exact (BX.mp (Dc z)).1
 have hxy:x<y:=by
  rcases fg.mp h with h | h
  ·obtain ⟨_,_,e⟩:=p9 h
   cases e
  ·exact ((dU g.wf).mp h).1
 refine ⟨g.nd,λt ht=>g.ends t (mem t ht),qg _,g.lfS,g.tkS,?_,?_,λa =>?_,λt ht=>g.ord t (mem t ht),λa b=>BS (L _) (g.st0 a b),λa b ha hb =>?_,λp=>BS (L _) (g.us p)⟩
 ·have:=L λt=>t.2.2.length
  have:=g.m1
  show s.lf.length+s.tk.length+sumF _ (many s.ts x y)<=40
  omega
 ·show (many s.ts x y).length<=200
  have:=L λ_=>1
  rw[<- iF, <- iF] at this
  have:=g.m3
  omega
 ·have:=L λt=>t.2.2.count a
  have:=g.cP a
  show s.lf.count a+s.tk.count a+sumF _ (many s.ts x y)<=_
  omega
 ·have:=g.pr a b ha hb
  show min 2 (W a b)<=cnt (many s.ts x y) a b
  have e1:=bY (λt=>if t.1=a/\t.2.1=b then 1 else 0) (btw x y) s.ts
  rw[jG] at this ⊢
  unfold many
  rw[i8,fU]
  by_cases c:x=a/\y=b
  ·obtain ⟨rfl,rfl⟩:=c
   have z:∀l:List Tie,(∀t∈l,btw x y t=true)->sumF (λt=>if t.1=x/\t.2.1=y then 1 else 0) l=l.length:=λl h=>by
    rw[iF]
    unfold sumF
    refine congrArg List.sum (EF λt ht =>?_)
    have:=h t ht
    rw[xn hxy] at this
    exact if_pos (of_decide_eq_true this)
   rw[z ((s.ts.filter (btw x y)).take 2) λt ht=>(BX.mp (Dc ht)).2,CA]
   rw[z (s.ts.filter (btw x y)) λt ht=>(BX.mp ht).2] at e1
   omega
  ·have z:∀l:List Tie,(∀t∈l,btw x y t=true)->sumF (λt=>if t.1=a/\t.2.1=b then 1 else 0) l=0:=λl h=>iG λt ht=>by
    have:=h t ht
    rw[xn hxy] at this
    have:=of_decide_eq_true this
    exact if_neg λz=>c ⟨this.1.symm.trans z.1,this.2.symm.trans z.2⟩
   rw[z (s.ts.filter (btw x y)) λt ht=>(BX.mp ht).2] at e1
   omega
theorem As {n:Nat}{W:Int->Int->Nat}{s:Sta}{w:Str}{x:Int}(g:Iv n W s)(h:Stp.one w x∈raw s):Iv n W (behind s (.one w x)):=by
 obtain ⟨hx,e1,e2,e3⟩:=Aq h
 have f1:=qe hx
 have inF:∀t∈s.ts.filter (λt => !isAt x t),t∈s.ts/\t.1≠x/\t.2.1≠x:=λt ht=>by
  obtain ⟨m,n⟩:=BX.mp ht
  rw[Et] at n
  unfold isAt at n
  rw[Bool.or_eq_false_iff,decide_eq_false_iff_not,decide_eq_false_iff_not] at n
  exact ⟨m,n⟩
 have inL:∀a,a∈s.lf->a≠x->a∈(behind s (.one w x)).lf:=λa h1 h2=>by
  rw[e1]
  exact BX.mpr ⟨h1,by rw[decide_eq_false h2];rfl⟩
 obtain ⟨J,eJ,hJ⟩:∃J:List Tie,(behind s (.one w x)).ts=dN (s.ts.filter (λt => !isAt x t)++J)/\((w = "two" /\ ∃u v,s.ts.filter (isAt x)=[u,v]/\(u∈s.ts/\u.1≠u.2.1/\isAt x u=true)/\(v∈s.ts/\v.1≠v.2.1/\isAt x v=true)/\J=[jn2 u v x])\/(w ≠ "two" /\ J=[])):=by
  rcases e3 with ⟨c,u,v,h1,h2,h3,h4⟩ | ⟨c,h4⟩
  ·exact ⟨_,h4,.inl ⟨c,u,v,h1,h2,h3,rfl⟩⟩
  ·exact ⟨[],by rw[Cf];exact h4,.inr ⟨c,rfl⟩⟩
 have S:∀f:Tie->Nat,sumF f (behind s (.one w x)).ts=sumF f (s.ts.filter λt => !isAt x t)+sumF f J:=λf=>by rw[eJ,i8,fU]
 have D:∀f:Tie->Nat,(∀u v:Tie,u.1≠u.2.1->v.1≠v.2.1->isAt x u=true->isAt x v=true->f (jn u v x)<=f u+f v)->sumF f (behind s (.one w x)).ts<=sumF f s.ts:=λf hf=>by
  rw[S]
  have:=bY f (isAt x) s.ts
  rcases hJ with ⟨_,u,v,h1,h2,h3,rfl⟩ | ⟨_,rfl⟩
  ·rw[h1,aK,aK,cw] at this
   rw[aK,cw]
   obtain ⟨y,z,hyz,_,ej⟩:=oa u v x
   rw[ej]
   rcases hyz with ⟨rfl,rfl⟩ | ⟨rfl,rfl⟩
   ·have:=hf y z h2.2.1 h3.2.1 h2.2.2 h3.2.2
    omega
   ·have:=hf y z h3.2.1 h2.2.1 h3.2.2 h2.2.2
    omega
  ·rw[cw]
   omega
 have memB:∀t∈(behind s (.one w x)).ts,(t∈s.ts/\t.1≠x/\t.2.1≠x)\/∃u v,(u∈s.ts/\u.1≠u.2.1)/\(v∈s.ts/\v.1≠v.2.1)/\other u x<=other v x/\t=jn u v x:=λt ht=>by
  rw[eJ] at ht
  rcases BC.mp (mQ.mp ht) with z | z
  ·exact .inl (inF t z)
  ·rcases hJ with ⟨_,u,v,h1,h2,h3,rfl⟩ | ⟨_,rfl⟩
   ·rw[Bz.mp z]
    obtain ⟨y,q,hyz,le,ej⟩:=oa u v x
    rcases hyz with ⟨rfl,rfl⟩ | ⟨rfl,rfl⟩
    ·exact .inr ⟨_,_,⟨h2.1,h2.2.1⟩,⟨h3.1,h3.2.1⟩,le,ej⟩
    ·exact .inr ⟨_,_,⟨h3.1,h3.2.1⟩,⟨h2.1,h2.2.1⟩,le,ej⟩
   ·cases z
 refine ⟨by rw[e1];exact g.nd.filter _,λt ht =>?_,by rw[eJ];exact qg _,by rw[e1];exact JW _ g.lfS,?_,?_,?_,λa =>?_,λt ht =>?_,λa b =>?_,λa b ha hb =>?_,λp =>?_⟩
 ·rcases memB t ht with ⟨h1,h2,h3⟩ | ⟨u,v,hu,hv,_,rfl⟩
  ·have:=g.ends t h1
   exact ⟨inL _ this.1 h2,inL _ this.2 h3⟩
  ·have a1:=qf (x:=x) hu.2 (g.ends u hu.1)
   have a2:=qf (x:=x) hv.2 (g.ends v hv.1)
   exact ⟨inL _ a1.1 a1.2,inL _ a2.1 a2.2⟩
 ·rw[e2]
  split
  ·exact oe _
  ·exact g.tkS
 ·have m1:=g.m1
  rw[e1,e2,S]
  have sp:=bY (λt=>t.2.2.length) (isAt x) s.ts
  rcases hJ with ⟨c,u,v,h1,h2,h3,rfl⟩ | ⟨c,rfl⟩
  ·rw[h1,aK,aK,cw] at sp
   have lj:(jn2 u v x).2.2.length<=u.2.2.length+1+v.2.2.length:=by
    have key:∀y z:Tie,(jn y z x).2.2.length<=y.2.2.length+1+z.2.2.length:=λy z=>by
     have h:(aX y (other y x)++[x]++aX z x).length=y.2.2.length+1+z.2.2.length:=by
      rw[Bj,Bj,di,di];rfl
     unfold jn
     dsimp only
     split
     ·split
      ·rw[CZ];omega
      ·omega
     ·omega
    obtain ⟨y,z,hyz,_,ej⟩:=oa u v x
    rw[ej]
    rcases hyz with ⟨rfl,rfl⟩ | ⟨rfl,rfl⟩
    ·exact key _ _
    ·have:=key y z
     omega
   rw[if_neg (by rw[c];decide),aK,cw]
   omega
  ·rw[cw]
   split
   ·rw[(sortI_perm _).length_eq,Bj,BV]
    omega
   ·omega
 ·have:=D (λ_=>1) λ_ _ _ _ _ _=>by omega
  rw[<- iF, <- iF] at this
  have:=g.m3
  omega
 ·have cP:=g.cP a
  have cf:=kT g.nd hx a
  rw[e1,e2,S]
  have sp:=bY (λt=>t.2.2.count a) (isAt x) s.ts
  rcases hJ with ⟨c,u,v,h1,h2,h3,rfl⟩ | ⟨c,rfl⟩
  ·rw[h1,aK,aK,cw] at sp
   obtain ⟨y,z,hyz,_,ej⟩:=oa u v x
   have cj:=xh (u:=y) (v:=z) x a
   rw[if_neg (by rw[c];decide),aK,cw,ej,cj]
   rcases hyz with ⟨rfl,rfl⟩ | ⟨rfl,rfl⟩ <;> omega
  ·rw[cw]
   split
   ·rw[(sortI_perm _).count_eq,Dr,Cy,GO]
    have:(if (x == a)=true then 1 else 0)=if a=x then 1 else 0:=by
     by_cases z:a=x
     ·rw[if_pos z,z];simp
     ·rw[if_neg z,if_neg]
      rw[beq_iff_eq]
      exact λy=>z y.symm
    omega
   ·omega
 ·rcases memB t ht with ⟨h1,_,_⟩ | ⟨u,v,_,_,le,rfl⟩
  ·exact g.ord t h1
  ·exact ⟨le,(xk u v x).2⟩
 ·refine BS (D _ λu v _ _ _ _ =>?_) (g.st0 a b)
  rw[if_neg λz=>(xk u v x).1 z.1]
  exact BU _
 ·have ha':=ha
  have hb':=hb
  rw[e1] at ha' hb'
  have h1:=BX.mp ha'
  have h2:=BX.mp hb'
  have na:a≠x:=λz=>by have:=h1.2;rw[decide_eq_true z] at this;cases this
  have nb:b≠x:=λz=>by have:=h2.2;rw[decide_eq_true z] at this;cases this
  have p:=g.pr a b h1.1 h2.1
  rw[jG] at p ⊢
  rw[S]
  have sp:=bY (λt=>if t.1=a/\t.2.1=b then 1 else 0) (isAt x) s.ts
  have z:sumF (λt=>if t.1=a/\t.2.1=b then 1 else 0) (s.ts.filter (isAt x))=0:=iG λt ht=>if_neg λz=>by
   have:=(BX.mp ht).2
   unfold isAt at this
   rw[Ek,decide_eq_true_iff,decide_eq_true_iff,z.1,z.2] at this
   exact this.elim na nb
  omega
 ·exact BS (D _ λu v nu nv au av=>by rw[yM nu nv au av];exact Bn _) (g.us p)
theorem vh {n:Nat}{W:Int->Int->Nat}{s:Sta}{st:Stp}(g:Iv n W s)(h:st∈raw s):Iv n W (behind s st):=by
 cases st with
 | two x y=>exact Ar g h
 | one w x=>exact As g h
def Ran:Sta->List Stp->Prop
 | _,[]=>True
 | s,t :: r=>t∈raw s/\Ran (behind s t) r
def runs (s:Sta)(l:List Stp):Sta:=l.foldl behind s
theorem qh:∀{l:List Stp} {s:Sta} {t:Stp},Ran s l->t∈raw (runs s l)->Ran s (l++[t])
 | [],_,_,_,h=>⟨h,trivial⟩
 | _ :: _,_,_,⟨h1,h2⟩,h=>⟨h1,qh h2 h⟩
theorem xo:∀{l:List Stp} {s:Sta} {i:Nat} {t:Stp},Ran s l->l[i]? = some t->t∈raw (runs s (l.take i))
 | [],_,_,_,_,h=>by simp at h
 | u :: l,s,0,t,h,e=>by
  cases e
  exact h.1
 | u :: l,s,i+1,t,h,e=>by
  rw[Ic]
  exact xo (l:=l) h.2 (by simpa using e)
theorem mR (s:Sta)(l:List Stp)(t:Stp):runs s (l++[t])=behind (runs s l) t:=by
 unfold runs
 rw[List.foldl_append];rfl
theorem qi:∀{l:List Stp} {s:Sta} (i:Nat),Ran s l->Ran s (l.take i)
 | [],_,_,h=>by rw[List.take_nil];exact h
 | _ :: _,_,0,_=>trivial
 | _ :: _,_,i+1,⟨h1,h2⟩=>⟨h1,qi i h2⟩
theorem iH {n:Nat}{W:Int->Int->Nat}:∀{l:List Stp} {s:Sta},Iv n W s->Ran s l->Iv n W (runs s l)
 | [],_,g,_=>g
 | t :: l,s,g,⟨h1,h2⟩=>show Iv n W (runs (behind s t) l) from iH (vh g h1) h2
def a6 (l:List Stp):List Int:=l.filterMap λt=>match t with
 | .one w x=>if w = "loop" then some x else none
 | .two _ _=>none
theorem vi (s:Sta)(t:Stp):(behind s t).tk.Perm (s.tk++a6 [t]):=by
 cases t with
 | two x y=>show s.tk.Perm (s.tk++[]);rw[Cf]
 | one w x =>
  show (if w = "loop" then sortI (s.tk++[x]) else s.tk).Perm _
  by_cases c:w = "loop"
  ·rw[if_pos c]
   have:a6 [.one w x]=[x]:=by unfold a6;simp[c]
   rw[this]
   exact sortI_perm _
  ·rw[if_neg c]
   have:a6 [.one w x]=[]:=by unfold a6;simp[c]
   rw[this,Cf]
theorem tT:∀(l:List Stp) (s:Sta),(runs s l).tk.Perm (s.tk++a6 l)
 | [],s=>by show s.tk.Perm (s.tk++[]);rw[Cf]
 | t :: l,s=>by
  have h:=tT l (behind s t)
  have e:a6 (t :: l)=a6 [t]++a6 l:=by
   unfold a6
   rw[<- HC];rfl
  rw[e, <- BZ]
  exact h.trans ((vi s t).append_right _)
open PySem L2
open Srt
theorem i9 {K:Be}{H H':Hp}{a:Addr}{cs:List Cell}(k:∀b xs,SqT K H b xs->SqT K H' b xs)(h:RowC K H a cs):RowC K H' a cs:=by
 obtain ⟨xs,h1,h2⟩:=h
 exact ⟨xs,k _ _ h1,dg k h2⟩
theorem StA.on {K:Be}{H H':Hp}{p:Addr}{s:Sta}(k:∀b xs,SqT K H b xs->SqT K H' b xs)(h:StA K H p s):StA K H' p s:=by
 obtain ⟨a,b,c,ks,h1,h2,h3,h4,h5⟩:=h
 exact ⟨a,b,c,ks,k _ _ h1,k _ _ h2,⟨k _ _ h3.1,λt ht=>i9 k (h3.2 t ht)⟩,h4,k _ _ h5⟩
theorem kU {K:Be}{H:Hp}{l:Addr}{xs:List V}{o:HO}(hl:H l=some (.lst xs)):∀b us,SqT K H b us->SqT K (upd H l o) b us:=λb us h=>h.imp (λr=>r.elim (λe =>.inl (by rw[ao (λz=>by rw[z,hl] at e;cases e)];exact e)) λ⟨o,e⟩ =>.inr ⟨o,by rw[ao (λz=>by rw[z,hl] at e;cases e)];exact e⟩) id
theorem ja {H H1:Hp}{l:Addr}{o:HO}(hl:H l=none)(s:ax H H1):ax H (upd H1 l o):=λa u e=>by rw[ao (aA e hl)];exact s _ _ e
theorem none_of {H H':Hp}{l:Addr}(s:ax H H')(h:H' l=none):H l=none:=by
 cases e:H l with
 | none=>rfl
 | some o=>rw[s _ _ e] at h;cases h
def Sts (K:Be)(H:Hp)(l:Addr)(s:Sta)(L:List Stp)(n:Nat):Prop:=∃ps:List Addr,H l=some (.lst (ps.map V.ref))/\ps.length=n+1/\∀j p,ps[j]? = some p->StA K H p (runs s (L.take j))
@[irreducible] def jH (P:BD)(w:Cb)(K:Be)(mg:Str->Option Bh)(base:Heap):Sp:=λvs H Q E=>∃(p lg f1 f2:Addr) (s:Sta) (log:List (Addr×Stp)) (n:Nat) (W:Int->Int->Nat),vs=[.ref p,.ref lg,.ref f1,.ref f2]/\uV P w K mg base 4 f1 ["state", "step"] (kP K)/\uV P w K mg base 6 f2 ["state", "step"] (gZ K)/\StA K H p s/\Iv n W s/\H lg=some (.lst (log.map λk =>.ref k.1))/\(∀k∈log,RowC K H k.1 k.2.cs)/\Ran s (log.map (·.2))/\log.length<=1000/\H PJ=some (.tbl psJ)/\∀(l:Addr) (H':Hp),ax H H'->Sts K H' l s (log.map (·.2)) log.length->Q (.ref l) H'
theorem fV {P:BD}{w:Cb}{K:Be}{mg:Str->Option Bh}{base:Heap}{vs:List V}{H:Hp}{Q:VK}{E:XK}:jH P w K mg base vs H Q E↔∃(p lg f1 f2:Addr) (s:Sta) (log:List (Addr×Stp)) (n:Nat) (W:Int->Int->Nat),vs=[.ref p,.ref lg,.ref f1,.ref f2]/\uV P w K mg base 4 f1 ["state", "step"] (kP K)/\uV P w K mg base 6 f2 ["state", "step"] (gZ K)/\StA K H p s/\Iv n W s/\H lg=some (.lst (log.map λk =>.ref k.1))/\(∀k∈log,RowC K H k.1 k.2.cs)/\Ran s (log.map (·.2))/\log.length<=1000/\H PJ=some (.tbl psJ)/\∀(l:Addr) (H':Hp),ax H H'->Sts K H' l s (log.map (·.2)) log.length->Q (.ref l) H':=by
 delta jH
 exact DN
section
variable  {P:BD}{w:Cb}{K:Be}{mg:Str->Option Bh}{base:Heap}{f T:Addr}{fd:Cr}
theorem cE:aO ["state", "log", "lets", "done", "states", "at", "step"] ["state", "log", "lets", "done"] (aq eU):=⟨rfl,rfl,rfl,by decide +kernel,rfl,by decide +kernel,by decide +kernel⟩
theorem lK (F:Fun K "states_along" "states_along" eU f fd)(B:Blt mg):bF P w K mg base CX0 7 f fd ["state", "log", "lets", "done"] (jH P w K mg base):=by
 refine F.ok cE (λvs H Q E h =>?_) (λcdv A outer s H vs Q E hr h =>?_)
 ·obtain ⟨_,_,_,_,_,_,_,_,rfl,_⟩:=fV.mp h
  rfl
 obtain ⟨p,lg,f1,f2,s,log,n,W,rfl,C1,C2,hs,gs,el,rl,rn,ln,hP,q⟩:=fV.mp h
 refine ⟨_,(@aj _ _ _ _ _ (@aL _ _ 4 _ _ _ _ cE.nd rfl (Or.inl rfl) (@cO _ _ _ _ (@aa _ _ _ _ _ (pv 0) ag rfl)) rfl (by first | exact .inl rfl | exact .inr rfl | assumption))
  (@aj _ _ _ _ _ (@dA _ _ _ _ _ _ _ _ Dj rfl (sC rfl B.b_enumerate (@aa _ _ _ _ _ (pv 1) ag rfl)) (gI rfl (bb (aB (i:=5) cE.nd rfl (Or.inl rfl)) (bb (aB (i:=6) cE.nd rfl (Or.inl rfl)) dY)))
   (@aj _ _ _ _ _ (@bM _ _ _ _ _ _ _ _ (iM (fA (pK 4 (pv 2) hr (by decide) (@aa _ _ _ _ _ (@ay _ _ _ _ _ _ _ bN (pv 4) (pv 5) (λ_ _=>rfl)) (@aa _ _ _ _ _ (pv 6) ag rfl) rfl)))) lM aU)
   (@ak _ _ _ (dk (fD Cp CW CY cB (pv 4) (@aa _ _ _ _ _ (pK 6 (pv 3) hr (by decide) (@aa _ _ _ _ _ (@ay _ _ _ _ _ _ _ bN (pv 4) (pv 5) (λ_ _=>rfl)) (@aa _ _ _ _ _ (pv 6) ag rfl) rfl)) ag rfl))))) (λ_=>rfl))
  (@ak _ _ _ (@aM _ _ _ _ (pv 4))))),?_⟩
 refine ⟨_,rfl,fS,λl hl =>?_⟩
 have s0:=ae hl (.lst [.ref p])
 have e0:(upd H l (.lst [.ref p])) l=some (.lst ([p].map V.ref)):=af
 generalize upd H l (.lst [.ref p])=H0 at s0 e0
 refine ⟨_,rfl,lg,rfl,.inl ⟨⟨_,SqL.of (s0 _ _ el)⟩,lY (xs:=log.map λk:Addr×Stp=>V.ref k.1) (λi σ H'=>(∃c5 c6,σ=[some (.ref p),some (.ref lg),some (.ref f1),some (.ref f2),some (.ref l),c5,c6])/\ax H H'/\Sts K H' l s (log.map (·.2)) i) ⟨⟨_,_,rfl⟩,s0,[p],e0,rfl,λj q hq =>?_⟩ (λi σ H' _ h=>SqL.of (h.2.1 _ _ el)) ?_ ?_⟩⟩
 ·match j,hq with
  | 0,hq=>cases hq;rw[Ed];exact hs.same s0
  | j+1,hq=>simp at hq
 ·rintro i x σ J T hx hT ⟨⟨c5,c6,rfl⟩,sJ,ps,ep,lp,hp⟩
  rw[BQ] at hx
  obtain ⟨kt,ek,rfl⟩:=FF.mp hx
  have hkt:=B4 ek
  have li:i<log.length:=(Bt.mp ek).1
  have gT:=ae hT (.tup [.int i,.ref kt.1])
  have eT:(upd J T (.tup [.int i,.ref kt.1])) T=_:=af
  have ep:=gT _ _ ep
  have hp:∀j p,ps[j]? = some p->StA K (upd J T (.tup [.int i,.ref kt.1])) p (runs s ((log.map (·.2)).take j)):=λj p h=>(hp j p h).same gT
  have sJ:=sJ.trans gT
  generalize upd J T (.tup [.int i,.ref kt.1])=J1 at gT eT ep hp sJ
  obtain ⟨pi,epi⟩:∃pi,ps[i]? = some pi:=⟨_,BA (show i<ps.length by omega)⟩
  have hpi:=hp i pi epi
  have rk:=az sJ (rl kt hkt)
  have eL:(log.map (·.2))[i]? = some kt.2:=by rw[BQ,ek];rfl
  have hst:=xo rn eL
  have gi:=iH gs (qi i rn)
  have et:(log.map (·.2)).take (i+1)=(log.map (·.2)).take i++[kt.2]:=by rw[CT,eL];rfl
  obtain ⟨wd,is,ew⟩:=y8 kt.2
  have hc:can (runs s ((log.map (·.2)).take i)) wd is=true:=decide_eq_true (Bw.mpr ⟨kt.2,hst,ew⟩)
  refine ⟨T,_,rfl,SqT.of eT,rfl,_,_,rfl,_,_,rfl,rfl,?_⟩
  refine ⟨_,rfl,f1,_,_,rfl,C1,_,rfl,_,rfl,l,_,i,.ref pi,rfl,rfl,SqL.of ep,dZ (by rw[BQ,epi];rfl),_,rfl,gw.mpr ⟨pi,kt.1,_,wd,is,rfl,hpi,gi.wf,xc (ew ▸ rk),λJ2 t2=>⟨_,rfl,?_⟩⟩⟩
  rw[hc]
  refine bC ?_
  have ep2:=t2 _ _ ep
  refine ⟨_,rfl,.inl ⟨rfl,_,SqL.of ep2⟩,_,rfl,f2,_,_,rfl,C2,_,rfl,_,rfl,l,_,i,.ref pi,rfl,rfl,SqL.of ep2,dZ (by rw[BQ,epi];rfl),_,rfl,fe.mpr ⟨pi,kt.1,_,kt.2,rfl,hpi.same t2,az t2 rk,(sJ.trans t2) _ _ hP,xg hst,gi.wf.toSml,λp' J3 t3 h3 =>?_⟩⟩
  have ep3:=t3 _ _ ep2
  refine ⟨l,_,_,rfl,rfl,ep3,by rw[Bg,lp];exact Cn (show i+1<=1000 by omega) (by decide),?_⟩
  have k3:=kU (K:=K) (o :=.lst (ps.map V.ref++[.ref p'])) ep3
  refine ⟨⟨_,_,rfl⟩,ja hl ((sJ.trans t2).trans t3),ps++[p'],by rw[af,BB];rfl,by rw[Bj,lp];rfl,λj q hq =>?_⟩
  by_cases c:j<ps.length
  ·rw[DJ c] at hq
   exact ((hp j q hq).same (t2.trans t3)).on k3
  ·rw[DD (by omega)] at hq
   have:j=i+1:=by
    cases e:j-ps.length with
    | zero=>omega
    | succ m=>rw[e] at hq;simp at hq
   subst this
   rw[show i+1-ps.length=0 by omega] at hq
   cases hq
   rw[et,mR]
   exact h3.on k3
 ·rintro σ J ⟨⟨c5,c6,rfl⟩,sJ,st⟩
  rw[Bg] at st
  exact ⟨_,rfl,q l J sJ st⟩
end
open PySem L2
open Srt
def s0 (n:Nat)(ts:List (Addr×Int×Int)):Sta:=⟨(Cc n).map λi:Nat=>(i:Int),ts.map λu=>(u.2.1,u.2.2,[]),[]⟩
def Wc (ts:List (Addr×Int×Int))(a b:Int):Nat:=(ts.filter λu=>decide (u.2.1=a/\u.2.2=b)).length
structure Web (K:Be)(H:Hp)(r:Addr)(n:Nat)(ts:List (Addr×Int×Int)):Prop where
 ex:∃t,SqT K H r [.int n,.ref t]/\SqT K H t (ts.map λu =>.ref u.1)
 tie:∀u∈ts,SqT K H u.1 [.int u.2.1,.int u.2.2]
 iv:Iv n (Wc ts) (s0 n ts)
theorem rW {K:Be}{H H':Hp}{p:Addr}(hp:Pt 1 H p)(b:Bu 1 p H H'):∀a xs,SqT K H a xs->SqT K H' a xs:=λa xs h=>h.imp (λr=>r.elim (λe =>.inl (b.st _ _ (hp.neT e) e)) λ⟨o,e⟩ =>.inr ⟨o,b.st _ _ (λz=>by rw[z] at e;obtain ⟨_,_,w⟩:=hp;rw[w] at e;cases e) e⟩) id
theorem kW {H H':Hp}{p a:Addr}{ps:Array Bh}(hp:Pt 1 H p)(b:Bu 1 p H H')(h:H a=some (.tbl ps)):H' a=some (.tbl ps):=b.st _ _ (λz=>by rw[z] at h;obtain ⟨_,_,w⟩:=hp;rw[w] at h;cases h) h
theorem Au {H:Hp}{p l:Addr}{β:Type}{ks:List (Addr×β)}(hp:Pt 1 H p)(h:H l=some (.lst (ks.map λk =>.ref k.1))):l≠p:=λz=>by
 obtain ⟨xs,lx,w⟩:=hp
 rw[z,w] at h
 match xs,lx with
 | [x],_ =>
  cases ks with
  | nil=>cases h
  | cons k ks=>cases h
def Av (H:Hp)(l:Addr):Nat:=match H l with
 | some (.lst xs)=>xs.length
 | _=>0
theorem tU {H:Hp}{l:Addr}{xs:List V}(h:H l=some (.lst xs)):Av H l=xs.length:=by
 unfold Av
 rw[h]
theorem Web.n40 {K:Be}{H:Hp}{r:Addr}{n:Nat}{ts:List (Addr×Int×Int)}(h:Web K H r n ts):n<=40/\ts.length<=200:=by
 have h1:=h.iv.m1
 have h2:=h.iv.m3
 unfold s0 at h1 h2
 simp only[Bg,DG] at h1 h2
 omega
theorem vj {K:Be}{s:Sta}(W:Wf s):(gu s).length<=200000:=by
 have:=tQ W
 rw[<- (Dm (raw s) leS).length_eq] at this
 exact this
@[irreducible] def og (K:Be):Sp:=λvs H Q _=>∃(r lg:Addr) (n:Nat) (ts:List (Addr×Int×Int)) (log:List (Addr×Stp)),vs=[.ref r,.ref lg]/\Web K H r n ts/\(H lg=some (.lst (log.map λk =>.ref k.1))/\(∀k∈log,RowC K H k.1 k.2.cs)/\Ran (s0 n ts) (log.map (·.2))/\log.length<=1000)/\H PJ=some (.tbl psJ)/\∀(l:Addr) (H':Hp),ax H H'->Sts K H' l (s0 n ts) (log.map (·.2)) log.length->Q (.ref l) H'
theorem g7 {K:Be}{vs:List V}{H:Hp}{Q:VK}{E:XK}:og K vs H Q E↔∃(r lg:Addr) (n:Nat) (ts:List (Addr×Int×Int)) (log:List (Addr×Stp)),vs=[.ref r,.ref lg]/\Web K H r n ts/\(H lg=some (.lst (log.map λk =>.ref k.1))/\(∀k∈log,RowC K H k.1 k.2.cs)/\Ran (s0 n ts) (log.map (·.2))/\log.length<=1000)/\H PJ=some (.tbl psJ)/\∀(l:Addr) (H':Hp),ax H H'->Sts K H' l (s0 n ts) (log.map (·.2)) log.length->Q (.ref l) H':=by
 delta og
 exact DN
@[irreducible] def tV (K:Be):Sp:=λvs H Q _=>∃(r lg:Addr) (n:Nat) (ts:List (Addr×Int×Int)) (log:List (Addr×Stp)),vs=[.ref r,.ref lg]/\Web K H r n ts/\(H lg=some (.lst (log.map λk =>.ref k.1))/\(∀k∈log,RowC K H k.1 k.2.cs)/\Ran (s0 n ts) (log.map (·.2))/\log.length<=1000)/\H PJ=some (.tbl psJ)/\∀(p:Addr) (H':Hp),ax H H'->StA K H' p (runs (s0 n ts) (log.map (·.2)))->Q (.ref p) H'
theorem jb {K:Be}{vs:List V}{H:Hp}{Q:VK}{E:XK}:tV K vs H Q E↔∃(r lg:Addr) (n:Nat) (ts:List (Addr×Int×Int)) (log:List (Addr×Stp)),vs=[.ref r,.ref lg]/\Web K H r n ts/\(H lg=some (.lst (log.map λk =>.ref k.1))/\(∀k∈log,RowC K H k.1 k.2.cs)/\Ran (s0 n ts) (log.map (·.2))/\log.length<=1000)/\H PJ=some (.tbl psJ)/\∀(p:Addr) (H':Hp),ax H H'->StA K H' p (runs (s0 n ts) (log.map (·.2)))->Q (.ref p) H':=by
 delta tV
 exact DN
section
variable  {P:BD}{w:Cb}{K:Be}{mg:Str->Option Bh}{base:Heap}{f T:Addr}{fd:Cr}
theorem qj:aO ["web", "log"] ["web", "log"] (aq gR):=⟨rfl,rfl,rfl,by decide +kernel,rfl,by decide +kernel,by decide +kernel⟩
theorem ql (F:Fun K "log_states" "log_states" gR f fd)(B:Blt mg)(cStatesAlong:Cal P w K mg base 7 "states_along" ["state", "log", "lets", "done"] (jH P w K mg base))(cCanDo:Cal P w K mg base 4 "can_do" ["state", "step"] (kP K))(cStepDone:Cal P w K mg base 6 "step_done" ["state", "step"] (gZ K))(cBeginRules:Cal P w K mg base 1 "begin_rules" ["web"] (iD K)):bF P w K mg base CX0 8 f fd ["web", "log"] (og K):=by
 refine F.ok qj (λvs H Q E h =>?_) (λcdv A outer s H vs Q E hr h =>?_)
 ·obtain ⟨_,_,_,_,_,rfl,_⟩:=g7.mp h
  rfl
 obtain ⟨r,lg,n,ts,log,rfl,hw,⟨el,rl,rn,ln⟩,hP,q⟩:=g7.mp h
 obtain ⟨f1,hm1,CF1⟩:=cCanDo.val
 obtain ⟨f2,hm2,CF2⟩:=cStepDone.val
 refine ⟨_,(@ak _ _ _ (@aM _ _ _ _ (aH cStatesAlong hr (by decide) rfl (@aa _ _ _ _ _ (aH cBeginRules hr (by decide) rfl (@aa _ _ _ _ _ (pv 0) ag rfl)) (@aa _ _ _ _ _ (pv 1) (@aa _ _ _ _ _ (rZ (v :=.ref f1) rfl hm1 rfl) (@aa _ _ _ _ _ (rZ (v :=.ref f2) rfl hm2 rfl) ag rfl) rfl) rfl) rfl)))),?_⟩
 obtain ⟨⟨t,e1,e2⟩,h2,gi⟩:=hw
 have nn:=Web.n40 ⟨⟨t,e1,e2⟩,h2,gi⟩
 refine ⟨_,rfl,du.mpr ⟨r,t,n,ts,rfl,e1,e2,h2,by omega,by omega,λp q' l k H1 ks s1 g1 g2 g3 g4 g5 =>?_⟩⟩
 refine ⟨_,rfl,fV.mpr ⟨p,lg,f1,f2,s0 n ts,log,n,Wc ts,rfl,CF1,CF2,⟨q',l,k,ks,g1,by unfold s0;rw[BP];exact g2,g3,g4,g5⟩,gi,s1 _ _ el,λk hk=>az s1 (rl k hk),rn,ln,s1 _ _ hP,λl' H' s2 st=>q l' H' (s1.trans s2) st⟩⟩
end
section
variable  {P:BD}{w:Cb}{K:Be}{mg:Str->Option Bh}{base:Heap}{f T:Addr}{fd:Cr}
theorem xp:aO ["web", "log"] ["web", "log"] (aq nM):=⟨rfl,rfl,rfl,by decide +kernel,rfl,by decide +kernel,by decide +kernel⟩
theorem xq (F:Fun K "run_log" "run_log" nM f fd)(B:Blt mg)(cLogStates:Cal P w K mg base 8 "log_states" ["web", "log"] (og K)):bF P w K mg base CX0 9 f fd ["web", "log"] (tV K):=by
 refine F.ok xp (λvs H Q E h =>?_) (λcdv A outer s H vs Q E hr h =>?_)
 ·obtain ⟨_,_,_,_,_,rfl,_⟩:=jb.mp h
  rfl
 obtain ⟨r,lg,n,ts,log,rfl,hw,hl,hP,q⟩:=jb.mp h
 refine ⟨_,(@ak _ _ _ (@aM _ _ _ _ (@ay _ _ _ _ _ _ _ bN (aH cLogStates hr (by decide) rfl (@aa _ _ _ _ _ (pv 0) (@aa _ _ _ _ _ (pv 1) ag rfl) rfl)) (vy qy ai) (λ_ _=>rfl)))),?_⟩
 refine ⟨_,rfl,_,rfl,g7.mpr ⟨r,lg,n,ts,log,rfl,hw,hl,hP,λl H1 s1 st =>?_⟩⟩
 obtain ⟨ps,ep,lp,hp⟩:=st
 obtain ⟨pa,ea⟩:∃pa,ps.getLast? = some pa:=by
  cases h:ps.getLast? with
  | none=>rw[List.getLast?_eq_none_iff] at h;rw[h] at lp;cases lp
  | some pa=>exact ⟨pa,rfl⟩
 obtain ⟨ys,rfl⟩:∃ys,ps=ys++[pa]:=by
  obtain ⟨ys,e⟩:=List.getLast?_eq_some_iff.mp ea
  exact ⟨ys,e⟩
 rw[Bj,BV] at lp
 have h:=hp log.length pa (by rw[show log.length=ys.length by omega];simp)
 rw[B5 (by rw[Bg];exact Bn _)] at h
 rw[BB] at ep
 exact ⟨_,rfl,l,_, -1,_,rfl,rfl,SqL.of ep,oE _ _,q pa H1 s1 h⟩
end
open PySem L2
open Srt
@[irreducible] def oh (K:Be):Sp:=λvs H Q _=>∃(p r:Addr) (m:Int) (n:Nat) (ts:List (Addr×Int×Int)),vs=[.ref p,.ref r,.int m]/\Pt 1 H p/\0<=m/\m<=60/\Web K H r n ts/\H PJ=some (.tbl psJ)/\∀(q lg ps:Addr) (log:List (Addr×Stp)) (H':Hp),Bu 1 p H H'->SqT K H' q [.ref lg,.ref ps]->lg≠p->H' lg=some (.lst (log.map λk =>.ref k.1))->(∀k∈log,RowC K H' k.1 k.2.cs)->Ran (s0 n ts) (log.map (·.2))->log.length<=60->StA K H' ps (runs (s0 n ts) (log.map (·.2)))->Q (.ref q) H'
theorem g8 {K:Be}{vs:List V}{H:Hp}{Q:VK}{E:XK}:oh K vs H Q E↔∃(p r:Addr) (m:Int) (n:Nat) (ts:List (Addr×Int×Int)),vs=[.ref p,.ref r,.int m]/\Pt 1 H p/\0<=m/\m<=60/\Web K H r n ts/\H PJ=some (.tbl psJ)/\∀(q lg ps:Addr) (log:List (Addr×Stp)) (H':Hp),Bu 1 p H H'->SqT K H' q [.ref lg,.ref ps]->lg≠p->H' lg=some (.lst (log.map λk =>.ref k.1))->(∀k∈log,RowC K H' k.1 k.2.cs)->Ran (s0 n ts) (log.map (·.2))->log.length<=60->StA K H' ps (runs (s0 n ts) (log.map (·.2)))->Q (.ref q) H':=by
 delta oh
 exact DN
section
variable  {P:BD}{w:Cb}{K:Be}{mg:Str->Option Bh}{base:Heap}{f T:Addr}{fd:Cr}
theorem g9:aO ["pot", "web", "most", "state", "log", "steps", "step"] ["pot", "web", "most"] (aq wR):=⟨rfl,rfl,rfl,by decide +kernel,rfl,by decide +kernel,by decide +kernel⟩
theorem Aw (F:Fun K "_law_log" "_law_log" wR f fd)(B:Blt mg)(cBeginRules:Cal P w K mg base 1 "begin_rules" ["web"] (iD K))(cStepsNow:Cal P w K mg base 4 "steps_now" ["state"] (jD K))(cRuleStep:Cal P w K mg base 7 "rule_step" ["state", "step"] (jE K))(cLTake:Cal P w K mg base 1 "_law_take" ["pot", "many"] fQ):bF P w K mg base CX0 8 f fd ["pot", "web", "most"] (oh K):=by
 refine F.ok g9 (λvs H Q E h =>?_) (λcdv A outer s H vs Q E hr h =>?_)
 ·obtain ⟨_,_,_,_,_,rfl,_⟩:=g8.mp h
  rfl
 obtain ⟨p,r,m,n,ts,rfl,hp,m0,m6,hw,hP,q⟩:=g8.mp h
 refine ⟨_,(@aj _ _ _ _ _ (@aL _ _ 3 _ _ _ _ g9.nd rfl (Or.inl rfl) (aH cBeginRules hr (by decide) rfl (@aa _ _ _ _ _ (pv 1) ag rfl)) rfl (by first | exact .inl rfl | exact .inr rfl | assumption))
  (@aj _ _ _ _ _ (@aL _ _ 4 _ _ _ _ g9.nd rfl (Or.inl rfl) (@cO _ _ _ _ ag) rfl (by first | exact .inl rfl | exact .inr rfl | assumption))
  (@aj _ _ _ _ _ (@aL _ _ 5 _ _ _ _ g9.nd rfl (Or.inl rfl) (aH cStepsNow hr (by decide) rfl (@aa _ _ _ _ _ (pv 3) ag rfl)) rfl (by first | exact .inl rfl | exact .inr rfl | assumption))
  (@aj _ _ _ _ _ (vt Dj (PW.pt (jM (aF (Af hr) (pv 5) (@cO _ _ _ _ ag) (aN _)) (ia (aF sj (aD bz rfl B.b_len eV (@aa _ _ _ _ _ (pv 4) ag rfl)) (pv 2) (aN _)))))
   (@aj _ _ _ _ _ (@aL _ _ 6 _ _ _ _ g9.nd rfl (Or.inl rfl) (@ay _ _ _ _ _ _ _ bN (pv 5) (aH cLTake hr (by decide) rfl (@aa _ _ _ _ _ (pv 0) (@aa _ _ _ _ _ (aD bz rfl B.b_len eV (@aa _ _ _ _ _ (pv 5) ag rfl)) ag rfl) rfl)) (λ_ _=>rfl)) rfl (by first | exact .inl rfl | exact .inr rfl | assumption))
   (@aj _ _ _ _ _ (dk (fD Cp CW CY cB (pv 4) (@aa _ _ _ _ _ (pv 6) ag rfl)))
   (@aj _ _ _ _ _ (@aL _ _ 3 _ _ _ _ g9.nd rfl (Or.inl rfl) (aH cRuleStep hr (by decide) rfl (@aa _ _ _ _ _ (pv 3) (@aa _ _ _ _ _ (pv 6) ag rfl) rfl)) rfl (by first | exact .inl rfl | exact .inr rfl | assumption))
   (@ak _ _ _ (@aL _ _ 5 _ _ _ _ g9.nd rfl (Or.inl rfl) (aH cStepsNow hr (by decide) rfl (@aa _ _ _ _ _ (pv 3) ag rfl)) rfl (by first | exact .inl rfl | exact .inr rfl | assumption)))))))
  (@ak _ _ _ (@aM _ _ _ _ (@bh _ _ _ _ _ (@aa _ _ _ _ _ (pv 4) (@aa _ _ _ _ _ (pv 3) ag rfl) rfl)))))))),?_⟩
 have gi:=hw.iv
 have nn:=hw.n40
 obtain ⟨⟨t,e1,e2⟩,h2,_⟩:=hw
 refine ⟨_,rfl,du.mpr ⟨r,t,n,ts,rfl,e1,e2,h2,by omega,by omega,λp0 q' l' k0 H1 ks s1 g1 g2 g3 g4 g5 =>?_⟩⟩
 have st1:StA K H1 p0 (s0 n ts):=⟨q',l',k0,ks,g1,by unfold s0;rw[BP];exact g2,g3,g4,g5⟩
 clear g1 g2 g3 g4 g5
 refine ⟨BU _,λlg hl =>?_⟩
 have p1:=hp.same s1
 have nlg:lg≠p:=p1.ne hl
 have hlg:H lg=none:=none_of s1 hl
 have u2:=s1.trans (ae hl (.lst []))
 have e0:(upd H1 lg (.lst [])) lg=some (.lst (([]:List (Addr×Stp)).map λk =>.ref k.1)):=af
 have st2:=st1.same (ae hl (.lst []))
 generalize upd H1 lg (.lst [])=H2 at u2 e0 st2
 refine ⟨_,rfl,dy.mpr ⟨p0,s0 n ts,rfl,st2,gi.wf,λlS H3 os t3 nS e3 r3 m3 =>?_⟩⟩
 have hlS:H lS=none:=none_of u2 nS
 have u3:=u2.trans t3
 refine vx (λσ H'=>∃(ps lS:Addr) (os log:List (Addr×Stp)) (c6:Option V),σ=[some (.ref p),some (.ref r),some (.int m),some (.ref ps),some (.ref lg),some (.ref lS),c6]/\Bu 1 p H H'/\H' lg=some (.lst (log.map λk =>.ref k.1))/\(∀k∈log,RowC K H' k.1 k.2.cs)/\Ran (s0 n ts) (log.map (·.2))/\(log.length:Int)<=m/\StA K H' ps (runs (s0 n ts) (log.map (·.2)))/\H' lS=some (.lst (os.map λk =>.ref k.1))/\(∀k∈os,RowC K H' k.1 k.2.cs)/\os.map (·.2)=gu (runs (s0 n ts) (log.map (·.2)))/\lS≠lg) (λ_ H'=>100-Av H' lg) ⟨p0,lS,os,[],_,rfl,(Bu.refl hp).same u3,t3 _ _ e0,λk hk=>(by cases hk),trivial,m0,st2.same t3,e3,r3,m3,λz=>by rw[z,e0] at nS;cases nS⟩ ?_ ?mono
 case mono =>
  rintro σ J Q1 Q2 h ⟨v,e,z,k⟩
  refine ⟨v,e,z,λpz nz =>?_⟩
  obtain ⟨a1,b1,xs,f1,f2,f3,f4,f5,f6⟩:=k pz nz
  refine ⟨a1,b1,xs,f1,f2,f3,f4,λx =>?_,λx =>?_⟩
  ·obtain ⟨kb,ek,qk⟩:=f5 x
   cases ek
   exact ⟨_,rfl,h _ _ qk⟩
  ·obtain ⟨kb,ek,qk⟩:=f6 x
   cases ek
   obtain ⟨v1,w1,pl,ys,w2,w3,v2,w4,i1,j1,w5,w6,kb,w7,w8⟩:=qk
   exact ⟨_,rfl,v1,w1,pl,ys,w2,w3,v2,w4,i1,j1,w5,w6,kb,w7,h _ _ w8⟩
 rintro σ J ⟨ps,lS,os,log,c6,rfl,bJ,eg,rg,rn,lm,stJ,eS,rS,mS,nS⟩
 have gJ:=iH gi rn
 have PJ':=kW hp bJ hP
 refine ⟨_,rfl,BU _,λlz nz =>?_⟩
 have tz:=ae nz (.lst [])
 have ez:(upd J lz (.lst [])) lz=some (.lst []):=af
 generalize upd J lz (.lst [])=J1 at tz ez
 have eg1:=tz _ _ eg
 have eS1:=tz _ _ eS
 have rg1:∀k∈log,RowC K J1 k.1 k.2.cs:=λk hk=>az tz (rg k hk)
 have rS1:∀k∈os,RowC K J1 k.1 k.2.cs:=λk hk=>az tz (rS k hk)
 have st1':=stJ.same tz
 have b1:=bJ.same tz
 have P1:=tz _ _ PJ'
 have fin:∀pr,J1 pr=none->Q (.ref pr) (upd J1 pr (.tup [.ref lg,.ref ps])):=λpr nr=>by
  have tr:=ae nr (.tup [.ref lg,.ref ps])
  exact q pr lg ps log _ (b1.same tr) (SqT.of af) nlg (tr _ _ eg1) (λk hk=>az tr (rg1 k hk)) rn (by omega) (st1'.same tr)
 refine ⟨lS,lz,_,rfl,rfl,eS1,ez,λ_=>⟨_,rfl,?_⟩,λne=>⟨_,rfl,?_⟩⟩
 ·exact bC ⟨_,rfl,_,rfl,cv,fin⟩
 have lo:0<os.length:=Ib.mpr λz=>ne (by rw[z];rfl)
 have lo2:os.length<=200000:=by rw[show os.length=(os.map (·.2)).length by rw[Bg],mS];exact vj (K:=K) gJ.wf
 refine cQ ⟨_,rfl,lg,_,rfl,.inl (SqL.of eg1),_,rfl,_,_,rfl,rfl,_,rfl,?_⟩
 rw[Bg]
 by_cases c:(log.length:Int)<m
 case neg =>
  rw[decide_eq_false c]
  exact bC ⟨_,rfl,_,rfl,cv,fin⟩
 rw[decide_eq_true c]
 refine cQ ⟨_,rfl,_,rfl,_,rfl,lS,_,rfl,.inl (SqL.of eS1),aS.mpr ⟨p,_,rfl,b1.pot,by rw[Bg];omega,?_,λd J2 d0 d1 b2 =>?_⟩⟩
 ·rw[Bg]
  exact Cn (show ((os.length:Int)).natAbs<=400000 by omega) (by decide +kernel)
 rw[Bg] at d1
 obtain ⟨kd,rfl⟩:∃kd:Nat,d=kd:=⟨d.toNat,by omega⟩
 have lk:kd<os.length:=by omega
 have nSp:=Au b1.pot eS1
 have eS2:=b2.st _ _ nSp eS1
 have eg2:=b2.st _ _ nlg eg1
 have on2:=rW (K:=K) b1.pot b2
 have r2:=i9 on2 (rS1 _ (EI lk))
 have hst:(os[kd]).2∈raw (runs (s0 n ts) (log.map (·.2))):=by
  refine vf.mp ?_
  rw[<- mS]
  exact EE (EI lk)
 have st2':=st1'.on on2
 have P2:=kW b1.pot b2 P1
 have bb2:=b1.trans b2
 refine ⟨lS,_,kd,.ref (os[kd]).1,rfl,rfl,SqL.of eS2,dZ (by rw[BQ,BA lk];rfl),?_⟩
 refine ⟨_,rfl,.inl ⟨rfl,_,SqL.of eg2⟩,_,rfl,lg,_,_,rfl,rfl,eg2,by rw[Bg];exact Cn (show log.length<=1000 by omega) (by decide),?_⟩
 have on3:=kU (K:=K) (o :=.lst ((log.map λk=>V.ref k.1)++[.ref (os[kd]).1])) eg2
 have eg3:(upd J2 lg (.lst ((log.map λk=>V.ref k.1)++[.ref (os[kd]).1]))) lg=some (.lst ((log++[os[kd]]).map λk =>.ref k.1)):=by rw[af,BB];rfl
 have b3:Bu 1 p H (upd J2 lg (.lst ((log.map λk=>V.ref k.1)++[.ref (os[kd]).1]))):=bb2.ki hlg nlg _
 have P3:(upd J2 lg (.lst ((log.map λk=>V.ref k.1)++[.ref (os[kd]).1]))) PJ=some (.tbl psJ):=by rw[ao (jK P2 eg2 nofun)];exact P2
 have rg3:∀k∈log++[os[kd]],RowC K (upd J2 lg (.lst ((log.map λk=>V.ref k.1)++[.ref (os[kd]).1]))) k.1 k.2.cs:=λk hk=>by
  rcases BC.mp hk with z | z
  ·exact i9 on3 (i9 on2 (rg1 k z))
  ·rw[Bz.mp z];exact i9 on3 r2
 have r3':=i9 on3 r2
 have st3:=st2'.on on3
 generalize upd J2 lg (.lst ((log.map λk=>V.ref k.1)++[.ref (os[kd]).1]))=J3 at eg3 b3 P3 rg3 r3' st3
 refine ⟨_,rfl,_,rfl,fT.mpr ⟨ps,_,_,_,rfl,st3,gJ.wf,r3',P3,hst,λps' J4 t4 st4 =>?_⟩⟩
 have em:(log++[os[kd]]).map (·.2)=log.map (·.2)++[(os[kd]).2]:=by rw[BB];rfl
 have rn4:Ran (s0 n ts) ((log++[os[kd]]).map (·.2)):=by rw[em];exact qh rn hst
 rw[<- mR, <- em] at st4
 have g4:=iH gi rn4
 refine ⟨_,rfl,dy.mpr ⟨ps',_,rfl,st4,g4.wf,λlS' J5 os' t5 nS' e5 r5 m5=>⟨⟨ps',lS',os',log++[os[kd]],_,rfl,(b3.same t4).same t5,t5 _ _ (t4 _ _ eg3),λk hk=>az (t4.trans t5) (rg3 k hk),rn4,?_,st4.same t5,e5,r5,m5,λz =>?_⟩,?_⟩⟩⟩
 ·rw[Bj,BV];omega
 ·rw[z,t4 _ _ eg3] at nS';cases nS'
 ·rw[tU (t5 _ _ (t4 _ _ eg3)),tU eg,Bg,Bg,Bj,BV]
  omega
end
open PySem L2
open Srt
theorem y9 {H:Hp}{n:Int}:∀{us:List (Addr×List Int)},Tw H n us->∃ts:List (Addr×Int×Int),us=ts.map λt=>(t.1,[t.2.1,t.2.2])
 | [],_=>⟨[],rfl⟩
 | (a,v) :: us,h=>by
  obtain ⟨x,y,e,_⟩:=h.two (a,v) Br
  obtain ⟨ts,e2⟩:=y9 (us:=us) ⟨λu hu=>h.at' u (BG _ hu),λu hu=>h.two u (BG _ hu)⟩
  exact ⟨(a,x,y) :: ts,by rw[BF, <- e2];rw[show v=[x,y] from e]⟩
theorem iI (n:Nat):((Cc n).map λi:Nat=>(i:Int)).Pairwise (· < ·):=B0.mpr (Ho.imp λh=>by omega)
theorem mem_range' {n:Nat}{a:Int}:a∈((Cc n).map λi:Nat=>(i:Int))↔0<=a/\a<n:=by
 constructor
 ·intro h
  obtain ⟨i,hi,e⟩:=Bw.mp h
  have:=Cu.mp hi
  omega
 ·intro h
  exact Bw.mpr ⟨a.toNat,Cu.mpr (by omega),by omega⟩
theorem qm (a:Int):∀{l:List Int},l.Nodup->l.count a<=1
 | [],_=>BU _
 | x :: l,h=>by
  obtain ⟨h1,h2⟩:=DM.mp h
  rw[Cy]
  have:=qm a h2
  by_cases c:x=a
  ·subst c
   rw[F5 h1]
   simp
  ·rw[if_neg (by simpa using c)]
   omega
theorem yN {n:Nat}{us:List (Addr×List Int)}{H:Hp}(tw:Tw H n us)(h8:n<=40)(l:us.length<=200)(so:us.Pairwise (λa b=>HT.lexLt b.2 a.2=false)){ts:List (Addr×Int×Int)}(e:us=ts.map λt=>(t.1,[t.2.1,t.2.2])):Iv n (Wc ts) (s0 n ts):=by
 have nd:((Cc n).map λi:Nat=>(i:Int)).Nodup:=(iI n).imp λh=>by omega
 have z:∀f:Tie->Nat,(∀a b:Int,f (a,b,[])=0)->sumF f (s0 n ts).ts=0:=λf h=>iG λt ht=>by
  obtain ⟨u,_,rfl⟩:=Bw.mp ht
  exact h _ _
 have ab:∀u∈ts,0<=u.2.1/\u.2.1<=u.2.2/\u.2.2<(n:Int):=λu hu=>by
  obtain ⟨a,b,e1,a0,ab,bn⟩:=tw.two (u.1,[u.2.1,u.2.2]) (by rw[e];exact Bw.mpr ⟨u,hu,rfl⟩)
  cases e1
  exact ⟨a0,ab,bn⟩
 have lts:ts.length<=200:=by rw[e,Bg] at l;exact l
 have wc:∀f:Tie->Nat,∀a b,(∀x y:Int,f (x,y,[])=if x=a/\y=b then 1 else 0)->sumF f (s0 n ts).ts=Wc ts a b:=λf a b h=>by
  unfold sumF s0 Wc
  dsimp only
  rw[BP]
  clear e ab z lts
  induction ts with
  | nil=>rfl
  | cons u ts ih =>
   rw[BF,Hd,ih]
   show f (u.2.1,u.2.2,[])+_=_
   rw[h]
   by_cases c:u.2.1=a/\u.2.2=b
   ·rw[if_pos c]
    simp[List.filter,c,Nat.add_comm]
   ·rw[if_neg c]
    simp[List.filter,c]
 refine ⟨nd,λt ht =>?_,?_,(iI n).imp λh=>by omega,List.Pairwise.nil,?_,?_,λa =>?_,λt ht =>?_,λa b =>?_,λa b _ _ =>?_,λp =>?_⟩
 ·obtain ⟨u,hu,rfl⟩:=Bw.mp ht
  obtain ⟨h1,h2,h3⟩:=ab u hu
  exact ⟨mem_range'.mpr ⟨h1,by show u.2.1<_;omega⟩,mem_range'.mpr ⟨by show 0<=u.2.2;omega,h3⟩⟩
 ·rw[e,B0] at so
  refine B0.mpr (so.imp λ{a b} h =>?_)
  show HT.lexLt (b.2.1 :: b.2.2 :: bj [Cell.t []]) (a.2.1 :: a.2.2 :: bj [Cell.t []])=false
  rw[HT.aP,HT.aP] at h ⊢
  split
  ·rename_i c1
   rw[if_pos c1] at h
   split
   ·exact lex_irrefl _
   ·rename_i c2
    rw[if_neg c2] at h
    exact h
  ·rename_i c1
   rw[if_neg c1] at h
   exact h
 ·rw[z _ λ_ _=>rfl]
  show ((Cc n).map λi:Nat=>(i:Int)).length+0+0<=40
  rw[Bg,DG];omega
 ·show (ts.map _).length<=200
  rw[Bg];exact lts
 ·rw[z _ λ_ _=>rfl]
  show ((Cc n).map λi:Nat=>(i:Int)).count a+0+0<=_
  by_cases c:0<=a/\a<n
  ·rw[if_pos c]
   have:=qm a nd
   omega
  ·rw[if_neg c,F5 λh=>c (mem_range'.mp h)]
   omega
 ·obtain ⟨u,hu,rfl⟩:=Bw.mp ht
  exact ⟨(ab u hu).2.1,λ_=>rfl⟩
 ·rw[wc _ a b λx y=>by simp]
  exact Bn _
 ·rw[jG,wc _ a b λx y=>rfl]
  omega
 ·have:sumF (λt=>(eds (wlk t)).count p) (s0 n ts).ts=sumF (λt=>if t.1=p.1/\t.2.1=p.2 then 1 else 0) (s0 n ts).ts:=by
   unfold sumF
   refine congrArg List.sum (EF λt ht =>?_)
   obtain ⟨u,hu,rfl⟩:=Bw.mp ht
   have h2:=(ab u hu).2.1
   show (((if u.2.2<u.2.1 then u.2.2 else u.2.1,if u.2.2>u.2.1 then u.2.2 else u.2.1) :: []):List (Int×Int)).count p=_
   rw[if_neg (by omega),show (if u.2.2>u.2.1 then u.2.2 else u.2.1)=u.2.2 by split <;> omega,Cy,GO]
   by_cases c:u.2.1=p.1/\u.2.2=p.2
   ·rw[if_pos c,if_pos (by rw[c.1,c.2];simp)]
   ·rw[if_neg c,if_neg]
    intro h
    have:=eq_of_beq h
    exact c ⟨by rw[<- this],by rw[<- this]⟩
  rw[this,wc _ p.1 p.2 λx y=>rfl]
  exact Bn _
abbrev tW:Sp:=λvs H Q _=>∃(p:Addr),vs=[.ref p]/\Pt 1 H p/\∀(r t:Addr) (n:Nat) (us:List (Addr×List Int)) (H':Hp),Bu 1 p H H'->H' r=some (.tup [.int n,.ref t])->H' t=some (.tup (us.map λu =>.ref u.1))->Tw H' n us->n<=40->us.length<=200->us.Pairwise (λa b=>HT.lexLt b.2 a.2=false)->Q (.ref r) H'
@[irreducible] def oj:Sp:=tW
theorem hU {vs:List V}{H:Hp}{Q:VK}{E:XK}:oj vs H Q E↔tW vs H Q E:=by
 delta oj
 exact DN
abbrev mT:Sp:=λvs H Q _=>∃(p:Addr) (m:Int) (k:Nat),vs=[.ref p,.int m,.int k]/\Pt 1 H p/\0<=m/\m<=40/\∀(r t:Addr) (n:Nat) (us:List (Addr×List Int)) (H':Hp),Bu 1 p H H'->H' r=some (.tup [.int n,.ref t])->H' t=some (.tup (us.map λu =>.ref u.1))->Tw H' n us->n<=40->us.length<=200->us.Pairwise (λa b=>HT.lexLt b.2 a.2=false)->Q (.ref r) H'
@[irreducible] def iJ:Sp:=mT
theorem fh {vs:List V}{H:Hp}{Q:VK}{E:XK}:iJ vs H Q E↔mT vs H Q E:=by
 delta iJ
 exact DN
section
variable  {P:BD}{w:Cb}{K:Be}{mg:Str->Option Bh}{base:Heap}{f T:Addr}{fd:Cr}
theorem gx:aO ["pot", "many", "ties", "k", "one", "other"] ["pot"] (aq rE):=⟨rfl,rfl,rfl,by decide +kernel,rfl,by decide +kernel,by decide +kernel⟩
theorem vk:(["k"]:List Str).Nodup:=by decide +kernel
theorem yO (F:Fun K "_law_wide" "_law_wide" rE f fd)(B:Blt mg)(cLTake:Cal P w K mg base 1 "_law_take" ["pot", "many"] fQ):bF P w K mg base CX0 2 f fd ["pot"] oj:=by
 refine F.ok gx (λvs H Q E h =>?_) (λcdv A outer s H vs Q E hr h =>?_)
 ·obtain ⟨_,rfl,_⟩:=hU.mp h
  rfl
 obtain ⟨p,rfl,hp,q⟩:=hU.mp h
 refine ⟨_,(@aj _ _ _ _ _ (@aL _ _ 1 _ _ _ _ gx.nd rfl (Or.inl rfl) (@aQ _ _ _ _ _ _ _ _ da ai (aH cLTake hr (by decide) rfl (@aa _ _ _ _ _ (pv 0) (@aa _ _ _ _ _ ai ag rfl) rfl))) rfl (by first | exact .inl rfl | exact .inr rfl | assumption))
  (@aj _ _ _ _ _ (@aL _ _ 2 _ _ _ _ gx.nd rfl (Or.inl rfl) (@aQ _ _ _ _ _ _ _ _ f7 (bV ["k"] [none] rfl (dF rfl B.b_range (@aa _ _ _ _ _ (@aQ _ _ _ _ _ _ _ _ m9 (pv 1) ai) ag rfl)) rfl (λ_ _ _ _ _=>(aB (i:=0) vk rfl (Or.inl rfl))) (λ_ _ _ _ _=>fE) (λ_ _ _ _ _=>(@bh _ _ _ _ _ (@aa _ _ _ _ _ (pv 0) (@aa _ _ _ _ _ (@aQ _ _ _ _ _ _ _ _ da (pv 0) ai) ag rfl) rfl)))) (@cO _ _ _ _ (@aa _ _ _ _ _ (@bh _ _ _ _ _ (@aa _ _ _ _ _ ai (@aa _ _ _ _ _ (@aQ _ _ _ _ _ _ _ _ m9 (pv 1) ai) ag rfl) rfl)) ag rfl))) rfl (by first | exact .inl rfl | exact .inr rfl | assumption))
  (@aj _ _ _ _ _ (@dA _ _ _ _ _ _ _ _ Dj rfl (dF rfl B.b_range (@aa _ _ _ _ _ (aH cLTake hr (by decide) rfl (@aa _ _ _ _ _ (pv 0) (@aa _ _ _ _ _ ai ag rfl) rfl)) ag rfl)) (aB (i:=3) gx.nd rfl (Or.inl rfl))
   (@aj _ _ _ _ _ (@aL _ _ 4 _ _ _ _ gx.nd rfl (Or.inl rfl) (aH cLTake hr (by decide) rfl (@aa _ _ _ _ _ (pv 0) (@aa _ _ _ _ _ (pv 1) ag rfl) rfl)) rfl (by first | exact .inl rfl | exact .inr rfl | assumption))
   (@aj _ _ _ _ _ (@aL _ _ 5 _ _ _ _ gx.nd rfl (Or.inl rfl) (aH cLTake hr (by decide) rfl (@aa _ _ _ _ _ (pv 0) (@aa _ _ _ _ _ (pv 1) ag rfl) rfl)) rfl (by first | exact .inl rfl | exact .inr rfl | assumption))
   (@ak _ _ _ (dk (fD Cp CW CY cB (pv 2) (@aa _ _ _ _ _ (@bh _ _ _ _ _ (@aa _ _ _ _ _ (aD (cY rfl) rfl B.b_min gU (@aa _ _ _ _ _ (pv 4) (@aa _ _ _ _ _ (pv 5) ag rfl) rfl)) (@aa _ _ _ _ _ (aD (fZ rfl) rfl B.b_max nO (@aa _ _ _ _ _ (pv 4) (@aa _ _ _ _ _ (pv 5) ag rfl) rfl)) ag rfl) rfl)) ag rfl)))))) (λ_=>rfl))
  (@ak _ _ _ (@aM _ _ _ _ (@bh _ _ _ _ _ (@aa _ _ _ _ _ (pv 1) (@aa _ _ _ _ _ (a7 bB rfl B.b_tuple cJ (@aa _ _ _ _ _ (aD iy rfl B.b_sorted bE (@aa _ _ _ _ _ (pv 2) ag rfl)) ag rfl)) ag rfl) rfl))))))),?_⟩
 refine ⟨_,rfl,aS.mpr ⟨p,13,rfl,hp,by decide,bK (by decide) (by decide),λd H1 d0 d1 b1=>⟨_,_,rfl,rfl,?_⟩⟩⟩
 obtain ⟨n,en⟩:∃n:Nat,12+d=n:=⟨(12+d).toNat,by omega⟩
 dsimp only
 rw[en]
 refine ⟨_,rfl,_,_,rfl,rfl,(n:Int)-1,rfl,by omega,by omega,?_⟩
 rw[show ((n:Int)-1).toNat=n-1 by omega]
 refine oI (λi ys H'=>ax H1 H'/\∃us:List (Addr×List Int),ys=us.map (λu =>.ref u.1)/\Tw H' n us/\us.length<=i) ⟨ax.refl _,[],rfl,⟨λu hu=>(by cases hu),λu hu=>(by cases hu)⟩,BU _⟩ (small (by omega)) ?_ ?_
 ·rintro i ys J hi _ ⟨sJ,us,rfl,tw,lu⟩ R1 R0 r1 r0
  rw[Int.zero_add]
  refine cQ ⟨_,rfl,_,rfl,_,_,rfl,rfl,cv,λpt nt=>r1 _ _ ⟨sJ.trans (ae nt _),us++[(pt,[(i:Int),(i:Int)+1])],by rw[BB];rfl,(tw.tup λa ys e=>ae nt _ _ _ e).add af (by omega) (by omega) (by omega),by rw[Bj,BV];omega⟩⟩
 rintro ys J _ ⟨sJ,us,rfl,tw,lu⟩ l1 hl1
 have t1:=ae hl1 (.lst (us.map λu=>V.ref u.1))
 have e1:(upd J l1 (.lst (us.map λu=>V.ref u.1))) l1=_:=af
 have tw:=tw.tup λa ys e=>t1 _ _ e
 have b2:=(b1.same sJ).same t1
 generalize upd J l1 (.lst (us.map λu=>V.ref u.1))=J1 at t1 e1 tw b2
 refine ⟨_,rfl,_,_,rfl,rfl,cv,λpt nt=>⟨fS,λl2 hl2 =>?_⟩⟩
 have t2:=ae nt (.tup [.int 0,.int ((n:Int)-1)])
 have et:(upd J1 pt (.tup [.int 0,.int ((n:Int)-1)])) pt=_:=af
 have t3:=ae hl2 (.lst [.ref pt])
 have e3:(upd (upd J1 pt (.tup [.int 0,.int ((n:Int)-1)])) l2 (.lst [.ref pt])) l2=_:=af
 have e1:=t3 _ _ (t2 _ _ e1)
 have tw:=(tw.tup λa ys e=>t3 _ _ (t2 _ _ e)).add (t3 _ _ et) (by decide) (by omega) (by omega)
 have b3:=(b2.same t2).same t3
 generalize upd (upd J1 pt (.tup [.int 0,.int ((n:Int)-1)])) l2 (.lst [.ref pt])=J3 at e3 e1 tw b3
 refine ⟨l1,l2,_,_,rfl,rfl,SqL.of e1,SqL.of e3,small (by rw[Bg];simp only[Bs,Cq];omega),λl hl =>?_⟩
 have nl:l≠p:=b3.pot.ne hl
 have hl0:H l=none:=by
  cases e:H l with
  | none=>rfl
  | some o=>rw[b3.st l o nl e] at hl;cases hl
 have t4:=ae hl (.lst ((us.map λu=>V.ref u.1)++[.ref pt]))
 have el:(upd J3 l (.lst ((us.map λu=>V.ref u.1)++[.ref pt]))) l=some (.lst ((us++[(pt,[0,(n:Int)-1])]).map λu =>.ref u.1)):=by rw[af,BB];rfl
 have tw:=tw.tup λa ys e=>t4 _ _ e
 have b4:=b3.same t4
 have lus:(us++[(pt,[0,(n:Int)-1])]).length<=40:=by rw[Bj,BV];omega
 generalize us++[(pt,[0,(n:Int)-1])]=us at el tw lus
 generalize upd J3 l _=J4 at el tw b4
 refine ⟨_,rfl,aS.mpr ⟨p,7,rfl,b4.pot,by decide,bK (by decide) (by decide),λd7 J5 k0 k1 b5 =>?_⟩⟩
 refine ⟨d7,rfl,by omega,by omega,fY (λi σ H'=>(∃c3 c4 c5,σ=[some (.ref p),some (.int n),some (.ref l),c3,c4,c5])/\Bu 1 p H H'/\∃us:List (Addr×List Int),H' l=some (.lst (us.map λu =>.ref u.1))/\Tw H' n us/\us.length<=40+i) ⟨⟨_,_,_,rfl⟩,b4.trans b5,us,b5.st _ _ nl el,tw.tup λa ys e=>b5.tup b4.pot e,by omega⟩ ?_ ?_⟩
 ·rintro i σ J hi ⟨⟨c3,c4,c5,rfl⟩,bJ,us,el,tw,lu⟩
  have n1:(0:Int)<n:=by omega
  refine ⟨_,rfl,_,rfl,aS.mpr ⟨p,n,rfl,bJ.pot,n1,bK n1 (by omega),λx J1 x0 x1 w1 =>?_⟩⟩
  have v1:=bJ.trans w1
  refine ⟨_,rfl,_,rfl,aS.mpr ⟨p,n,rfl,v1.pot,n1,bK n1 (by omega),λo J4 o0 o1 w2 =>?_⟩⟩
  have v4:=v1.trans w2
  have el4:=(w1.trans w2).st _ _ nl el
  have tw4:=tw.tup (H':=J4) λa ys e=>(w1.trans w2).tup bJ.pot e
  refine ⟨_,rfl,.inl ⟨rfl,_,SqL.of el4⟩,_,rfl,_,rfl,_,_,rfl,_,rfl,_,rfl,_,_,rfl,cv,λpt nt =>?_⟩
  have b0:0<=(if o<x then o else x):=by split <;> omega
  have b1':(if o<x then o else x)<=(if o>x then o else x):=by split <;> split <;> omega
  have b2':(if o>x then o else x)<(n:Int):=by split <;> omega
  have g5:=ae nt (.tup [.int (if o<x then o else x),.int (if o>x then o else x)])
  have et:(upd J4 pt (.tup [.int (if o<x then o else x),.int (if o>x then o else x)])) pt=_:=af
  have v5:=v4.same g5
  have el5:=g5 _ _ el4
  have tw5:=(tw4.tup λa ys e=>g5 _ _ e).add et b0 b1' b2'
  generalize upd J4 pt (.tup [.int (if o<x then o else x),.int (if o>x then o else x)])=J5 at et v5 el5 tw5
  refine ⟨l,_,_,rfl,rfl,el5,by rw[Bg];exact Cn (show us.length<=1000 by omega) (by decide),⟨_,_,_,rfl⟩,v5.ki hl0 nl _,us++[(pt,[_,_])],by rw[af,BB];rfl,tw5.tup λa zs e=>by rw[ao (jK e el5 nofun)];exact e,by rw[Bj,BV];omega⟩
 ·rintro σ J ⟨⟨c3,c4,c5,rfl⟩,bJ,us,el,tw,lu⟩
  refine ⟨_,rfl,_,rfl,l,us,rfl,.inl (SqL.of el),λu hu=>⟨SqT.of (tw.at' u hu),by obtain ⟨a,b,e,_⟩:=tw.two u hu;rw[e];exact nofun⟩,λls out ns pm pw =>?_⟩
  refine ⟨ls,_,rfl,.inl ⟨SqL.of af,λlt nt=>⟨cv,λlr nr =>?_⟩⟩⟩
  have s1:=ae ns (.lst (out.map λt=>V.ref t.1))
  have s2:=s1.trans (ae nt (.tup (out.map λt=>V.ref t.1)))
  have s3':=s2.trans (ae nr (.tup [.int n,.ref lt]))
  exact q lr lt n out _ (bJ.same s3') af (ae nr _ _ _ af) ⟨λu hu=>s3' _ _ (tw.at' u (pm.mem_iff.mp hu)),λu hu=>tw.two u (pm.mem_iff.mp hu)⟩ (by omega) (by rw[pm.length_eq];omega) pw
end
section
variable  {P:BD}{w:Cb}{K:Be}{mg:Str->Option Bh}{base:Heap}{f T:Addr}{fd:Cr}
theorem mU:aO ["pot", "most", "k", "web"] ["pot", "most", "k"] (aq kH):=⟨rfl,rfl,rfl,by decide +kernel,rfl,by decide +kernel,by decide +kernel⟩
theorem vm (F:Fun K "_law_either" "_law_either" kH f fd)(B:Blt mg)(cLWeb:Cal P w K mg base 2 "_law_web" ["pot", "most"] tR)(cLWide:Cal P w K mg base 2 "_law_wide" ["pot"] oj)(cLTake:Cal P w K mg base 1 "_law_take" ["pot", "many"] fQ):bF P w K mg base CX0 3 f fd ["pot", "most", "k"] iJ:=by
 refine F.ok mU (λvs H Q E h =>?_) (λcdv A outer s H vs Q E hr h =>?_)
 ·obtain ⟨_,_,_,rfl,_⟩:=fh.mp h
  rfl
 obtain ⟨p,m,k,rfl,hp,m0,m4,q⟩:=fh.mp h
 refine ⟨_,(@aj _ _ _ _ _ (@aL _ _ 3 _ _ _ _ mU.nd rfl (Or.inl rfl) (aH cLWeb hr (by decide) rfl (@aa _ _ _ _ _ (pv 0) (@aa _ _ _ _ _ (pv 1) ag rfl) rfl)) rfl (by first | exact .inl rfl | exact .inr rfl | assumption))
  (@aj _ _ _ _ _ (@bM _ _ _ _ _ _ _ _ (PW.pt (jM (aF bZ (pv 2) ai (aN _)) (ia (aF bZ (aH cLTake hr (by decide) rfl (@aa _ _ _ _ _ (pv 0) (@aa _ _ _ _ _ ai ag rfl) rfl)) ai (aN _))))) (@ak _ _ _ (@aM _ _ _ _ (aH cLWide hr (by decide) rfl (@aa _ _ _ _ _ (pv 0) ag rfl)))) aU)
  (@ak _ _ _ (@aM _ _ _ _ (pv 3))))),?_⟩
 refine ⟨_,rfl,_,rfl,i6.mpr ⟨p,m,rfl,hp,m0,m4,λr t n us H1 b1 er et tw nm lu so =>?_⟩⟩
 have fin:∀{H'},Bu 1 p H1 H'->Q (.ref r) H':=λb=>q r t n us _ (b1.trans b) (b.tup b1.pot er) (b.tup b1.pot et) (tw.tup λa ys e=>b.tup b1.pot e) (by omega) (by omega) so
 refine ⟨_,rfl,rfl,_,rfl,?_⟩
 by_cases c:(k:Int)=0
 ·rw[decide_eq_true (show V.int (k:Int)=V.int 0 by rw[c])]
  refine cQ ⟨_,rfl,aS.mpr ⟨p,3,rfl,b1.pot,by decide,bK (by decide) (by decide),λd H2 d0 d1 b2=>⟨rfl,_,rfl,?_⟩⟩⟩
  refine xJ (λ_=>⟨_,rfl,hU.mpr ⟨p,rfl,b2.pot,λr t n us H3 b3 er et tw nm lu so=>q r t n us _ ((b1.trans b2).trans b3) er et tw nm lu so⟩⟩) λ_=>⟨_,rfl,fin b2⟩
 ·rw[decide_eq_false (show ¬ V.int (k:Int)=V.int 0 from λz=>c (V.int.inj z))]
  exact bC (bC ⟨_,rfl,fin (Bu.refl b1.pot)⟩)
end
open PySem L2
open Srt
theorem jI:∀l:List Int,(eds l).length=l.length-1
 | []=>rfl
 | [_]=>rfl
 | _ :: b :: r=>by
  show (eds (b :: r)).length+1=_
  rw[jI (b :: r)]
  simp only[Bs]
  omega
theorem xr:∀{l:List Int} {k:Nat} {a b:Int},l[k]? = some a->l[k+1]? = some b->(eds l)[k]? = some (if b<a then b else a,if b>a then b else a)
 | x :: y :: r,0,a,b,h1,h2=>by
  cases h1
  cases h2
  rfl
 | x :: y :: r,k+1,a,b,h1,h2=>by
  show (eds (y :: r))[k]? = _
  exact xr (by simpa using h1) (by simpa using h2)
 | [],_,_,_,h,_=>by simp at h
 | [x],k,_,_,_,h=>by simp at h
def cM (ts:List Tie):List (Int×Int):=ts.flatMap λt=>eds (wlk t)
theorem kX (p:Int×Int):∀ts:List Tie,(cM ts).count p=sumF (λt=>(eds (wlk t)).count p) ts
 | []=>rfl
 | t :: ts=>by
  unfold cM
  rw[Er,Dr,aK, <- kX p ts];rfl
theorem qo (t:Tie):(wlk t).length=t.2.2.length+2:=by
 unfold wlk
 rw[Bs,Bj];rfl
theorem kY:∀ts:List Tie,(cM ts).length=sumF (λt=>t.2.2.length) ts+ts.length
 | []=>rfl
 | t :: ts=>by
  unfold cM
  rw[Er,Bj,jI,qo,aK,Bs]
  have:=kY ts
  unfold cM at this
  omega
def Prs (K:Be)(H:Hp)(l:Addr)(ps:List (Int×Int)):Prop:=∃us:List (Addr×Int×Int),H l=some (.lst (us.map λu =>.ref u.1))/\(∀u∈us,SqT K H u.1 [.int u.2.1,.int u.2.2])/\us.map (·.2)=ps
theorem Prs.add {K:Be}{H:Hp}{l p:Addr}{ps:List (Int×Int)}{q:Int×Int}{xs:List V}(h:Prs K H l ps)(el:H l=some (.lst xs))(hq:SqT K H p [.int q.1,.int q.2]):Prs K (upd H l (.lst (xs++[.ref p]))) l (ps++[q]):=by
 obtain ⟨us,e,h2,h3⟩:=h
 rw[el] at e
 cases e
 have on:=kU (K:=K) (o :=.lst ((us.map λu=>V.ref u.1)++[.ref p])) el
 refine ⟨us++[(p,q)],by rw[af,BB];rfl,λu hu =>?_,by rw[BB,h3];rfl⟩
 rcases BC.mp hu with z | z
 ·exact on _ _ (h2 u z)
 ·rw[Bz.mp z];exact on _ _ hq
theorem Prs.same {K:Be}{H H':Hp}{l:Addr}{ps:List (Int×Int)}(s:ax H H')(h:Prs K H l ps):Prs K H' l ps:=by
 obtain ⟨us,e,h2,h3⟩:=h
 exact ⟨us,s _ _ e,λu hu=>ah s (h2 u hu),h3⟩
theorem Prs.len {K:Be}{H:Hp}{l:Addr}{ps:List (Int×Int)}(h:Prs K H l ps):∃xs,H l=some (.lst xs)/\xs.length=ps.length:=by
 obtain ⟨us,e,h2,h3⟩:=h
 exact ⟨_,e,by rw[<- h3,Bg,Bg]⟩
@[irreducible] def om (K:Be):Sp:=λvs H Q _=>∃(p:Addr) (s:Sta) (n:Nat) (W:Int->Int->Nat),vs=[.ref p]/\StA K H p s/\Iv n W s/\∀(l:Addr) (H':Hp),ax H H'->Prs K H' l (cM s.ts)->Q (.ref l) H'
theorem hV {K:Be}{vs:List V}{H:Hp}{Q:VK}{E:XK}:om K vs H Q E↔∃(p:Addr) (s:Sta) (n:Nat) (W:Int->Int->Nat),vs=[.ref p]/\StA K H p s/\Iv n W s/\∀(l:Addr) (H':Hp),ax H H'->Prs K H' l (cM s.ts)->Q (.ref l) H':=by
 delta om
 exact DN
section
variable  {P:BD}{w:Cb}{K:Be}{mg:Str->Option Bh}{base:Heap}{f T:Addr}{fd:Cr}
theorem fi:aO ["state", "used", "one", "other", "way", "walk", "k"] ["state"] (aq rF):=⟨rfl,rfl,rfl,by decide +kernel,rfl,by decide +kernel,by decide +kernel⟩
theorem yP (F:Fun K "_law_used" "_law_used" rF f fd)(B:Blt mg):bF P w K mg base CX0 1 f fd ["state"] (om K):=by
 refine F.ok fi (λvs H Q E h =>?_) (λcdv A outer s H vs Q E hr h =>?_)
 ·obtain ⟨_,_,_,_,rfl,_⟩:=hV.mp h
  rfl
 obtain ⟨p,z,n,W,rfl,hs,g,q⟩:=hV.mp h
 refine ⟨_,(@aj _ _ _ _ _ (@aL _ _ 1 _ _ _ _ fi.nd rfl (Or.inl rfl) (@cO _ _ _ _ ag) rfl (by first | exact .inl rfl | exact .inr rfl | assumption))
  (@aj _ _ _ _ _ (@dA _ _ _ _ _ _ _ _ Dj rfl (@cA _ _ _ _ (@ay _ _ _ _ _ _ _ aE (pv 0) ai (λ_ _=>rfl))) (gI rfl (bb (aB (i:=2) fi.nd rfl (Or.inl rfl)) (bb (aB (i:=3) fi.nd rfl (Or.inl rfl)) (bb (aB (i:=4) fi.nd rfl (Or.inl rfl)) dY))))
   (@aj _ _ _ _ _ (@aL _ _ 5 _ _ _ _ fi.nd rfl (Or.inl rfl) (@aQ _ _ _ _ _ _ _ _ kh (@aQ _ _ _ _ _ _ _ _ pE (@bh _ _ _ _ _ (@aa _ _ _ _ _ (pv 2) ag rfl)) (pv 4)) (@bh _ _ _ _ _ (@aa _ _ _ _ _ (pv 3) ag rfl))) rfl (by first | exact .inl rfl | exact .inr rfl | assumption))
   (@ak _ _ _ (@dA _ _ _ _ _ _ _ _ Dj rfl (dF rfl B.b_range (@aa _ _ _ _ _ (@aQ _ _ _ _ _ _ _ _ m9 (aD bz rfl B.b_len eV (@aa _ _ _ _ _ (pv 5) ag rfl)) ai) ag rfl)) (aB (i:=6) fi.nd rfl (Or.inl rfl))
    (@ak _ _ _ (dk (fD Cp CW CY cB (pv 1) (@aa _ _ _ _ _ (@bh _ _ _ _ _ (@aa _ _ _ _ _ (aD (cY rfl) rfl B.b_min gU (@aa _ _ _ _ _ (@ay _ _ _ _ _ _ _ aE (pv 5) (pv 6) (λ_ _=>rfl)) (@aa _ _ _ _ _ (@ay _ _ _ _ _ _ _ aE (pv 5) (@aQ _ _ _ _ _ _ _ _ da (pv 6) ai) (λ_ _=>rfl)) ag rfl) rfl)) (@aa _ _ _ _ _ (aD (fZ rfl) rfl B.b_max nO (@aa _ _ _ _ _ (@ay _ _ _ _ _ _ _ aE (pv 5) (pv 6) (λ_ _=>rfl)) (@aa _ _ _ _ _ (@ay _ _ _ _ _ _ _ aE (pv 5) (@aQ _ _ _ _ _ _ _ _ da (pv 6) ai) (λ_ _=>rfl)) ag rfl) rfl)) ag rfl) rfl)) ag rfl)))) (λ_=>rfl)))) (λ_=>rfl))
  (@ak _ _ _ (@aM _ _ _ _ (pv 1))))),?_⟩
 obtain ⟨a,b,c,ks,h1,h2,h3,h4,h5⟩:=hs
 have m1:=g.m1
 have m3:=g.m3
 refine ⟨BU _,λl hl =>?_⟩
 have t0:=ae hl (.lst [])
 have e0:(upd H l (.lst [])) l=some (.lst []):=af
 generalize upd H l (.lst [])=H0 at t0 e0
 have ulen:∀pr r,ks=pr++r->(cM (pr.map (·.2))).length<=240:=λpr r e=>by
  have:=kY (ks.map (·.2))
  rw[h4] at this
  have e2:cM z.ts=cM (pr.map (·.2))++cM (r.map (·.2)):=by
   unfold cM
   rw[<- h4,e,BB,Gp]
  rw[e2,Bj] at this
  omega
 refine ⟨_,rfl,p,_,1,_,rfl,rfl,ah t0 h1,rfl,b,rfl,⟨_,ah t0 h3.1⟩,kB (λk:Addr×Tie=>V.ref k.1) ks (λpr σ H'=>(∃c2 c3 c4 c5 c6,σ=[some (.ref p),some (.ref l),c2,c3,c4,c5,c6])/\ax H H'/\Prs K H' l (cM (pr.map (·.2)))) ⟨⟨_,_,_,_,_,rfl⟩,t0,[],e0,λu hu=>(by cases hu),rfl⟩ (λpr σ H' h=>ah h.2.1 h3.1) ?_ ?_⟩
 ·rintro pr kt rr σ J hx ⟨⟨c2,c3,c4,c5,c6,rfl⟩,sJ,pJ⟩
  have hkt:kt∈ks:=by rw[hx];exact BO _ Br
  have lw:kt.2.2.2.length<=40:=by
   have:=kR (λt=>t.2.2.length) (show kt.2∈z.ts by rw[<- h4];exact EE hkt)
   omega
  obtain ⟨wb,r1,r2⟩:=dJ (az sJ (h3.2 kt hkt))
  refine ⟨kt.1,_,rfl,r1,rfl,_,_,rfl,_,_,rfl,_,_,rfl,rfl,?_⟩
  refine ⟨_,rfl,fS,λq2 n2=>⟨_,rfl,y7 (SqT.of af) (ah (ae n2 _) r2) (small (by rw[Bg];simp only[Bs,Cq];omega)) λq3 J3 t3 w3 =>?_⟩⟩
  refine ⟨_,rfl,fS,λq4 n4=>wW (ah (ae n4 _) w3) (SqT.of af) (by simp) (small (by rw[Bj,Bg];simp only[Bs,Cq];omega)) λq5 J5 t5 w5 =>?_⟩
  have u5:=((ae n2 (.tup [V.int kt.2.1])).trans t3).trans ((ae n4 (.tup [V.int kt.2.2.1])).trans t5)
  have w5:SqT K J5 q5 ((wlk kt.2).map V.int):=by
   have e:[V.int kt.2.1]++kt.2.2.2.map V.int++[V.int kt.2.2.1]=(wlk kt.2).map V.int:=by unfold wlk;simp
   rw[<- e];exact w5
  have p5:=pJ.same u5
  have sJ5:=sJ.trans u5
  clear w3 r1 r2 pJ
  have wl:=qo kt.2
  refine ⟨_,rfl,q5,_,rfl,.inr w5,_,_,rfl,rfl,((wlk kt.2).map V.int).length-1,rfl,by omega,by rw[Bg];omega,?_⟩
  rw[Bg,show (((wlk kt.2).length:Int)-1).toNat=(wlk kt.2).length-1 by omega]
  refine fY (λi σ H'=>(∃c6,σ=[some (.ref p),some (.ref l),some (.int kt.2.1),some (.int kt.2.2.1),some (.ref wb),some (.ref q5),c6])/\ax H H'/\SqT K H' q5 ((wlk kt.2).map V.int)/\Prs K H' l (cM (pr.map (·.2))++(eds (wlk kt.2)).take i)) ⟨⟨_,rfl⟩,sJ5,w5,by rw[Ed,Cf];exact p5⟩ ?_ ?_
  ·rintro i σ G hi ⟨⟨c6,rfl⟩,sG,wG,pG⟩
   obtain ⟨x,hx0⟩:∃x,(wlk kt.2)[i]? = some x:=⟨_,BA (by omega)⟩
   obtain ⟨y,hy0⟩:∃y,(wlk kt.2)[i+1]? = some y:=⟨_,BA (by omega)⟩
   have ee:=xr hx0 hy0
   have at0:atI ((wlk kt.2).map V.int) (i:Int)=some (.int x):=dZ (by rw[BQ,hx0];rfl)
   have at1:atI ((wlk kt.2).map V.int) ((i:Int)+1)=some (.int y):=by
    rw[show (i:Int)+1=((i+1:Nat):Int) by omega]
    exact dZ (by rw[BQ,hy0];rfl)
   obtain ⟨xs,el,lx⟩:=pG.len
   have lx2:xs.length<=400:=by
    have:=ulen pr _ hx
    rw[Bj] at lx
    have:=Gn i (eds (wlk kt.2))
    have:=jI (wlk kt.2)
    have:((eds (wlk kt.2)).take i).length<=(eds (wlk kt.2)).length:=by rw[CA];omega
    omega
   rw[Int.zero_add]
   refine ⟨_,rfl,.inl ⟨rfl,_,SqL.of el⟩,_,rfl,_,rfl,q5,_,(i:Int),.int x,rfl,rfl,wG,at0,_,rfl,_,rfl,_,_,rfl,rfl,q5,_,(i:Int)+1,.int y,rfl,rfl,wG,at1,_,_,rfl,_,rfl,_,rfl,q5,_,(i:Int),.int x,rfl,rfl,wG,at0,_,rfl,_,rfl,_,_,rfl,rfl,q5,_,(i:Int)+1,.int y,rfl,rfl,wG,at1,_,_,rfl,cv,λpt nt =>?_⟩
   have gt:=ae nt (.tup [.int (if y<x then y else x),.int (if y>x then y else x)])
   have pG2:=pG.same gt
   have et:SqT K (upd G pt (.tup [.int (if y<x then y else x),.int (if y>x then y else x)])) pt [.int (if y<x then y else x),.int (if y>x then y else x)]:=SqT.of af
   have el2:=gt _ _ el
   have wG2:=ah gt wG
   have sG2:=sG.trans gt
   generalize upd G pt (.tup [.int (if y<x then y else x),.int (if y>x then y else x)])=G2 at gt pG2 et el2 wG2 sG2
   refine ⟨l,_,_,rfl,rfl,el2,Cn lx2 (by decide),⟨_,rfl⟩,ja hl sG2,kU el2 _ _ wG2,?_⟩
   rw[CT,ee, <- BZ]
   exact pG2.add (q:=(if y<x then y else x,if y>x then y else x)) el2 et
  ·rintro σ G ⟨⟨c6,rfl⟩,sG,wG,pG⟩
   refine ⟨⟨_,_,_,_,_,rfl⟩,sG,?_⟩
   rw[B5 (by rw[jI];exact Bn _)] at pG
   have e:cM ((pr++[kt]).map (·.2))=cM (pr.map (·.2))++eds (wlk kt.2):=by
    unfold cM
    rw[BB,Gp]
    simp
   rw[e]
   exact pG
 ·rintro σ J ⟨⟨c2,c3,c4,c5,c6,rfl⟩,sJ,pJ⟩
  rw[h4] at pJ
  exact ⟨_,rfl,q l J sJ pJ⟩
end
open PySem L2
open Srt
def bo (ts:List Tie):List Int:=ts.flatMap λt=>t.2.2
theorem iK (a:Int):∀ts:List Tie,(bo ts).count a=sumF (λt=>t.2.2.count a) ts
 | []=>rfl
 | t :: ts=>by
  unfold bo
  rw[Er,Dr,aK, <- iK a ts];rfl
theorem kZ:∀ts:List Tie,(bo ts).length=sumF (λt=>t.2.2.length) ts
 | []=>rfl
 | t :: ts=>by
  unfold bo
  rw[Er,Bj,aK, <- kZ ts];rfl
theorem k5 (l m:List Tie):bo (l++m)=bo l++bo m:=Gp
theorem qp:∀{l:List Int},(∀a,l.count a<=1)->l.Nodup
 | [],_=>HS
 | x :: l,h=>by
  refine DM.mpr ⟨λm =>?_,qp λa =>?_⟩
  ·have h1:=h x
   have h2:=IA.mpr m
   rw[List.count_cons_self] at h1
   omega
  ·have:=h a
   rw[Cy] at this
   omega
theorem jl {l:List Int}(h:l.Pairwise (· <= ·)):sortI l=l:=(dP (Fe l) h).symm
section
variable  {K:Be}{H:Hp}
theorem tX {n:Nat}:∀ns:List Int,Paired (eA K H (n+1)) (ns.map V.int) (ns.map V.int)
 | [] =>.nil
 | i :: ns =>.cons (.inl ⟨i,rfl,rfl⟩) (tX ns)
theorem Ax {n:Nat}{a b:Addr}{t:Tie}(ha:RowC K H a (tc t))(hb:RowC K H b (tc t)):eA K H (n+3) (.ref a) (.ref b):=by
 obtain ⟨p,h1,h2⟩:=dJ ha
 obtain ⟨q,h3,h4⟩:=dJ hb
 exact .inr (.inr ⟨a,b,_,_,rfl,rfl,.inl ⟨h1,h3⟩,.cons (.inl ⟨_,rfl,rfl⟩) (.cons (.inl ⟨_,rfl,rfl⟩) (.cons (.inr (.inr ⟨p,q,_,_,rfl,rfl,.inl ⟨h2,h4⟩,tX (n:=n) _⟩)) .nil))⟩)
theorem tY {n:Nat}:∀{ks js:List (Addr×Tie)},(∀k∈ks,RowC K H k.1 (tc k.2))->(∀k∈js,RowC K H k.1 (tc k.2))->ks.map (·.2)=js.map (·.2)->Paired (eA K H (n+3)) (ks.map λk=>V.ref k.1) (js.map λk=>V.ref k.1)
 | [],[],_,_,_ =>.nil
 | [],_ :: _,_,_,h=>by cases h
 | _ :: _,[],_,_,h=>by cases h
 | k :: ks,j :: js,h1,h2,h=>by
  obtain ⟨e1,e2⟩:=CC h
  have r:=h2 j Br
  rw[<- show k.2=j.2 from e1] at r
  exact .cons (Ax (h1 k Br) r) (tY (λx hx=>h1 x (BG _ hx)) (λx hx=>h2 x (BG _ hx)) e2)
end
@[irreducible] def jJ (K:Be):Sp:=λvs H Q _=>∃(r p:Addr) (n:Nat) (ts:List (Addr×Int×Int)) (s:Sta),vs=[.ref r,.ref p]/\Web K H r n ts/\StA K H p s/\Iv n (Wc ts) s/\∀H',ax H H'->Q (.bl true) H'
theorem fW {K:Be}{vs:List V}{H:Hp}{Q:VK}{E:XK}:jJ K vs H Q E↔∃(r p:Addr) (n:Nat) (ts:List (Addr×Int×Int)) (s:Sta),vs=[.ref r,.ref p]/\Web K H r n ts/\StA K H p s/\Iv n (Wc ts) s/\∀H',ax H H'->Q (.bl true) H':=by
 delta jJ
 exact DN
section
variable  {P:BD}{w:Cb}{K:Be}{mg:Str->Option Bh}{base:Heap}{f T:Addr}{fd:Cr}
theorem cx:aO ["web", "state", "left", "ties", "taken", "passed", "one", "other", "way", "places"] ["web", "state"] (aq nN):=⟨rfl,rfl,rfl,by decide +kernel,rfl,by decide +kernel,by decide +kernel⟩
theorem hW:(["place", "web"]:List Str).Nodup:=by decide +kernel
theorem xt (F:Fun K "_law_apart" "_law_apart" nN f fd)(B:Blt mg):bF P w K mg base CX0 1 f fd ["web", "state"] (jJ K):=by
 refine F.ok cx (λvs H Q E h =>?_) (λcdv A outer s H vs Q E hr h =>?_)
 ·obtain ⟨_,_,_,_,_,rfl,_⟩:=fW.mp h
  rfl
 obtain ⟨r,p,n,ts,z,rfl,hw,hs,g,q⟩:=fW.mp h
 have hu0:=hr.zv
 refine ⟨_,(@aj _ _ _ _ _ (@m8 _ _ _ _ _ _ (pv 1) (gI rfl (bb (aB (i:=2) cx.nd rfl (Or.inl rfl)) (bb (aB (i:=3) cx.nd rfl (Or.inl rfl)) (bb (aB (i:=4) cx.nd rfl (Or.inl rfl)) dY)))) rfl rfl rfl)
  (@aj _ _ _ _ _ (@aL _ _ 5 _ _ _ _ cx.nd rfl (Or.inl rfl) (@cO _ _ _ _ ag) rfl (by first | exact .inl rfl | exact .inr rfl | assumption))
  (@aj _ _ _ _ _ (@dA _ _ _ _ _ _ _ _ Dj rfl (@cA _ _ _ _ (pv 3)) (gI rfl (bb (aB (i:=6) cx.nd rfl (Or.inl rfl)) (bb (aB (i:=7) cx.nd rfl (Or.inl rfl)) (bb (aB (i:=8) cx.nd rfl (Or.inl rfl)) dY))))
   (@aj _ _ _ _ _ (dk (fD Cp PySem.F.slot_list_extend PySem.F.type_list_extend rA (pv 5) (@aa _ _ _ _ _ (pv 8) ag rfl)))
   (@ak _ _ _ (@bM _ _ _ _ _ _ _ _ (PW.pt (jN (aF il (pv 6) (pv 2) rfl) (jN (aF il (pv 7) (pv 2) rfl) (jN (aF sk (pv 6) (pv 7) (aN _)) (mZ (PW.pt (jM (aF bZ (pv 6) (pv 7) (aN _)) (ia (aF (Ag hu0) (pv 8) (yk (pv 8)) (aN _)))))))))) (@ak _ _ _ (@aM _ _ _ _ hZ)) aU))) (λ_=>rfl))
  (@aj _ _ _ _ _ (@aL _ _ 9 _ _ _ _ cx.nd rfl (Or.inl rfl) (@aQ _ _ _ _ _ _ _ _ f7 (@aQ _ _ _ _ _ _ _ _ f7 (a7 bS rfl B.b_list gn (@aa _ _ _ _ _ (pv 2) ag rfl)) (a7 bS rfl B.b_list gn (@aa _ _ _ _ _ (pv 4) ag rfl))) (pv 5)) rfl (by first | exact .inl rfl | exact .inr rfl | assumption))
  (@aj _ _ _ _ _ (@bM _ _ _ _ _ _ _ _ (PW.pt (jN (aF (nG hr) (aD cV rfl B.b_sorted bE (@aa _ _ _ _ _ (pv 2) ag rfl)) (a7 bS rfl B.b_list gn (@aa _ _ _ _ _ (pv 2) ag rfl)) (aN _)) (jN (aF (nG hr) (aD cV rfl B.b_sorted bE (@aa _ _ _ _ _ (pv 4) ag rfl)) (a7 bS rfl B.b_list gn (@aa _ _ _ _ _ (pv 4) ag rfl)) (aN _)) (mZ (aF (zC hr) (aD (cW (hu8 hr)) rfl B.b_sorted bE (@aa _ _ _ _ _ (pv 3) ag rfl)) (a7 bS rfl B.b_list gn (@aa _ _ _ _ _ (pv 3) ag rfl)) (aN _)))))) (@ak _ _ _ (@aM _ _ _ _ hZ)) aU)
  (@ak _ _ _ (@aM _ _ _ _ (qv (cR bZ (aD pD rfl B.b_len eV (@aa _ _ _ _ _ (a7 (qO (w:=w) rfl hr.hd) rfl B.b_set Ai (@aa _ _ _ _ _ (pv 9) ag rfl)) ag rfl)) (aD bz rfl B.b_len eV (@aa _ _ _ _ _ (pv 9) ag rfl)) (aN _)) (m7 (aD (oJ rfl) rfl B.b_all wU (@aa _ _ _ _ _ (bV ["place", "web"] [none,some 0] rfl (@fX _ _ _ _ (pv 9)) rfl (λ_ _ _ _ _=>(aB (i:=0) hW rfl (Or.inl rfl))) (λ_ _ _ _ _=>fE) (λ_ _ _ _ _=>(vC vB sj ai (pv 0) (@ay _ _ _ _ _ _ _ (bq (K:=K)) (pv 1) ai (λ_ _=>rfl))))) ag rfl))))))))))),?_⟩
 have nn:=hw.n40
 obtain ⟨⟨t,w1,w2⟩,_,_⟩:=hw
 obtain ⟨a,b,c,ks,h1,h2,h3,h4,h5⟩:=hs
 have m1:=g.m1
 have m3:=g.m3
 have lk:ks.length<=200:=by rw[<- h4,Bg] at m3;exact m3
 refine ⟨_,rfl,p,_,rfl,h1,rfl,_,_,rfl,_,_,rfl,_,_,rfl,rfl,?_⟩
 refine ⟨BU _,λl hl =>?_⟩
 have t0:=ae hl (.lst [])
 have e0:(upd H l (.lst [])) l=some (.lst ((bo []).map V.int)):=af
 generalize upd H l (.lst [])=H0 at t0 e0
 have plen:∀pr r,ks=pr++r->(bo (pr.map (·.2))).length<=40:=λpr r e=>by
  have:=kZ z.ts
  rw[<- h4,e,BB,k5,Bj] at this
  rw[<- BB, <- e,h4] at this
  omega
 refine ⟨_,rfl,b,rfl,⟨_,ah t0 h3.1⟩,kB (λk:Addr×Tie=>V.ref k.1) ks (λpr σ H'=>(∃c6 c7 c8 c9,σ=[some (.ref r),some (.ref p),some (.ref a),some (.ref b),some (.ref c),some (.ref l),c6,c7,c8,c9])/\ax H H'/\H' l=some (.lst ((bo (pr.map (·.2))).map V.int))) ⟨⟨_,_,_,_,rfl⟩,t0,e0⟩ (λpr σ H' h=>ah h.2.1 h3.1) ?_ ?_⟩
 ·rintro pr kt rr σ J hx ⟨⟨c6,c7,c8,c9,rfl⟩,sJ,el⟩
  have hkt:kt∈ks:=by rw[hx];exact BO _ Br
  have mt:kt.2∈z.ts:=by rw[<- h4];exact EE hkt
  obtain ⟨i1,i2⟩:=g.ends _ mt
  obtain ⟨o1,o2⟩:=g.ord _ mt
  have l2:=plen (pr++[kt]) rr (by rw[hx,BZ];rfl)
  have ep:bo ((pr++[kt]).map (·.2))=bo (pr.map (·.2))++kt.2.2.2:=by
   rw[BB,k5]
   unfold bo
   simp
  rw[ep,Bj] at l2
  obtain ⟨wb,r1,r2⟩:=dJ (az sJ (h3.2 kt hkt))
  refine ⟨kt.1,_,rfl,r1,rfl,_,_,rfl,_,_,rfl,_,_,rfl,rfl,?_⟩
  refine ⟨_,rfl,.inl ⟨rfl,_,SqL.of el⟩,_,rfl,l,wb,_,_,rfl,rfl,el,r2,small (by rw[Bg,Bg];omega),?_⟩
  have sJ2:=ja (o :=.lst ((bo (pr.map (·.2))).map V.int++kt.2.2.2.map V.int)) hl sJ
  have el2:(upd J l (.lst ((bo (pr.map (·.2))).map V.int++kt.2.2.2.map V.int))) l=some (.lst ((bo ((pr++[kt]).map (·.2))).map V.int)):=by rw[af,ep,BB]
  have r2':=kU (K:=K) (o :=.lst ((bo (pr.map (·.2))).map V.int++kt.2.2.2.map V.int)) el _ _ r2
  generalize upd J l (.lst ((bo (pr.map (·.2))).map V.int++kt.2.2.2.map V.int))=J2 at sJ2 el2 r2'
  have h2':=ah sJ2 h2
  refine ⟨_,rfl,_,rfl,a,_,rfl,.inr h2',rfl,dS z.lf,?_⟩
  rw[if_pos rfl,dR,decide_eq_true i1]
  refine ⟨_,rfl,bC ⟨_,rfl,_,rfl,a,_,rfl,.inr h2',rfl,dS z.lf,?_⟩⟩
  rw[if_pos rfl,dR,decide_eq_true i2]
  refine ⟨_,rfl,bC ⟨_,rfl,_,rfl,_,_,rfl,rfl,_,rfl,?_⟩⟩
  rw[decide_eq_false (show ¬ kt.2.1>kt.2.2.1 by omega)]
  refine bC ⟨_,rfl,_,rfl,rfl,_,rfl,?_⟩
  by_cases ce:kt.2.1=kt.2.2.1
  ·rw[decide_eq_true (show V.int kt.2.1=V.int kt.2.2.1 by rw[ce])]
   refine cQ ⟨_,rfl,_,rfl,wb,_,rfl,r2',λp5 n5=>⟨wb,p5,kt.2.2.2,kt.2.2.2.reverse,rfl,rfl,ah (ae n5 _) r2',by rw[Fj];exact SqT.of af,_,rfl,?_⟩⟩
   rw[HT.pW,o2 ce]
   exact bC ⟨⟨_,_,_,_,rfl⟩,sJ2.trans (ae n5 _),ae n5 _ _ _ el2⟩
  ·rw[decide_eq_false (show ¬ V.int kt.2.1=V.int kt.2.2.1 from λy=>ce (V.int.inj y))]
   exact bC (bC ⟨⟨_,_,_,_,rfl⟩,sJ2,el2⟩)
 ·rintro σ J ⟨⟨c6,c7,c8,c9,rfl⟩,sJ,el⟩
  have lp:=plen ks [] (Cf _).symm
  rw[h4] at el lp
  refine ⟨_,rfl,a,_,rfl,.inr (ah sJ h2),λl1 n1=>⟨_,rfl,c,_,rfl,.inr (ah (sJ.trans (ae n1 _)) h5),λl2 n2 =>?_⟩⟩
  have g1:=ae n1 (.lst (z.lf.map V.int))
  have g2:=ae n2 (.lst (z.tk.map V.int))
  refine ⟨l1,l2,_,_,rfl,rfl,SqL.of (g2 _ _ af),SqL.of af,small (by rw[Bg,Bg];omega),λl3 n3 =>?_⟩
  have g3:=ae n3 (.lst (z.lf.map V.int++z.tk.map V.int))
  have el3:=g3 _ _ (g2 _ _ (g1 _ _ el))
  have e3:(upd (upd (upd J l1 (.lst (z.lf.map V.int))) l2 (.lst (z.tk.map V.int))) l3 (.lst (z.lf.map V.int++z.tk.map V.int))) l3=_:=af
  have s3:=sJ.trans (g1.trans (g2.trans g3))
  generalize upd (upd (upd J l1 (.lst (z.lf.map V.int))) l2 (.lst (z.tk.map V.int))) l3 (.lst (z.lf.map V.int++z.tk.map V.int))=J3 at el3 e3 s3
  refine ⟨_,rfl,l3,l,_,_,rfl,rfl,SqL.of e3,SqL.of el3,small (by rw[Bj,Bg,Bg,Bg];omega),λl4 n4 =>?_⟩
  obtain ⟨P,eP⟩:∃P,P=z.lf++z.tk++bo z.ts:=⟨_,rfl⟩
  have em:z.lf.map V.int++z.tk.map V.int++(bo z.ts).map V.int=P.map V.int:=by rw[eP,BB,BB]
  rw[em]
  have s4:=s3.trans (ae n4 (.lst (P.map V.int)))
  have e4:(upd J3 l4 (.lst (P.map V.int))) l4=_:=af
  generalize upd J3 l4 (.lst (P.map V.int))=J4 at s4 e4
  have cnt1:∀x,P.count x<=if 0<=x/\x<n then 1 else 0:=λx=>by
   have:=g.cP x
   rw[eP,Dr,Dr,iK]
   exact this
  have ndP:P.Nodup:=qp λx=>by
   have:=cnt1 x
   split at this <;> omega
  have inP:∀x∈P,0<=x/\x<n:=λx hx=>by
   have h1:=cnt1 x
   have h2:=IA.mpr hx
   by_cases cc:0<=x/\x<n
   ·exact cc
   ·rw[if_neg cc] at h1;omega
  have lP:P.length<=100:=by rw[eP,Bj,Bj];omega
  clear em e3 el3 s3 g1 g2 g3
  refine ⟨_,rfl,a,z.lf,rfl,.inr (ah s4 h2),λl5 o5 n5 pm5 pw5=>⟨_,rfl,a,_,rfl,.inr (ah (s4.trans (ae n5 _)) h2),λl6 n6=>⟨l5,l6,o5,z.lf,rfl,rfl,SqL.of (ae n6 _ _ _ af),SqL.of af,_,rfl,?_⟩⟩⟩
  obtain rfl:o5=z.lf:=(dP pm5 pw5).trans (jl g.lfS)
  rw[decide_eq_true rfl]
  have s6:=s4.trans ((ae n5 (.lst (z.lf.map V.int))).trans (ae n6 (.lst (z.lf.map V.int))))
  have e46:=((ae n5 (.lst (z.lf.map V.int))).trans (ae n6 (.lst (z.lf.map V.int)))) _ _ e4
  generalize upd (upd J4 l5 (.lst (z.lf.map V.int))) l6 (.lst (z.lf.map V.int))=J6 at s6 e46
  refine bC ⟨_,rfl,c,z.tk,rfl,.inr (ah s6 h5),λl7 o7 n7 pm7 pw7=>⟨_,rfl,c,_,rfl,.inr (ah (s6.trans (ae n7 _)) h5),λl8 n8=>⟨l7,l8,o7,z.tk,rfl,rfl,SqL.of (ae n8 _ _ _ af),SqL.of af,_,rfl,?_⟩⟩⟩
  obtain rfl:o7=z.tk:=(dP pm7 pw7).trans (jl g.tkS)
  rw[decide_eq_true rfl]
  have s8:=s6.trans ((ae n7 (.lst (z.tk.map V.int))).trans (ae n8 (.lst (z.tk.map V.int))))
  have e48:=((ae n7 (.lst (z.tk.map V.int))).trans (ae n8 (.lst (z.tk.map V.int)))) _ _ e46
  generalize upd (upd J6 l7 (.lst (z.tk.map V.int))) l8 (.lst (z.tk.map V.int))=J8 at s8 e48
  refine bC ⟨_,rfl,_,b,ks.map (λk:Addr×Tie=>(k.1,tc k.2)),kK,rfl,.inr (by rw[BP];exact ah s8 h3.1),λk1 hk1=>(by obtain ⟨k2,hk2,rfl⟩:=Bw.mp hk1;exact ⟨az s8 (h3.2 k2 hk2),k2.2,rfl⟩),λl9 o9 n9 pm9 pw9 =>?_⟩
  obtain ⟨os,pmo,rfl⟩:=bH pm9
  have s9:=s8.trans (ae n9 (.lst ((os.map λk:Addr×Tie=>(k.1,tc k.2)).map λt=>V.ref t.1)))
  have e49:=ae n9 (.lst ((os.map λk:Addr×Tie=>(k.1,tc k.2)).map λt=>V.ref t.1)) _ _ e48
  have e9:(upd J8 l9 (.lst ((os.map λk:Addr×Tie=>(k.1,tc k.2)).map λt=>V.ref t.1))) l9=some (.lst (os.map λk=>V.ref k.1)):=by rw[af,BP];rfl
  generalize upd J8 l9 (.lst ((os.map λk:Addr×Tie=>(k.1,tc k.2)).map λt=>V.ref t.1))=J9 at s9 e49 e9
  refine ⟨_,rfl,b,_,rfl,.inr (ah s9 h3.1),λl10 n10 =>?_⟩
  have s10:=s9.trans (ae n10 (.lst (ks.map λk=>V.ref k.1)))
  have e410:=ae n10 (.lst (ks.map λk=>V.ref k.1)) _ _ e49
  have e910:=ae n10 (.lst (ks.map λk=>V.ref k.1)) _ _ e9
  have e10:(upd J9 l10 (.lst (ks.map λk=>V.ref k.1))) l10=_:=af
  generalize upd J9 l10 (.lst (ks.map λk=>V.ref k.1))=J10 at s10 e410 e910 e10
  have eos:os.map (·.2)=ks.map (·.2):=by
   rw[h4]
   refine Eq.trans (dO (pmo.map _) ?_) (by rw[h4];exact rV g.so)
   rw[B0] at pw9 ⊢
   exact pw9
  refine ⟨l9,l10,_,_,rfl,rfl,SqL.of e910,SqL.of e10,.inr ⟨tY (n:=17) (λk hk=>az s10 (h3.2 k (pmo.mem_iff.mp hk))) (λk hk=>az s10 (h3.2 k hk)) eos,_,rfl,bC ?_⟩⟩
  refine ⟨_,rfl,l4,P,rfl,.inl (SqL.of e410),by omega,λsa us nsa hm nd le=>⟨sa,us.map V.int,rfl,af,by rw[Bg];omega,?_⟩⟩
  have pU:us.Perm P:=(Fb nd ndP).mpr hm
  have gS:=ae nsa (oZ w sa (us.map V.int))
  have e4S:=gS _ _ e410
  have sS:=s10.trans gS
  generalize upd J10 sa (oZ w sa (us.map V.int))=JS at gS e4S sS
  refine ⟨_,rfl,l4,_,rfl,.inl (SqL.of e4S),rfl,?_⟩
  rw[Bg,Bg,pU.length_eq,decide_eq_true rfl]
  refine ⟨_,rfl,cQ ⟨_,rfl,l4,rfl,⟨_,SqL.of e4S⟩,df (λi:Int=>V.int i) (λ_=>V.bl true) (λ_=>true) P (SqL.of e4S) (small (by omega)) (λx hx R rr=>rr) (λx hx _ R rr =>?_) λlb nb =>?_⟩⟩
  ·obtain ⟨x0,x1⟩:=inP x hx
   refine ⟨_,rfl,_,_,rfl,rfl,_,rfl,?_⟩
   rw[decide_eq_true x0]
   refine cQ ⟨_,rfl,r,_,0,_,rfl,rfl,ah sS w1,rfl,_,_,rfl,rfl,?_⟩
   show R (V.bl (decide (x<(n:Int)))) JS
   rw[decide_eq_true x1]
   exact rr
  ·rw[Dl.mpr (λ_ _=>rfl)]
   have eb:(P.map λ_=>V.bl true)=(Ef P.length true).map V.bl:=by
    rw[IC]
    exact Jy ..
   rw[eb]
   refine ⟨lb,_,rfl,SqL.of af,?_⟩
   rw[show (Ef P.length true).all id=true by simp]
   exact q _ (sS.trans (ae nb _))
end
open PySem L2
open Srt
theorem oo {x y a b:Int}:([x,y] == [a,b])=decide (x=a/\y=b):=by
 rw[CO,beq_iff_eq,decide_eq_true_iff]
 constructor
 ·intro h;cases h;exact ⟨rfl,rfl⟩
 ·rintro ⟨rfl,rfl⟩;rfl
theorem xu (a b:Int):∀l:List Tie,(l.map λt=>[t.1,t.2.1]).count [a,b]=sumF (λt=>if t.1=a/\t.2.1=b then 1 else 0) l
 | []=>rfl
 | t :: l=>by
  rw[BF,Cy,xu a b l,aK,oo]
  by_cases c:t.1=a/\t.2.1=b
  ·rw[if_pos c,decide_eq_true c,if_pos rfl];omega
  ·rw[if_neg c,decide_eq_false c,if_neg Bo];omega
theorem xv (a b:Int):∀l:List Tie,((l.filter λt=>decide (t.2.2=[])).map λt=>[t.1,t.2.1]).count [a,b]=sumF (λt=>if t.2.2=[]/\t.1=a/\t.2.1=b then 1 else 0) l
 | []=>rfl
 | t :: l=>by
  rw[aK, <- xv a b l,Hj]
  by_cases c0:t.2.2=[]
  ·rw[decide_eq_true c0,if_pos rfl,BF,Cy,oo]
   by_cases c:t.1=a/\t.2.1=b
   ·rw[if_pos (show t.2.2=[]/\t.1=a/\t.2.1=b from ⟨c0,c⟩),decide_eq_true c,if_pos rfl];omega
   ·rw[if_neg (show ¬ (t.2.2=[]/\t.1=a/\t.2.1=b) from λz=>c z.2),decide_eq_false c,if_neg Bo];omega
  ·rw[decide_eq_false c0,if_neg Bo,if_neg λz=>c0 z.1];omega
theorem xw (a b:Int):∀ts:List (Addr×Int×Int),(ts.map λu=>[u.2.1,u.2.2]).count [a,b]=Wc ts a b
 | []=>rfl
 | u :: ts=>by
  have ih:=xw a b ts
  unfold Wc at *
  rw[BF,Cy,ih,oo,Hj]
  by_cases c:u.2.1=a/\u.2.2=b
  ·rw[decide_eq_true c,if_pos rfl,if_pos rfl,Bs]
  ·rw[decide_eq_false c,if_neg Bo,if_neg Bo];rfl
@[irreducible] def oq (K:Be):Sp:=λvs H Q _=>∃(r p t:Addr) (n:Nat) (ts:List (Addr×Int×Int)) (s:Sta),vs=[.ref r,.ref p]/\SqT K H r [.int n,.ref t]/\H t=some (.tup (ts.map λu =>.ref u.1))/\(∀u∈ts,SqT K H u.1 [.int u.2.1,.int u.2.2])/\StA K H p s/\Iv n (Wc ts) s/\∀H',ax H H'->Q (.bl true) H'
theorem hX {K:Be}{vs:List V}{H:Hp}{Q:VK}{E:XK}:oq K vs H Q E↔∃(r p t:Addr) (n:Nat) (ts:List (Addr×Int×Int)) (s:Sta),vs=[.ref r,.ref p]/\SqT K H r [.int n,.ref t]/\H t=some (.tup (ts.map λu =>.ref u.1))/\(∀u∈ts,SqT K H u.1 [.int u.2.1,.int u.2.2])/\StA K H p s/\Iv n (Wc ts) s/\∀H',ax H H'->Q (.bl true) H':=by
 delta oq
 exact DN
section
variable  {P:BD}{w:Cb}{K:Be}{mg:Str->Option Bh}{base:Heap}{f T:Addr}{fd:Cr}
theorem dz:aO ["web", "state", "left", "ties", "taken", "straight", "pairs", "pair", "due"] ["web", "state"] (aq rG):=⟨rfl,rfl,rfl,by decide +kernel,rfl,by decide +kernel,by decide +kernel⟩
theorem jm:(["tie"]:List Str).Nodup:=by decide +kernel
theorem yQ (F:Fun K "_law_kept" "_law_kept" rG f fd)(B:Blt mg):bF P w K mg base CX0 1 f fd ["web", "state"] (oq K):=by
 refine F.ok dz (λvs H Q E h =>?_) (λcdv A outer s H vs Q E hr h =>?_)
 ·obtain ⟨_,_,_,_,_,_,rfl,_⟩:=hX.mp h
  rfl
 obtain ⟨r,p,t,n,ts,z,rfl,w1,w2,w3,hs,g,q⟩:=hX.mp h
 refine ⟨_,(@aj _ _ _ _ _ (@m8 _ _ _ _ _ _ (pv 1) (gI rfl (bb (aB (i:=2) dz.nd rfl (Or.inl rfl)) (bb (aB (i:=3) dz.nd rfl (Or.inl rfl)) (bb (aB (i:=4) dz.nd rfl (Or.inl rfl)) dY)))) rfl rfl rfl)
  (@aj _ _ _ _ _ (de (i:=5) ["tie"] [none] rfl dz.nd rfl rfl (@cA _ _ _ _ (pv 3)) rfl (λ_ _ _ _ _=>(aB (i:=0) jm rfl (Or.inl rfl))) (λ_ _ _ _ _=>(d9 (aF (wJ (K:=K) (hu8 hr)) (@ay _ _ _ _ _ _ _ (bq (K:=K)) (pv 0) ai (λ_ _=>rfl)) (@bh _ _ _ _ _ ag) (aN _)))) (λ_ _ _ _ _=>(ic (tJ (K:=K)) (pv 0) jy (jz ai))))
  (@aj _ _ _ _ _ (de (i:=6) ["tie"] [none] rfl dz.nd rfl rfl (@cA _ _ _ _ (pv 3)) rfl (λ_ _ _ _ _=>(aB (i:=0) jm rfl (Or.inl rfl))) (λ_ _ _ _ _=>fE) (λ_ _ _ _ _=>(ic (tJ (K:=K)) (pv 0) jy (jz ai))))
  (@aj _ _ _ _ _ (@dA _ _ _ _ _ _ _ _ Dj rfl (@cA _ _ _ _ (@ay _ _ _ _ _ _ _ aE (pv 0) ai (λ_ _=>rfl))) (aB (i:=7) dz.nd rfl (Or.inl rfl))
   (@ak _ _ _ (@bM _ _ _ _ _ _ _ _ (PW.pt (jM (aF iP (@ay _ _ _ _ _ _ _ aE (pv 7) ai (λ_ _=>rfl)) (pv 2) rfl) (ia (aF iP (@ay _ _ _ _ _ _ _ aE (pv 7) ai (λ_ _=>rfl)) (pv 2) rfl)))) (@aj _ _ _ _ _ (@aL _ _ 8 _ _ _ _ dz.nd rfl (Or.inl rfl) (vZ Ft G0 (kF (K:=K) (hu8 hr)) (@ay _ _ _ _ _ _ _ aE (pv 0) ai (λ_ _=>rfl)) (@aa _ _ _ _ _ (pv 7) ag rfl)) rfl (by first | exact .inl rfl | exact .inr rfl | assumption))
    (@ak _ _ _ (@bM _ _ _ _ _ _ _ _ (PW.pt (jN (aF sk (fD Cp EG FA (gP (K:=K) (hu8 hr)) (pv 5) (@aa _ _ _ _ _ (pv 7) ag rfl)) (pv 8) (aN _)) (mZ (aF sj (fD Cp EG FA (gP (K:=K) (hu8 hr)) (pv 6) (@aa _ _ _ _ _ (pv 7) ag rfl)) (aD (cY rfl) rfl B.b_min gU (@aa _ _ _ _ _ ai (@aa _ _ _ _ _ (pv 8) ag rfl) rfl)) (aN _))))) (@ak _ _ _ (@aM _ _ _ _ hZ)) aU))) aU)) (λ_=>rfl))
  (@ak _ _ _ (@aM _ _ _ _ hZ)))))),?_⟩
 obtain ⟨a,b,c,ks,h1,h2,h3,h4,h5⟩:=hs
 have m3:=g.m3
 have lk:ks.length<=200:=by rw[<- h4,Bg] at m3;exact m3
 refine ⟨_,rfl,p,_,rfl,h1,rfl,_,_,rfl,_,_,rfl,_,_,rfl,rfl,?_⟩
 refine ⟨_,rfl,b,rfl,⟨_,h3.1⟩,eI (λH p (u:Int×Int)=>SqT K H p [.int u.1,.int u.2]) (λH1 H2 p b s h=>ah s h) (λk:Addr×Tie=>V.ref k.1) (λk=>(k.2.1,k.2.2.1)) (λk=>decide (k.2.2.2=[])) ks h3.1 (small (by omega)) (λk hk J sJ R rr =>?t) (λk hk _ J sJ R rr =>?e) λJ ls l sJ rl el nl =>?c⟩
 case t =>
  obtain ⟨wb,r1,r2⟩:=dJ (az sJ (h3.2 k hk))
  refine ⟨_,rfl,k.1,_,2,_,rfl,rfl,r1,rfl,BU _,λp0 n0=>⟨wb,p0,k.2.2.2.map Cell.i,[],rfl,rfl,⟨_,ah (ae n0 _) r2,qc _⟩,⟨_,SqT.of af,trivial⟩,_,rfl,?_⟩⟩
  have e:decide (k.2.2.2.map Cell.i=[])=decide (k.2.2.2=[]):=decide_eq_decide.mpr HY
  rw[e]
  exact rr _ (ae n0 _)
 case e =>
  obtain ⟨wb,r1,r2⟩:=dJ (az sJ (h3.2 k hk))
  exact ⟨_,rfl,_,rfl,k.1,_,rfl,r1,λp4 J4 s4 e4=>rr p4 J4 s4 e4⟩
 case c =>
 have tl:=ae nl (.lst (ls.map λk=>V.ref k.1))
 have sl:=sJ.trans tl
 have ell:(upd J l (.lst (ls.map λk=>V.ref k.1))) l=_:=af
 have rl:=λk hk=>ah tl (rl k hk)
 generalize upd J l (.lst (ls.map λk=>V.ref k.1))=J1 at tl sl ell rl
 refine ⟨_,rfl,b,rfl,⟨_,ah sl h3.1⟩,eI (λH p (u:Int×Int)=>SqT K H p [.int u.1,.int u.2]) (λH1 H2 p b s h=>ah s h) (λk:Addr×Tie=>V.ref k.1) (λk=>(k.2.1,k.2.2.1)) (λ_=>true) ks (ah sl h3.1) (small (by omega)) (λk hk J sJ R rr=>rr J (ax.refl _)) (λk hk _ J sJ R rr =>?e) λJ2 ms m sJ2 rm em nm =>?c⟩
 case e =>
  obtain ⟨wb,r1,r2⟩:=dJ (az (sl.trans sJ) (h3.2 k hk))
  exact ⟨_,rfl,_,rfl,k.1,_,rfl,r1,λp4 J4 s4 e4=>rr p4 J4 s4 e4⟩
 case c =>
 have tm:=ae nm (.lst (ms.map λk=>V.ref k.1))
 have sm:=sl.trans (sJ2.trans tm)
 have emm:(upd J2 m (.lst (ms.map λk=>V.ref k.1))) m=_:=af
 have rm:=λk hk=>ah tm (rm k hk)
 have ell:=(sJ2.trans tm) _ _ ell
 have rl:=λk hk=>ah (sJ2.trans tm) (rl k hk)
 generalize upd J2 m (.lst (ms.map λk=>V.ref k.1))=J3 at tm sm emm rm ell rl
 have eS:(ls.map λk=>[k.2.1,k.2.2])=(z.ts.filter λt=>decide (t.2.2=[])).map λt=>[t.1,t.2.1]:=by
  have:(ls.map λk=>[k.2.1,k.2.2])=(ls.map (·.2)).map λq=>[q.1,q.2]:=by rw[BP];rfl
  rw[this,el, <- h4,Es,BP,BP];rfl
 have eM:(ms.map λk=>[k.2.1,k.2.2])=z.ts.map λt=>[t.1,t.2.1]:=by
  have:(ms.map λk=>[k.2.1,k.2.2])=(ms.map (·.2)).map λq=>[q.1,q.2]:=by rw[BP];rfl
  rw[this,em,Dl.mpr (λ_ _=>rfl), <- h4,BP,BP];rfl
 have w2':=sm _ _ w2
 refine ⟨_,rfl,r,_,1,_,rfl,rfl,ah sm w1,rfl,t,rfl,⟨_,SqT.of w2'⟩,kB (λu:Addr×Int×Int=>V.ref u.1) ts (λpr σ H'=>(∃c7 c8,σ=[some (.ref r),some (.ref p),some (.ref a),some (.ref b),some (.ref c),some (.ref l),some (.ref m),c7,c8])/\H'=J3) ⟨⟨_,_,rfl⟩,rfl⟩ (λpr σ H' h=>by rw[h.2];exact SqT.of w2') ?_ ?_⟩
 ·rintro pr u rr σ J ex ⟨⟨c7,c8,rfl⟩,rfl⟩
  have hu:=ah sm (w3 u (by rw[ex];exact BO _ Br))
  have h2':=ah sm h2
  refine ⟨_,rfl,u.1,_,0,_,rfl,rfl,hu,rfl,_,rfl,a,_,rfl,.inr h2',rfl,dS z.lf,?_⟩
  rw[if_neg Bo,dR]
  refine ⟨_,rfl,?_⟩
  by_cases c1:u.2.1∈z.lf
  case neg =>
   rw[decide_eq_false c1]
   exact bC (bC ⟨⟨_,_,rfl⟩,rfl⟩)
  rw[decide_eq_true c1]
  refine cQ ⟨_,rfl,u.1,_,1,_,rfl,rfl,hu,rfl,_,rfl,a,_,rfl,.inr h2',rfl,dS z.lf,?_⟩
  rw[if_neg Bo,dR]
  refine ⟨_,rfl,?_⟩
  by_cases c2:u.2.2∈z.lf
  case neg =>
   rw[decide_eq_false c2]
   exact bC ⟨⟨_,_,rfl⟩,rfl⟩
  rw[decide_eq_true c2]
  have k1:=g.st0 u.2.1 u.2.2
  have k2:=g.pr u.2.1 u.2.2 c1 c2
  rw[jG] at k2
  refine cQ ⟨_,rfl,r,_,1,_,rfl,rfl,ah sm w1,rfl,⟨t,_,rfl,w2'⟩,_,rfl,t,u.1,ts.map (λv=>(v.1,[v.2.1,v.2.2])),[u.2.1,u.2.2],rfl,rfl,by rw[BP];exact w2',λv hv=>(by obtain ⟨v',hv',rfl⟩:=Bw.mp hv;exact ah sm (w3 v' hv')),hu,?_⟩
  rw[BP,show (Prod.snd ∘ λv:Addr×Int×Int=>(v.1,[v.2.1,v.2.2]))=λv=>[v.2.1,v.2.2] from rfl,xw]
  refine ⟨_,rfl,.inl ⟨rfl,_,SqL.of ell⟩,_,rfl,l,u.1,ls.map (λv=>(v.1,[v.2.1,v.2.2])),[u.2.1,u.2.2],rfl,rfl,by rw[BP];exact ell,λv hv=>(by obtain ⟨v',hv',rfl⟩:=Bw.mp hv;exact rl v' hv'),hu,?_⟩
  rw[BP,show (Prod.snd ∘ λv:Addr×Int×Int=>(v.1,[v.2.1,v.2.2]))=λv=>[v.2.1,v.2.2] from rfl,eS,xv]
  refine ⟨_,rfl,_,_,rfl,rfl,_,rfl,?_⟩
  rw[decide_eq_false (by omega)]
  refine bC ⟨_,rfl,.inl ⟨rfl,_,SqL.of emm⟩,_,rfl,m,u.1,ms.map (λv=>(v.1,[v.2.1,v.2.2])),[u.2.1,u.2.2],rfl,rfl,by rw[BP];exact emm,λv hv=>(by obtain ⟨v',hv',rfl⟩:=Bw.mp hv;exact rm v' hv'),hu,?_⟩
  rw[BP,show (Prod.snd ∘ λv:Addr×Int×Int=>(v.1,[v.2.1,v.2.2]))=λv=>[v.2.1,v.2.2] from rfl,eM,xu]
  refine ⟨_,rfl,_,_,rfl,_,_,rfl,rfl,_,rfl,?_⟩
  rw[decide_eq_false (by split <;> omega)]
  exact bC ⟨⟨_,_,rfl⟩,rfl⟩
 ·rintro σ J ⟨⟨c7,c8,rfl⟩,rfl⟩
  exact q _ sm
end
open PySem L2
open Srt
theorem zc (a b:Int):∀l:List (Addr×Int×Int),(l.map λv=>[v.2.1,v.2.2]).count [a,b]=(l.map (·.2)).count (a,b)
 | []=>rfl
 | u :: l=>by
  rw[BF,BF,Cy,Cy,zc a b l,oo]
  have e:(u.2 == (a,b))=decide (u.2.1=a/\u.2.2=b):=by
   rw[CO,beq_iff_eq,decide_eq_true_iff]
   exact IZ
  rw[e]
def k8:Stp->Bool
 | .one w _=>decide (w = "loop")
 | .two _ _=>false
def plc:Stp->Int
 | .one _ x=>x
 | .two x _=>x
theorem qr:∀l:List (Addr×Stp),((l.filter λk=>k8 k.2).map λk=>V.int (plc k.2))=(a6 (l.map (·.2))).map V.int
 | []=>rfl
 | (a,t) :: l=>by
  have ih:=qr l
  have e:a6 (((a,t) :: l).map (·.2))=a6 [t]++a6 (l.map (·.2)):=by
   unfold a6
   rw[<- HC];rfl
  rw[e,BB, <- ih,Hj]
  cases t with
  | two x y=>rfl
  | one w x =>
   by_cases c:w = "loop"
   ·have e1:k8 (.one w x)=true:=decide_eq_true c
    have e2:a6 [.one w x]=[x]:=by unfold a6;simp[c]
    rw[e1,e2,if_pos rfl];rfl
   ·have e1:k8 (.one w x)=false:=decide_eq_false c
    have e2:a6 [.one w x]=[]:=by unfold a6;simp[c]
    rw[e1,e2,if_neg Bo];rfl
theorem tZ {K:Be}{H:Hp}{p:Addr}{t:Stp}(h:RowC K H p t.cs):∃(w:Str) (r:List V),SqT K H p (.str w :: .int (plc t) :: r)/\k8 t=decide (w = "loop"):=by
 cases t with
 | one w x=>exact ⟨w,[],wK h,rfl⟩
 | two x y=>exact ⟨"many",[.int y],tH h,(decide_eq_false (by decide)).symm⟩
theorem yR {d:Int}(h0:0<=d)(h1:d<3):∃y:Int,atI ([.int 2,.int 6,.int 60]:List V) d=some (.int y)/\0<=y/\y<=60:=by
 have:d=0\/d=1\/d=2:=by omega
 rcases this with rfl | rfl | rfl
 ·exact ⟨2,rfl,by decide,by decide⟩
 ·exact ⟨6,rfl,by decide,by decide⟩
 ·exact ⟨60,rfl,by decide,by decide⟩
def qu (K:Be):Sp:=λvs H Q _=>∃(a:Addr) (ns:List Int),vs=[.ref a]/\SqL K H a (ns.map V.int)/\ns.length<=63/\H PJ=some (.tbl psJ)/\∀H',Q (.bl true) H'
theorem mV {K:Be}{vs:List V}{H:Hp}{Q:VK}{E:XK}:qu K vs H Q E↔∃(a:Addr) (ns:List Int),vs=[.ref a]/\SqL K H a (ns.map V.int)/\ns.length<=63/\H PJ=some (.tbl psJ)/\∀H',Q (.bl true) H':=DN
section
variable  {P:BD}{w:Cb}{K:Be}{mg:Str->Option Bh}{base:Heap}{f T:Addr}{fd:Cr}
theorem iL:aO ["script", "k", "cell", "pot", "web", "log", "state", "used"] ["script"] (aq u7):=⟨rfl,rfl,rfl,by decide +kernel,rfl,by decide +kernel,by decide +kernel⟩
theorem gC:(["pair", "used", "web"]:List Str).Nodup:=by decide +kernel
theorem rX:(["step"]:List Str).Nodup:=by decide +kernel
theorem Bc (F:Fun K "law" "law" u7 f fd)(B:Blt mg)(cLEither:Cal P w K mg base 3 "_law_either" ["pot", "most", "k"] iJ)(cLLog:Cal P w K mg base 8 "_law_log" ["pot", "web", "most"] (oh K))(cRunLog:Cal P w K mg base 9 "run_log" ["web", "log"] (tV K))(cLUsed:Cal P w K mg base 1 "_law_used" ["state"] (om K))(cLDeal:Cal P w K mg base 1 "_law_deal" ["cell", "many"] nP)(cLTake:Cal P w K mg base 1 "_law_take" ["pot", "many"] fQ)(cLApart:Cal P w K mg base 1 "_law_apart" ["web", "state"] (jJ K))(cLKept:Cal P w K mg base 1 "_law_kept" ["web", "state"] (oq K)):bF P w K mg base CX0 10 f fd ["script"] (qu K):=by
 refine F.ok iL (λvs H Q E h =>?_) (λcdv A outer s H vs Q E hr h =>?_)
 ·obtain ⟨_,_,rfl,_⟩:=mV.mp h
  rfl
 obtain ⟨a,ns,rfl,hS,h63,hP,q⟩:=mV.mp h
 refine ⟨_,(@aj _ _ _ _ _ (@dA _ _ _ _ _ _ _ _ Dj rfl (sC rfl B.b_enumerate (@aa _ _ _ _ _ (@aQ _ _ _ _ _ _ _ _ f7 (ic sA (pv 0) jy (jz ai)) (@cO _ _ _ _ (@aa _ _ _ _ _ ai ag rfl))) ag rfl)) (gI rfl (bb (aB (i:=1) iL.nd rfl (Or.inl rfl)) (bb (aB (i:=2) iL.nd rfl (Or.inl rfl)) dY)))
   (@aj _ _ _ _ _ (@aL _ _ 3 _ _ _ _ iL.nd rfl (Or.inl rfl) (@cO _ _ _ _ (@aa _ _ _ _ _ (aH cLDeal hr (by decide) rfl (@aa _ _ _ _ _ (pv 2) (@aa _ _ _ _ _ ai ag rfl) rfl)) ag rfl)) rfl (by first | exact .inl rfl | exact .inr rfl | assumption))
   (@aj _ _ _ _ _ (@aL _ _ 4 _ _ _ _ iL.nd rfl (Or.inr rfl) (aH cLEither hr (by decide) rfl (@aa _ _ _ _ _ (pv 3) (@aa _ _ _ _ _ ai (@aa _ _ _ _ _ (pv 1) ag rfl) rfl) rfl)) rfl (by first | exact .inl rfl | exact .inr rfl | assumption))
   (@aj _ _ _ _ _ (@m8 _ _ _ _ _ _ (aH cLLog hr (by decide) rfl (@aa _ _ _ _ _ (pv 3) (@aa _ _ _ _ _ (pv 4) (@aa _ _ _ _ _ (@ay _ _ _ _ _ _ _ bN (@cO _ _ _ _ (@aa _ _ _ _ _ ai (@aa _ _ _ _ _ ai (@aa _ _ _ _ _ ai ag rfl) rfl) rfl)) (aH cLTake hr (by decide) rfl (@aa _ _ _ _ _ (pv 3) (@aa _ _ _ _ _ ai ag rfl) rfl)) (λ_ _=>rfl)) ag rfl) rfl) rfl)) (gI rfl (bb (aB (i:=5) iL.nd rfl (Or.inl rfl)) (bb (aB (i:=6) iL.nd rfl (Or.inl rfl)) dY))) rfl rfl rfl)
   (@aj _ _ _ _ _ (@aL _ _ 6 _ _ _ _ iL.nd rfl (Or.inl rfl) (aH cRunLog hr (by decide) rfl (@aa _ _ _ _ _ (pv 4) (@aa _ _ _ _ _ (pv 5) ag rfl) rfl)) rfl (by first | exact .inl rfl | exact .inr rfl | assumption))
   (@aj _ _ _ _ _ (@aL _ _ 7 _ _ _ _ iL.nd rfl (Or.inr rfl) (aH cLUsed hr (by decide) rfl (@aa _ _ _ _ _ (pv 6) ag rfl)) rfl (by first | exact .inl rfl | exact .inr rfl | assumption))
   (@aj _ _ _ _ _ (@bM _ _ _ _ _ _ _ _ (PW.pt (jN (iM (fA (aH cLApart hr (by decide) rfl (@aa _ _ _ _ _ (pv 4) (@aa _ _ _ _ _ (pv 6) ag rfl) rfl)))) (mZ (iM (fA (aH cLKept hr (by decide) rfl (@aa _ _ _ _ _ (pv 4) (@aa _ _ _ _ _ (pv 6) ag rfl) rfl))))))) (@ak _ _ _ (@aM _ _ _ _ hZ)) aU)
   (@aj _ _ _ _ _ (@bM _ _ _ _ _ _ _ _ (iM (fA (aD (oJ rfl) rfl B.b_all wU (@aa _ _ _ _ _ (bV ["pair", "used", "web"] [none,some 7,some 4] rfl (@fX _ _ _ _ (pv 7)) rfl (λ_ _ _ _ _=>(aB (i:=0) gC rfl (Or.inl rfl))) (λ_ _ _ _ _=>fE) (λ_ _ _ _ _=>(cR vB (z5 (K:=K) Cp EG FA (gP (K:=K) (hu8 hr)) (pv 1) (@aa _ _ _ _ _ (pv 0) ag rfl)) (vZ Ft G0 (kF (K:=K) (hu8 hr)) (@ay _ _ _ _ _ _ _ (bq (K:=K)) (pv 2) ai (λ_ _=>rfl)) (@aa _ _ _ _ _ (pv 0) ag rfl)) (aN _)))) ag rfl)))) (@ak _ _ _ (@aM _ _ _ _ hZ)) aU)
   (@ak _ _ _ (@bM _ _ _ _ _ _ _ _ (aF (nG hr) (aD cV rfl B.b_sorted bE (@aa _ _ _ _ _ (bV ["step"] [none] rfl (@fX _ _ _ _ (pv 5)) rfl (λ_ _ _ _ _=>(aB (i:=0) rX rfl (Or.inl rfl))) (λ_ _ _ _ _=>(d9 (aF bZ (@ay _ _ _ _ _ _ _ (bq (K:=K)) (pv 0) ai (λ_ _=>rfl)) dX (aN _)))) (λ_ _ _ _ _=>(@ay _ _ _ _ _ _ _ (bq (K:=K)) (pv 0) ai (λ_ _=>rfl)))) ag rfl)) (a7 bS rfl B.b_list gn (@aa _ _ _ _ _ (@ay _ _ _ _ _ _ _ aE (pv 6) ai (λ_ _=>rfl)) ag rfl)) (aN _)) (@ak _ _ _ (@aM _ _ _ _ hZ)) aU))))))))) (λ_=>rfl))
  (@ak _ _ _ (@aM _ _ _ _ hZ))),?_⟩
 refine ⟨_,rfl,14,rfl,a,_,rfl,hS,λl0 hl0 =>?_⟩
 obtain ⟨ms,em,lt,_⟩:=uM ns none (some 14)
 rw[em]
 have s1:=ae hl0 (.lst (ms.map V.int))
 refine ⟨fS,λl1 hl1=>⟨l0,l1,_,_,rfl,rfl,SqL.of ((ae hl1 _) _ _ af),SqL.of af,?_,λl2 hl2 =>?_⟩⟩
 ·rw[Bg]
  exact small (by show _+1<=_;omega)
 have s2:=(s1.trans (ae hl1 (.lst [.int 2]))).trans (ae hl2 (.lst (ms.map V.int++[.int 2])))
 have e2:upd (upd (upd H l0 (.lst (ms.map V.int))) l1 (.lst [.int 2])) l2 (.lst (ms.map V.int++[.int 2])) l2=some (.lst ((ms++[2]).map V.int)):=by rw[af,BB];rfl
 generalize upd (upd (upd H l0 (.lst (ms.map V.int))) l1 (.lst [.int 2])) l2 (.lst (ms.map V.int++[.int 2]))=H2 at s2 e2
 have hP2:=s2 _ _ hP
 refine ⟨l2,rfl,.inl ⟨⟨_,SqL.of e2⟩,lY (xs:=(ms++[2]).map V.int) (λi σ H'=>(∃c1 c2 c3 c4 c5 c6 c7,σ=[some (.ref a),c1,c2,c3,c4,c5,c6,c7])/\ax H2 H') ⟨⟨_,_,_,_,_,_,_,rfl⟩,ax.refl _⟩ (λi σ H' _ k=>SqL.of (k.2 _ _ e2)) ?_ (λσ H' _=>q _)⟩⟩
 rintro i x σ H3 T hx hT ⟨⟨c1,c2,c3,c4,c5,c6,c7,rfl⟩,s3⟩
 rw[BQ] at hx
 obtain ⟨cell,_,rfl⟩:=FF.mp hx
 have eT:(upd H3 T (.tup [.int i,.int cell])) T=_:=af
 have s3:=s3.trans (ae hT (.tup [.int i,.int cell]))
 generalize upd H3 T (.tup [.int i,.int cell])=H3 at eT s3
 refine ⟨T,_,rfl,SqT.of eT,rfl,_,_,rfl,_,_,rfl,rfl,?_⟩
 refine ⟨_,rfl,gW.mpr ⟨cell,50,rfl,by decide,by decide,λnn=>⟨fS,λp hp =>?_⟩⟩⟩
 have hp2:H2 p=none:=none_of s3 hp
 have p0:Pt 1 (upd H3 p (.lst [.int nn])) p:=⟨[nn],rfl,af⟩
 have b0:=Bu.refl p0
 have fr:∀{H':Hp},Bu 1 p (upd H3 p (.lst [.int nn])) H'->ax H3 H':=λb=>Bu.fresh hp b
 generalize upd H3 p (.lst [.int nn])=H4 at p0 b0 fr
 refine ⟨_,rfl,_,rfl,fh.mpr ⟨p,8,i,rfl,b0.pot,by decide,by decide,λr t n us H5 b5 er et tw n40 l200 so =>?_⟩⟩
 obtain ⟨ts,ets⟩:=y9 tw
 have gi:=yN tw n40 l200 so ets
 have lts:ts.length<=200:=by rw[ets,Bg] at l200;exact l200
 have et:H5 t=some (.tup (ts.map λu =>.ref u.1)):=by rw[et,ets,BP];rfl
 have eu:∀u∈ts,SqT K H5 u.1 [.int u.2.1,.int u.2.2]:=λu hu=>SqT.of (tw.at' (u.1,[u.2.1,u.2.2]) (by rw[ets];exact Bw.mpr ⟨u,hu,rfl⟩))
 have er:=SqT.of (K:=K) er
 clear so tw ets l200
 refine ⟨_,rfl,_,rfl,(by decide:3<=BJ),λl3 n3 =>?_⟩
 have t3:=ae n3 (.lst [.int 2,.int 6,.int 60])
 have e3:(upd H5 l3 (.lst [.int 2,.int 6,.int 60])) l3=_:=af
 have n3p:l3≠p:=b5.pot.ne n3
 have b6:=b5.same t3
 generalize upd H5 l3 (.lst [.int 2,.int 6,.int 60])=H6 at t3 e3 b6
 refine ⟨_,rfl,aS.mpr ⟨p,3,rfl,b6.pot,by decide,bK (by decide) (by decide),λd H7 d0 d1 b7 =>?_⟩⟩
 obtain ⟨mo,emo,mo0,mo1⟩:=yR d0 d1
 have on7:∀b xs,SqT K H5 b xs->SqT K H7 b xs:=λb xs h=>rW b6.pot b7 _ _ (ah t3 h)
 have et7:=b7.tup b6.pot (t3 _ _ et)
 have P7:H7 PJ=some (.tbl psJ):=kW b6.pot b7 (t3 _ _ (kW p0 b5 (by
  have:=s3 _ _ hP2
  exact fr b0 _ _ this)))
 have b07:=b6.trans b7
 refine ⟨l3,_,d,_,rfl,rfl,SqL.of (b7.st _ _ n3p e3),emo,?_⟩
 refine g8.mpr ⟨p,r,mo,n,ts,rfl,b7.pot,mo0,mo1,⟨⟨t,on7 _ _ er,SqT.of et7⟩,λu hu=>on7 _ _ (eu u hu),gi⟩,P7,λqt lg ps log H8 b8 eq nlg elg rlg rn l60 st8 =>?_⟩
 have on8:∀b xs,SqT K H5 b xs->SqT K H8 b xs:=λb xs h=>rW b7.pot b8 _ _ (on7 b xs h)
 have et8:=b8.tup b7.pot et7
 have P8:=kW b7.pot b8 P7
 have s8:ax H2 H8:=s3.trans (fr (b07.trans b8))
 have er8:=on8 _ _ er
 have eu8:∀u∈ts,SqT K H8 u.1 [.int u.2.1,.int u.2.2]:=λu hu=>on8 _ _ (eu u hu)
 refine ⟨qt,_,rfl,eq,rfl,_,_,rfl,_,_,rfl,rfl,?_⟩
 clear st8 eq b07 b6 b7 b8 t3 e3 on7 et7 P7 er et eu b5
 have gr:=iH gi rn
 refine ⟨_,rfl,_,rfl,jb.mpr ⟨r,lg,n,ts,log,rfl,⟨⟨t,er8,SqT.of et8⟩,eu8,gi⟩,⟨elg,rlg,rn,by omega⟩,P8,λpS H9 t9 st9 =>?_⟩⟩
 refine ⟨_,rfl,hV.mpr ⟨pS,_,n,_,rfl,st9,gr,λlu H10 t10 pu =>?_⟩⟩
 have u10:=t9.trans t10
 refine ⟨_,rfl,_,rfl,fW.mpr ⟨r,pS,n,ts,_,rfl,⟨⟨t,ah u10 er8,SqT.of (u10 _ _ et8)⟩,λu hu=>ah u10 (eu8 u hu),gi⟩,st9.same t10,gr,λH11 t11=>⟨_,rfl,bC ?_⟩⟩⟩
 have u11:=u10.trans t11
 refine ⟨_,rfl,_,rfl,hX.mpr ⟨r,pS,t,n,ts,_,rfl,ah u11 er8,u11 _ _ et8,λu hu=>ah u11 (eu8 u hu),st9.same (t10.trans t11),gr,λH12 t12=>⟨_,rfl,bC ?_⟩⟩⟩
 have u12:=u11.trans t12
 obtain ⟨vs,ev,rv,mv⟩:=pu.same (t11.trans t12)
 have et12:=u12 _ _ et8
 have er12:=ah u12 er8
 have eu12:∀u∈ts,SqT K H12 u.1 [.int u.2.1,.int u.2.2]:=λu hu=>ah u12 (eu8 u hu)
 have lvs:vs.length<=300:=by
  have h1:=kY (runs (s0 n ts) (log.map (·.2))).ts
  have h2:=gr.m1
  have h3:=gr.m3
  have:vs.length=(vs.map (·.2)).length:=by rw[Bg]
  rw[this,mv]
  omega
 refine ⟨_,rfl,lu,rfl,⟨_,SqL.of ev⟩,df (λu:Addr×Int×Int=>V.ref u.1) (λ_=>V.bl true) (λ_=>true) vs (SqL.of ev) (small (by omega)) (λu hu R rr=>rr) (λu hu _ R rr =>?_) λlb nb =>?_⟩
 ·have hu':=rv u hu
  have le:=gr.us u.2
  refine ⟨_,rfl,.inl ⟨rfl,_,SqL.of ev⟩,_,rfl,lu,u.1,vs.map (λv=>(v.1,[v.2.1,v.2.2])),[u.2.1,u.2.2],rfl,rfl,by rw[BP];exact ev,λv hv=>(by obtain ⟨v',hv',rfl⟩:=Bw.mp hv;exact rv v' hv'),hu',?_⟩
  rw[BP,show (Prod.snd ∘ λv:Addr×Int×Int=>(v.1,[v.2.1,v.2.2]))=λv=>[v.2.1,v.2.2] from rfl,zc,mv,kX]
  refine ⟨_,rfl,r,_,1,_,rfl,rfl,er12,rfl,⟨t,_,rfl,et12⟩,_,rfl,t,u.1,ts.map (λv=>(v.1,[v.2.1,v.2.2])),[u.2.1,u.2.2],rfl,rfl,by rw[BP];exact et12,λv hv=>(by obtain ⟨v',hv',rfl⟩:=Bw.mp hv;exact eu12 v' hv'),hu',?_⟩
  rw[BP,show (Prod.snd ∘ λv:Addr×Int×Int=>(v.1,[v.2.1,v.2.2]))=λv=>[v.2.1,v.2.2] from rfl,xw]
  refine ⟨_,_,rfl,rfl,?_⟩
  show R (V.bl (decide (_<=_))) H12
  rw[decide_eq_true (by exact Int.ofNat_le.mpr le)]
  exact rr
 rw[Dl.mpr (λ_ _=>rfl)]
 have eb:(vs.map λ_=>V.bl true)=(Ef vs.length true).map V.bl:=by
  rw[IC]
  exact Jy ..
 rw[eb]
 refine ⟨lb,_,rfl,SqL.of af,?_⟩
 rw[show (Ef vs.length true).all id=true by simp]
 refine ⟨_,rfl,bC ?_⟩
 have u13:=u12.trans (ae nb (.lst ((Ef vs.length true).map V.bl)))
 have st13:=st9.same ((t10.trans (t11.trans t12)).trans (ae nb (.lst ((Ef vs.length true).map V.bl))))
 generalize upd H12 lb (.lst ((Ef vs.length true).map V.bl))=H13 at u13 st13
 have elg13:=u13 _ _ elg
 have rlg13:∀k∈log,RowC K H13 k.1 k.2.cs:=λk hk=>az u13 (rlg k hk)
 refine ⟨_,rfl,lg,rfl,⟨_,SqL.of elg13⟩,df (λk:Addr×Stp=>V.ref k.1) (λk=>V.int (plc k.2)) (λk=>k8 k.2) log (SqL.of elg13) (small (by omega)) (λk hk R rr =>?_) (λk hk _ R rr =>?_) λlc nc =>?_⟩
 ·obtain ⟨w',rs,h,e⟩:=tZ (rlg13 k hk)
  refine ⟨_,rfl,k.1,_,((0:Nat):Int),.str w',rfl,rfl,h,dZ (j:=0) rfl,rfl,_,rfl,?_⟩
  rw[show decide (V.str w'=V.str "loop")=decide (w' = "loop") from decide_eq_decide.mpr ⟨λz=>V.str.inj z,λz=>by rw[z]⟩, <- e]
  exact rr
 ·obtain ⟨w',rs,h,e⟩:=tZ (rlg13 k hk)
  exact ⟨_,rfl,k.1,_,((1:Nat):Int),.int (plc k.2),rfl,rfl,h,dZ (j:=1) rfl,rr⟩
 rw[qr]
 have u14:=u13.trans (ae nc (.lst ((a6 (log.map (·.2))).map V.int)))
 have st14:=st13.same (ae nc (.lst ((a6 (log.map (·.2))).map V.int)))
 have e14:(upd H13 lc (.lst ((a6 (log.map (·.2))).map V.int))) lc=_:=af
 generalize upd H13 lc (.lst ((a6 (log.map (·.2))).map V.int))=H14 at u14 st14 e14
 obtain ⟨a9,b9,c9,ks,g1,g2,g3,g4,g5⟩:=st14
 refine ⟨lc,_,rfl,.inl (SqL.of e14),λl5 o5 n5 pm5 pw5=>⟨_,rfl,pS,_,2,_,rfl,rfl,ah (ae n5 _) g1,rfl,c9,_,rfl,.inr (ah (ae n5 _) g5),λl6 n6=>⟨l5,l6,o5,_,rfl,rfl,SqL.of (ae n6 _ _ _ af),SqL.of af,_,rfl,?_⟩⟩⟩
 have e5:o5=(runs (s0 n ts) (log.map (·.2))).tk:=by
  rw[dP pm5 pw5]
  refine (dP ?_ gr.tkS).symm
  have:=tT (log.map (·.2)) (s0 n ts)
  exact this
 rw[decide_eq_true e5]
 exact bC ⟨⟨_,_,_,_,_,_,_,rfl⟩,(s8.trans u14).trans ((ae n5 _).trans (ae n6 _))⟩
end
open PySem L2
theorem all_mk {l:PySem.W.OpenLaw}{w:Cb}{K:Be}{h:Heap}{mg:Str->Option Bh}{fa:Addr}(X:K.In h)(G:h.Ns Cg mg)(hfa:mg "law" = some (.ref fa))
  (h1:bW K "begin_rules" fL) (h2:bW K "is_at" wO) (h3:bW K "beside_ties" fM) (h4:bW K "ties_between" eO) (h5:bW K "place_word" gQ) (h6:bW K "full_pairs" eQ) (h7:bW K "steps_now" iX) (h8:bW K "can_do" rB) (h9:bW K "way_from" kG) (h10:bW K "other_end" iY) (h11:pO K "joined_tie" eR PJ) (h12:bW K "many_done" iZ) (h13:bW K "step_done" i3) (h14:bW K "rule_step" i4) (h15:bW K "states_along" eU) (h16:bW K "log_states" gR) (h17:bW K "run_log" nM) (h18:bW K "_law_deal" rC) (h19:bW K "_law_take" rD) (h20:bW K "_law_web" wQ) (h21:bW K "_law_log" wR) (h22:bW K "_law_wide" rE) (h23:bW K "_law_either" kH) (h24:bW K "_law_used" rF) (h25:bW K "_law_apart" nN) (h26:bW K "_law_kept" rG) (h27:bW K "law" u7)
  (y_all:C5 K Cg "all" = some none) (y_any:C5 K Cg "any" = some none) (y_enumerate:C5 K Cg "enumerate" = some none) (y_len:C5 K Cg "len" = some none) (y_list:C5 K Cg "list" = some none) (y_max:C5 K Cg "max" = some none) (y_min:C5 K Cg "min" = some none) (y_range:C5 K Cg "range" = some none) (y_reversed:C5 K Cg "reversed" = some none) (y_set:C5 K Cg "set" = some none) (y_sorted:C5 K Cg "sorted" = some none) (y_tuple:C5 K Cg "tuple" = some none)
  : ∃fd:Cr,(∀(s:Bi) (v:Bh),BindsTo s fd ⟨[v],[]⟩ [("script",v)])/\∀base:Heap,K.In base->base.Ns Cg mg->bF l.prog w K mg base CX0 10 fa fd ["script"] (qu K):=by
 obtain ⟨fl,od,an,sl,oc,kV,dc,pm,cd,ct,al,ll,cl,kl⟩:=h27
 have e:=hfa.symm.trans (Iy X G al)
 cases e
 have F27:=qC ll cl kl
 have z_all:=CD X G y_all
 have z_any:=CD X G y_any
 have z_enumerate:=CD X G y_enumerate
 have z_len:=CD X G y_len
 have z_list:=CD X G y_list
 have z_max:=CD X G y_max
 have z_min:=CD X G y_min
 have z_range:=CD X G y_range
 have z_reversed:=CD X G y_reversed
 have z_set:=CD X G y_set
 have z_sorted:=CD X G y_sorted
 have z_tuple:=CD X G y_tuple
 refine ⟨PySem.W.fnOf "law" "law" (bU u7) (bO u7) (aq u7) .none kV dc pm an cd ct,λs v =>.of_eq rfl,λbase kb nb =>?_⟩
 have B:Blt mg:=⟨z_all,z_any,z_enumerate,z_len,z_list,z_max,z_min,z_range,z_reversed,z_set,z_sorted,z_tuple⟩
 have cLTake:=h19.cal l.prog w base X G (λF=>yB F B) λ_ _ _ _ _ _ us hl=>match us,hl with | [_,_],_=>rfl
 have cLWeb:=h20.cal l.prog w base X G (λF=>Ap F B cLTake) λ_ _ _ _ _ _ us hl=>match us,hl with | [_,_],_=>rfl
 have cLWide:=h22.cal l.prog w base X G (λF=>yO F B cLTake) λ_ _ _ _ _ _ us hl=>match us,hl with | [_],_=>rfl
 have cLEither:=h23.cal l.prog w base X G (λF=>vm F B cLWeb cLWide cLTake) λ_ _ _ _ _ _ us hl=>match us,hl with | [_,_,_],_=>rfl
 have cBeginRules:=h1.cal l.prog w base X G (λF=>nX F B) λ_ _ _ _ _ _ us hl=>match us,hl with | [_],_=>rfl
 have cIsAt:=h2.cal l.prog w base X G (λF=>Ak F B) λ_ _ _ _ _ _ us hl=>match us,hl with | [_,_],_=>rfl
 have cBesideTies:=h3.cal l.prog w base X G (λF=>nR F B cIsAt) λ_ _ _ _ _ _ us hl=>match us,hl with | [_,_],_=>rfl
 have cPlaceWord:=h5.cal l.prog w base X G (λF=>pY F B cBesideTies) λ_ _ _ _ _ _ us hl=>match us,hl with | [_,_],_=>rfl
 have cFullPairs:=h6.cal l.prog w base X G (λF=>p8 F B) λ_ _ _ _ _ _ us hl=>match us,hl with | [_],_=>rfl
 have cStepsNow:=h7.cal l.prog w base X G (λF=>rQ F B cPlaceWord cFullPairs) λ_ _ _ _ _ _ us hl=>match us,hl with | [_],_=>rfl
 have cTiesBetween:=h4.cal l.prog w base X G (λF=>lJ F B) λ_ _ _ _ _ _ us hl=>match us,hl with | [_,_,_],_=>rfl
 have cManyDone:=h12.cal l.prog w base X G (λF=>rL F B cTiesBetween) λ_ _ _ _ _ _ us hl=>match us,hl with | [_,_,_],_=>rfl
 have cOtherEnd:=h10.cal l.prog w base X G (λF=>rK F B) λ_ _ _ _ _ _ us hl=>match us,hl with | [_,_],_=>rfl
 have cWayFrom:=h9.cal l.prog w base X G (λF=>va F B) λ_ _ _ _ _ _ us hl=>match us,hl with | [_,_],_=>rfl
 have cJoinedTie:=h11.cal l.prog w base X G (λF=>pX F B cOtherEnd cBesideTies cWayFrom) λ_ _ _ _ _ _ us hl=>match us,hl with | [_,_],_=>rfl
 have cStepDone:=h13.cal l.prog w base X G (λF=>rM F B cManyDone cJoinedTie cIsAt) λ_ _ _ _ _ _ us hl=>match us,hl with | [_,_],_=>rfl
 have cCanDo:=h8.cal l.prog w base X G (λF=>yK F B cPlaceWord cFullPairs) λ_ _ _ _ _ _ us hl=>match us,hl with | [_,_],_=>rfl
 have cRuleStep:=h14.cal l.prog w base X G (λF=>rT F B cStepDone cCanDo) λ_ _ _ _ _ _ us hl=>match us,hl with | [_,_],_=>rfl
 have cLLog:=h21.cal l.prog w base X G (λF=>Aw F B cBeginRules cStepsNow cRuleStep cLTake) λ_ _ _ _ _ _ us hl=>match us,hl with | [_,_,_],_=>rfl
 have cStatesAlong:=h15.cal l.prog w base X G (λF=>lK F B) λ_ _ _ _ _ _ us hl=>match us,hl with | [_,_,_,_],_=>rfl
 have cLogStates:=h16.cal l.prog w base X G (λF=>ql F B cStatesAlong cCanDo cStepDone cBeginRules) λ_ _ _ _ _ _ us hl=>match us,hl with | [_,_],_=>rfl
 have cRunLog:=h17.cal l.prog w base X G (λF=>xq F B cLogStates) λ_ _ _ _ _ _ us hl=>match us,hl with | [_,_],_=>rfl
 have cLUsed:=h24.cal l.prog w base X G (λF=>yP F B) λ_ _ _ _ _ _ us hl=>match us,hl with | [_],_=>rfl
 have cLDeal:=h18.cal l.prog w base X G (λF=>yC F B) λ_ _ _ _ _ _ us hl=>match us,hl with | [_,_],_=>rfl
 have cLApart:=h25.cal l.prog w base X G (λF=>xt F B) λ_ _ _ _ _ _ us hl=>match us,hl with | [_,_],_=>rfl
 have cLKept:=h26.cal l.prog w base X G (λF=>yQ F B) λ_ _ _ _ _ _ us hl=>match us,hl with | [_,_],_=>rfl
 exact Bc F27 B cLEither cLLog cRunLog cLUsed cLDeal cLTake cLApart cLKept
theorem walk {l:PySem.W.OpenLaw}{q:BD}{loose:List Str}{XP:(Str->Option Bh)->Heap->Prop}{YP:Cb->Heap->Prop}{d:DefRec}{K:Params->Be}(hn:l.most=some 63)(hdf:d.params.defaults=[])
  (hY:∀(w:Cb) (h:Heap),YP w h->(K w.params).In h)
  (hT:∀(w:Cb) (h:Heap),YP w h->h.get? PJ=some (PySem.W.tabObj #[]))
  (hK:∀(w:Cb),(K w.params).lookup PJ=none)
  (hL:∀(w:Cb),pO (K w.params) "joined_tie" eR PJ)
  (F:∀(w:Cb) (mg:Str->Option Bh) (fa:Addr) (h:Heap),(K w.params).In h->h.Ns Cg mg->mg d.name=some (.ref fa) →
   ∃fd:Cr,(∀(s:Bi) (u:Bh),BindsTo s fd ⟨[u],[]⟩ [("script",u)])/\∀base:Heap,(K w.params).In base->base.Ns Cg mg->bF l.prog w (K w.params) mg base CX0 10 fa fd ["script"] (qu (K w.params))) :
  PySem.W.WalkO q loose XP YP l.row.toRowW d [] (λf vs=>PySem.call f vs):=by
 refine L2.wy (n:=63) (k:=10) (x := "script") (CX:=λ_=>CX0) (sp:=λw=>qu (K w.params)) (λb=>if b=PJ then some psJ else none) hn (by decide) hdf ⟨rfl,by decide,by decide⟩ hY (λw h Y P' ps e =>?_) F (λw H a ns hl _ hP hS=>⟨a,ns,rfl,hS,hl,hP PJ psJ (if_pos rfl),λ_=>rfl⟩) λ_ _ _ _ _ z=>z
 by_cases c:P'=PJ
 ·subst c
  have e:(if PJ=PJ then some psJ else none)=some ps:=e
  rw[if_pos rfl] at e
  cases e
  obtain ⟨f,cc,od,an,sl,oc,kV,dc,pm,ct,_,_,_,hd,_⟩:=hL w
  exact ⟨⟨cc,hd⟩,hK w,hT w h Y,tD⟩
 ·have e:(if P'=PJ then some psJ else none)=some ps:=e
  rw[if_neg c] at e
  cases e
end K21
def PySem.W.Fast.tw16342127085640853430:Nat:=0
def PySem.W.Fast.tw10256185750376712395:Nat:=0
def PySem.W.Fast.tw18405809498635886521:Nat:=0
def PySem.W.Fast.tw7777789689343515957:Nat:=0
def PySem.W.Fast.tw13219334822185475642:Nat:=0
def PySem.W.Fast.tw10504278638959687524:Nat:=0
def PySem.W.Fast.tw13320175886845823263:Nat:=0
def PySem.W.Fast.tw3872174459278870465:Nat:=0
def PySem.W.Fast.tw1561954037312986506:Nat:=0
def PySem.W.Fast.tw16718650953884475032:Nat:=0
def PySem.W.Fast.tw14500235320558748078:Nat:=0
def PySem.W.Fast.tw10848926530304047517:Nat:=0
def PySem.W.Fast.tw8243524627775023878:Nat:=0
def PySem.W.Fast.tw2420928327965086696:Nat:=0
def PySem.W.Fast.tw3047697897667778268:Nat:=0
def PySem.W.Fast.tw1049900176068761171:Nat:=0
def PySem.W.Fast.tw13131103221740871814:Nat:=0
def PySem.W.Fast.tw4710382772935203774:Nat:=0
def PySem.W.Fast.tw613556515936610116:Nat:=0
def PySem.W.Fast.tw13437705393093199165:Nat:=0
def PySem.W.Fast.tw4246728844569685215:Nat:=0
def PySem.W.Fast.tw5976100840291098014:Nat:=0
def PySem.W.Fast.tw15969362472536320487:Nat:=0
def PySem.W.Fast.tw10884108732170855060:Nat:=0
def PySem.W.Fast.tw5861492274222454393:Nat:=0
def PySem.W.Fast.tw6392503674929470461:Nat:=0
def PySem.W.Fast.tw1146425909857477625:Nat:=0
def PySem.W.Fast.tw7512196248604633678:Nat:=0
def PySem.W.Fast.tw5997236837493669493:Nat:=0
def PySem.W.Fast.tw7435408257421850358:Nat:=0
def PySem.W.Fast.tw4049994377693021281:Nat:=0
def PySem.W.Fast.tw15436481609895293966:Nat:=0
def PySem.W.Fast.tw5983765945588869063:Nat:=0
def PySem.W.Fast.tw16962025252807006020:Nat:=0
def PySem.W.Fast.tw8129493225134869044:Nat:=0
def PySem.W.Fast.tw4609041894673486804:Nat:=0
def PySem.W.Fast.tw8783194649245792897:Nat:=0
def PySem.W.Fast.tw7116803024539957480:Nat:=0
def PySem.W.Fast.tw10747194615712056246:Nat:=0
def PySem.W.Fast.tw5690593444043420084:Nat:=0
def PySem.W.Fast.tw642768883713080552:Nat:=0
def PySem.W.Fast.tw12378341609327914195:Nat:=0
def PySem.W.Fast.tw14469659305464708038:Nat:=0
def PySem.W.Fast.tw12371017152876931796:Nat:=0
def PySem.W.Fast.tw10598535527760394406:Nat:=0
def PySem.W.Fast.tw5503259209456170279:Nat:=0
def PySem.W.Fast.tw8694620979650278399:Nat:=0
def PySem.W.Fast.tw16195887059433269708:Nat:=0
def PySem.W.Fast.tw1741690421788916566:Nat:=0
def PySem.W.Fast.tw14265504529763968437:Nat:=0
def PySem.W.Fast.tw223847863462572372:Nat:=0
def PySem.W.Fast.tw16339738958049071243:Nat:=0
def PySem.W.Fast.tw7763061111466530522:Nat:=0
def PySem.W.Fast.tw3055180377022144733:Nat:=0
def PySem.W.Fast.tw17600137146760539146:Nat:=0
def PySem.W.Fast.tw5058213936931228418:Nat:=0
def PySem.W.Fast.tw9391002490033156194:Nat:=0
def PySem.W.Fast.tw3904812105012910019:Nat:=0
def PySem.W.Fast.tw17860047670193483101:Nat:=0
def PySem.W.Fast.tw9184193327723823211:Nat:=0
def PySem.W.Fast.tw6148307817262757920:Nat:=0
def PySem.W.Fast.tw15450699600349353903:Nat:=0
def PySem.W.Fast.tw7409801424490650784:Nat:=0
def PySem.W.Fast.tw15657256226915847172:Nat:=0
def PySem.W.Fast.tw9123118102429479887:Nat:=0
def PySem.W.Fast.tw16679452008374623501:Nat:=0
def PySem.W.Fast.tw7796615207939910852:Nat:=0
def PySem.W.Fast.tw5655391064462553879:Nat:=0
def PySem.W.Fast.tw14168699289947846367:Nat:=0
def PySem.W.Fast.tw16037435564667413348:Nat:=0
def PySem.W.Fast.tw4283711880347517400:Nat:=0
def PySem.W.Fast.tw5863627125786295195:Nat:=0
def PySem.W.Fast.tw3590136249831176280:Nat:=0
def PySem.W.Fast.tw200683774727529740:Nat:=0
def PySem.W.Fast.tw8869742053839075507:Nat:=0
def PySem.W.Fast.tw2831807177006371532:Nat:=0
def PySem.W.Fast.tw4868756114173126341:Nat:=0
def PySem.W.Fast.tw15641273308976652093:Nat:=0
def PySem.W.Fast.tw18384887951004029478:Nat:=0
def PySem.W.Fast.tw2274696677185726984:Nat:=0
def PySem.W.Fast.tw3729460762577046449:Nat:=0
def PySem.W.Fast.tw6343801463770168410:Nat:=0
def PySem.W.Fast.tw14831654324399844335:Nat:=0
def PySem.W.Fast.tw332529608178772272:Nat:=0
def PySem.W.Fast.tw11573746528869996882:Nat:=0
def PySem.W.Fast.tw456888257029592242:Nat:=0
def PySem.W.Fast.tw8949292475219525655:Nat:=0
def PySem.W.Fast.tw13854720423681605670:Nat:=0
def PySem.W.Fast.tw10629870543872611409:Nat:=0
def PySem.W.Fast.tw5605639796583491033:Nat:=0
def PySem.W.Fast.tw10273243478345014856:Nat:=0
def PySem.W.Fast.tw14111083413490866821:Nat:=0
def PySem.W.Fast.tw8938397728651157631:Nat:=0
def PySem.W.Fast.tw10333989897162925084:Nat:=0
def PySem.W.Fast.tw3057119542221333191:Nat:=0
def PySem.W.Fast.tw16122062457703784280:Nat:=0
def PySem.W.Fast.tw9135641213777405548:Nat:=0
def PySem.W.Fast.tw10694120216430135831:Nat:=0
def PySem.W.Fast.tw2174739054371746920:Nat:=0
def PySem.W.Fast.tw11212394007760299714:Nat:=0
def PySem.W.Fast.tw2803409639326320302:Nat:=0
def PySem.W.Fast.tw9904300878707959061:Nat:=0
def PySem.W.Fast.tw5084721787946992843:Nat:=0
def PySem.W.Fast.tw1202730168105804712:Nat:=0
def PySem.W.Fast.tw7268476160054678948:Nat:=0
def PySem.W.Fast.tw12696993486921675021:Nat:=0
def PySem.W.Fast.tw10528278292106942595:Nat:=0
def PySem.W.Fast.tw13731367756135090741:Nat:=0
def PySem.W.Fast.tw15992323681764025368:Nat:=0
def PySem.W.Fast.tw14556157752159731739:Nat:=0
def PySem.W.Fast.tw7464503404219363622:Nat:=0
def PySem.W.Fast.tw8566507095104596856:Nat:=0
def PySem.W.Fast.tw15697469508406239069:Nat:=0
def PySem.W.Fast.tw1564005248011117984:Nat:=0
def PySem.W.Fast.tw11296418111811896571:Nat:=0
def PySem.W.Fast.tw17147957596126778183:Nat:=0
def PySem.W.Fast.tw2922183372331373422:Nat:=0
open PySem PySem.W PyProof.Rows
set_option maxRecDepth 100000 in
set_option maxHeartbeats 0 in
theorem PySem.Challenge.cw_ringfell_k21_whole_ways_walked_holds : PySem.Challenge.rw_ringfell_k21_whole_ways_walked.Holds := by
 w_on;o_law;k_head;(case hw=>w_witness2)
 k_fill
 refine K21.walk (l:=PySem.Challenge.rw_ringfell_k21_whole_ways_walked) rfl rfl (λw h Y=>PySem.W.km_in_of Y) (λw h Y=>PySem.W.km_tabs_of Y K21.PJ (by unfold K21.PJ;simp)) ?hK ?hL ?F
 case hK =>
  intro w
  kernel_rfl
 case hL =>
  intro w
  refine' L2.pO.mk ?a ?l ?c ?d ?k
  case a=>k_is
  case l=>k_is
  case c=>k_is
  case d=>first | kernel_rfl | exact rfl | decide +kernel
  case k=>k_is
 case F =>
  intro w mg fa h KX G hmg
  refine' K21.all_mk KX G hmg ?_ ?_ ?_ ?_ ?_ ?_ ?_ ?_ ?_ ?_ ?_ ?_ ?_ ?_ ?_ ?_ ?_ ?_ ?_ ?_ ?_ ?_ ?_ ?_ ?_ ?_ ?_ ?_ ?_ ?_ ?_ ?_ ?_ ?_ ?_ ?_ ?_ ?_ ?_
  any_goals k_is
  any_goals (with_reducible refine' L2.pO.mk ?a ?l ?c ?d ?k;(case a=>k_is);(case l=>k_is);(case c=>k_is);(case d=>first | kernel_rfl | exact rfl | decide +kernel);(case k=>k_is))
  any_goals (refine' L2.bW.mk ?a ?l ?c ?k;(case a=>k_is);(case l=>k_is);(case c=>k_is);(case k=>k_is))
  all_goals kernel_rfl
