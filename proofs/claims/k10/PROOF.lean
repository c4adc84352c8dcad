import PyProof.Rows.All
import Wide.All
import OpenK.AllK
import Wide.FinOn
import Lean
import PySem.Challenge.RW_patchkin_k10_whole_recorded_stands
set_option Elab.async false
set_option linter.all false
set_option maxRecDepth 100000
set_option maxHeartbeats 0
theorem O7:type_of% @List.length_map:=@List.length_map
theorem UR:type_of% @List.getElem?_eq_getElem:=@List.getElem?_eq_getElem
theorem UW:type_of% @PySem.wpAny_bind:=@PySem.wpAny_bind
theorem XT:type_of% @List.mem_singleton:=@List.mem_singleton
theorem XW:type_of% @Nat.le_refl:=@Nat.le_refl
theorem XZ:type_of% @List.mem_of_getElem?:=@List.mem_of_getElem?
theorem X0:type_of% @decide_eq_true:=@decide_eq_true
theorem YO:type_of% @List.length_append:=@List.length_append
theorem YS:type_of% @List.filter_cons_of_pos:=@List.filter_cons_of_pos
theorem aaf:type_of% @List.mem_map_of_mem:=@List.mem_map_of_mem
theorem aah:type_of% @List.mem_cons:=@List.mem_cons
theorem aai:type_of% @List.length_cons:=@List.length_cons
theorem aaj:type_of% @List.filter_cons_of_neg:=@List.filter_cons_of_neg
theorem aal:type_of% @List.mem_append:=@List.mem_append
theorem aam:type_of% @List.mem_cons_of_mem:=@List.mem_cons_of_mem
theorem aan:type_of% @Nat.le_trans:=@Nat.le_trans
theorem aao:type_of% @List.getElem?_map:=@List.getElem?_map
theorem aap:type_of% @List.mem_filter:=@List.mem_filter
theorem aaq:type_of% @decide_eq_false:=@decide_eq_false
theorem aav:type_of% @PySem.Paired.length:=@PySem.Paired.length
theorem aaw:type_of% @if_neg:=@if_neg
theorem aax:type_of% @Bool.false_ne_true:=@Bool.false_ne_true
theorem aay:type_of% @if_pos:=@if_pos
theorem aaz:type_of% @PySem.wpAny_pure:=@PySem.wpAny_pure
theorem aaA:type_of% @List.size_toArray:=@List.size_toArray
theorem aaB:type_of% @of_decide_eq_true:=@of_decide_eq_true
theorem aaC:type_of% @PySem.Heap.get?_push_of_some:=@PySem.Heap.get?_push_of_some
theorem aaD:type_of% @List.mem_cons_self:=@List.mem_cons_self
theorem aaE:type_of% @List.take_length:=@List.take_length
theorem aaF:type_of% @Option.some.inj:=@Option.some.inj
theorem aaG:type_of% @PySem.W.mg_of:=@PySem.W.mg_of
theorem aaH:type_of% @List.map_append:=@List.map_append
theorem aaI:type_of% @List.filter_append:=@List.filter_append
theorem aaJ:type_of% @List.mem_append_left:=@List.mem_append_left
theorem aaK:type_of% @PySem.Heap.lt_size:=@PySem.Heap.lt_size
theorem aaL:type_of% @List.map_cons:=@List.map_cons
theorem aaM:type_of% @PySem.boot_len:=@PySem.boot_len
theorem aaN:type_of% @PySem.PassesOwn.never:=@PySem.PassesOwn.never
theorem aaO:type_of% @PySem.Heap.get?_push_size:=@PySem.Heap.get?_push_size
theorem aaP:type_of% @List.length_take:=@List.length_take
theorem aaQ:type_of% @PySem.sizeLine_eq:=@PySem.sizeLine_eq
theorem aaR:type_of% @List.length_eq_zero_iff:=@List.length_eq_zero_iff
theorem aaS:type_of% @Nat.lt_of_lt_of_le:=@Nat.lt_of_lt_of_le
theorem aaT:type_of% @decide_eq_true_iff:=@decide_eq_true_iff
theorem aaU:type_of% @List.mem_iff_getElem?:=@List.mem_iff_getElem?
theorem aaV:type_of% @List.Sublist.refl:=@List.Sublist.refl
theorem aaW:type_of% @List.flatMap_cons:=@List.flatMap_cons
theorem aaX:type_of% @List.mem_append_right:=@List.mem_append_right
theorem aaY:type_of% @List.length_filter_le:=@List.length_filter_le
theorem aaZ:type_of% @Nat.zero_le:=@Nat.zero_le
theorem aa0:type_of% @List.append_nil:=@List.append_nil
theorem aa1:type_of% @Nat.ne_of_lt:=@Nat.ne_of_lt
theorem aa2:type_of% @PySem.F.plainAttrs_list:=@PySem.F.plainAttrs_list
theorem aa3:type_of% @List.filter_nil:=@List.filter_nil
theorem aa4:type_of% @Array.length_toList:=@Array.length_toList
theorem aa5:type_of% @List.append_assoc:=@List.append_assoc
theorem aa6:type_of% @List.filter_sublist:=@List.filter_sublist
theorem aa7:type_of% @List.drop_eq_getElem_cons:=@List.drop_eq_getElem_cons
theorem aa8:type_of% @List.pairwise_iff_getElem:=@List.pairwise_iff_getElem
theorem aa9:type_of% @List.nodup_cons:=@List.nodup_cons
theorem aa_:type_of% @Bool.false_eq_true:=@Bool.false_eq_true
theorem aba:type_of% @PySem.F.slot_list_append:=@PySem.F.slot_list_append
theorem abb:type_of% @PySem.F.type_list_append:=@PySem.F.type_list_append
theorem abc:type_of% @PySem.W.mg_none_of:=@PySem.W.mg_none_of
theorem abd:type_of% @List.flatMap_append:=@List.flatMap_append
theorem abe:type_of% @congrArg:=@congrArg
theorem abf:type_of% @PyProof.Rows.boot_isinstance:=@PyProof.Rows.boot_isinstance
theorem abg:type_of% @Array.getElem?_eq_getElem:=@Array.getElem?_eq_getElem
theorem abh:type_of% @PyProof.Rows.callWith_type1:=@PyProof.Rows.callWith_type1
theorem abi:type_of% @List.nodup_append:=@List.nodup_append
theorem abj:type_of% @List.mem_flatMap:=@List.mem_flatMap
theorem abk:type_of% @List.sublist_append_right:=@List.sublist_append_right
theorem abl:type_of% @List.getElem?_append_right:=@List.getElem?_append_right
theorem abn:type_of% @Bool.and_eq_true:=@Bool.and_eq_true
theorem abo:type_of% @Bool.eq_iff_iff:=@Bool.eq_iff_iff
theorem abp:type_of% @PySem.Heap.get?_update_self:=@PySem.Heap.get?_update_self
theorem abq:type_of% @List.replicate_succ:=@List.replicate_succ
theorem abr:type_of% @Array.getElem?_toList:=@Array.getElem?_toList
theorem abt:type_of% @List.mem_range:=@List.mem_range
theorem abu:type_of% @List.nodup_nil:=@List.nodup_nil
theorem abv:type_of% @Nat.lt_irrefl:=@Nat.lt_irrefl
theorem abw:type_of% @PySem.wpAny_dictEntries:=@PySem.wpAny_dictEntries
theorem abx:type_of% @List.mem_filterMap:=@List.mem_filterMap
theorem aby:type_of% @PySem.Calls.spliced_cons:=@PySem.Calls.spliced_cons
theorem abz:type_of% @Nat.lt_of_le_of_lt:=@Nat.lt_of_le_of_lt
theorem abA:type_of% @List.getElem?_set_self:=@List.getElem?_set_self
theorem abB:type_of% @PySem.Calls.callWith_builtin:=@PySem.Calls.callWith_builtin
theorem abC:type_of% @PySem.W.kia_one:=@PySem.W.kia_one
theorem abD:type_of% @List.all_eq_true:=@List.all_eq_true
theorem abE:type_of% @List.filterMap_cons:=@List.filterMap_cons
theorem abF:type_of% @List.length_reverse:=@List.length_reverse
theorem abG:type_of% @PySem.Heap.SameBut.update:=@PySem.Heap.SameBut.update
theorem abH:type_of% @Int.toNat_of_nonneg:=@Int.toNat_of_nonneg
theorem abI:type_of% @PySem.F.slot_dict_keyiterator_next:=@PySem.F.slot_dict_keyiterator_next
theorem abJ:type_of% @List.getElem?_set_ne:=@List.getElem?_set_ne
theorem abK:type_of% @PySem.wpAny_mono:=@PySem.wpAny_mono
theorem abL:type_of% @PySem.Calls.evalArgs_plain:=@PySem.Calls.evalArgs_plain
theorem abM:type_of% @List.sublist_cons_self:=@List.sublist_cons_self
theorem abN:type_of% @PySem.wpAny_truthy_bool:=@PySem.wpAny_truthy_bool
theorem abO:type_of% @PySem.Calls.spliced_nil:=@PySem.Calls.spliced_nil
theorem abP:type_of% @PySem.mem_of_lookup:=@PySem.mem_of_lookup
theorem abQ:type_of% @Int.toNat_natCast:=@Int.toNat_natCast
theorem abR:type_of% @List.length_range:=@List.length_range
theorem abS:type_of% @List.getElem?_inj:=@List.getElem?_inj
theorem abT:type_of% @PySem.wpAny_holding:=@PySem.wpAny_holding
theorem abU:type_of% @List.getElem?_append_left:=@List.getElem?_append_left
theorem abV:type_of% @List.take_zero:=@List.take_zero
theorem abW:type_of% @List.take_append_drop:=@List.take_append_drop
theorem abX:type_of% @List.filterMap_append:=@List.filterMap_append
theorem abY:type_of% @PySem.tupleKind_room_in1:=@PySem.tupleKind_room_in1
theorem abZ:type_of% @PySem.wpAny_typeNameOfWhole_keyiter:=@PySem.wpAny_typeNameOfWhole_keyiter
theorem ab0:type_of% @List.flatMap_nil:=@List.flatMap_nil
theorem ab1:type_of% @Ne.symm:=@Ne.symm
theorem ab2:type_of% @PySem.F.plainAttrs_dict:=@PySem.F.plainAttrs_dict
theorem ab3:type_of% @Bool.eq_false_iff:=@Bool.eq_false_iff
theorem ab4:type_of% @List.pairwise_map:=@List.pairwise_map
theorem ab5:type_of% @beq_eq_false_iff_ne:=@beq_eq_false_iff_ne
theorem ab6:type_of% @Option.map_some:=@Option.map_some
theorem ab7:type_of% @List.map_congr_left:=@List.map_congr_left
theorem ab8:type_of% @PySem.Heap.get?_update_other:=@PySem.Heap.get?_update_other
theorem ab9:type_of% @PyProof.Rows.boot_list:=@PyProof.Rows.boot_list
theorem ab_:type_of% @List.filter_cons:=@List.filter_cons
theorem aca:type_of% @PySem.wpAny_call_entry:=@PySem.wpAny_call_entry
theorem acb:type_of% @List.getElem?_take:=@List.getElem?_take
theorem acd:type_of% @if_false:=@if_false
theorem ace:type_of% @PySem.wpAny_passesOwn:=@PySem.wpAny_passesOwn
theorem acf:type_of% @List.flatten_cons:=@List.flatten_cons
theorem acg:type_of% @decide_eq_true_eq:=@decide_eq_true_eq
theorem ach:type_of% @PySem.F.slot_dict_update:=@PySem.F.slot_dict_update
theorem aci:type_of% @List.length_filterMap_le:=@List.length_filterMap_le
theorem acj:type_of% @PySem.Heap.get?_push_ne:=@PySem.Heap.get?_push_ne
theorem ack:type_of% @List.getElem?_range:=@List.getElem?_range
theorem acm:type_of% @List.lookup_cons:=@List.lookup_cons
theorem acn:type_of% @List.not_mem_nil:=@List.not_mem_nil
theorem aco:type_of% @List.getElem_mem:=@List.getElem_mem
theorem acp:type_of% @beq_iff_eq:=@beq_iff_eq
theorem acq:type_of% @List.getElem?_drop:=@List.getElem?_drop
theorem acr:type_of% @List.Nodup.sublist:=@List.Nodup.sublist
theorem acs:type_of% @List.length_set:=@List.length_set
theorem acu:type_of% @List.find?_cons:=@List.find?_cons
theorem acv:type_of% @PySem.F.slot_dict_pop:=@PySem.F.slot_dict_pop
theorem acw:type_of% @PySem.wpAny_specialOf:=@PySem.wpAny_specialOf
theorem acx:type_of% @PySem.wpAny_ite_split:=@PySem.wpAny_ite_split
theorem acy:type_of% @PySem.size_of_entries:=@PySem.size_of_entries
theorem acz:type_of% @List.range_succ:=@List.range_succ
theorem acA:type_of% @List.take_sublist:=@List.take_sublist
theorem acB:type_of% @List.any_cons:=@List.any_cons
theorem acC:type_of% @bne_self_eq_false:=@bne_self_eq_false
theorem acD:type_of% @List.reverse_cons:=@List.reverse_cons
theorem acE:type_of% @Nat.lt_succ_self:=@Nat.lt_succ_self
theorem acF:type_of% @List.range'_succ:=@List.range'_succ
theorem acG:type_of% @List.drop_length:=@List.drop_length
theorem acH:type_of% @Sum.inr.inj:=@Sum.inr.inj
theorem acI:type_of% @PySem.sizeLine_eq:=@PySem.sizeLine_eq
theorem acJ:type_of% @Bool.or_eq_true:=@Bool.or_eq_true
theorem acK:type_of% @Nat.le_of_lt:=@Nat.le_of_lt
abbrev Qqq:=PySem.Value->PySem.Shared->Prop
abbrev Qqz:=List (PySem.Addr×PySem.Obj)
abbrev Qqx:=PySem.Str->Option PySem.Value
abbrev Qqy:=PySem.W.Frag
namespace L2
open PySem PySem.Spec PyProof.Rows
abbrev Key:=Sum Int Str
def zq:Key->Value->Bool
 | .inl k,v=>Value.isInt k v
 | .inr x,v=>Value.isStrOf x v
def Xg(w:World):Key->Int
 | .inl k=>hashInt k
 | .inr x=>hashStr w x
theorem jn:∀{k:Key} {v:Value},zq k v=true->(∃i t,k=Sum.inl i/\v=Value.int i t)\/(∃x t,k=Sum.inr x/\v=Value.str x t)
 | .inl i,v,h=>by
  obtain⟨t,e⟩:=Value.isInt_shape (k:=i) (v:=v) h
  exact .inl ⟨i,t,rfl,e⟩
 | .inr x,v,h=>by
  obtain⟨t,e⟩:=Value.isStrOf_shape (x:=x) (v:=v) h
  exact .inr ⟨x,t,rfl,e⟩
theorem Ie(i:Int)(t:Tok):zq (.inl i) (.int i t)=true:=by simp[zq,Value.isInt]
theorem Ig(x:Str)(t:Tok):zq (.inr x) (.str x t)=true:=by simp[zq,Value.isStrOf]
theorem Px(a b:Int):decide ((Sum.inl a:Key)=Sum.inl b)=(a ==b):=by
 by_cases e:a=b
 ·subst e;simp
 ·have h:¬(Sum.inl a:Key)=Sum.inl b:=λq=>e (Sum.inl.inj q)
  rw[aaq h]
  exact(ab5.mpr e).symm
theorem Py(a b:Str):decide ((Sum.inr a:Key)=Sum.inr b)=decide (a=b):=by
 by_cases e:a=b
 ·subst e;simp
 ·have h:¬(Sum.inr a:Key)=Sum.inr b:=λq=>e (acH q)
  rw[aaq h,aaq e]
theorem Pz(a:Int)(b:Str):decide ((Sum.inl a:Key)=Sum.inr b)=false:=aaq (λq=>nomatch q)
theorem PB(a:Str)(b:Int):decide ((Sum.inr a:Key)=Sum.inl b)=false:=aaq (λq=>nomatch q)
def jc(prog:Program)(w:World):PySem.KeyKind prog w Key where
 is:=zq
 hash:=Xg w
 inj:=λv a b ha hb=>by
  rcases jn ha with⟨i,t,rfl,rfl⟩|⟨x,t,rfl,rfl⟩
  ·rcases jn hb with⟨j,u,rfl,e⟩|⟨y,u,rfl,e⟩
   ·injection e with e1 _;rw[e1]
   ·exact nomatch e
  ·rcases jn hb with⟨j,u,rfl,e⟩|⟨y,u,rfl,e⟩
   ·exact nomatch e
   ·injection e with e1 _;rw[e1]
 byValue:=λk v h=>by
  rcases jn h with⟨i,t,rfl,rfl⟩|⟨x,t,rfl,rfl⟩<;>rfl
 pyHash:=λhv h=>by
  rcases jn hv with⟨i,t,rfl,rfl⟩|⟨x,t,rfl,rfl⟩
  ·exact wpAny_pyHash_int h
  ·exact wpAny_pyHash_str h
 eqBool:=λhu hv h=>by
  rcases jn hu with⟨i,t,rfl,rfl⟩|⟨x,t,rfl,rfl⟩
  ·rcases jn hv with⟨j,u,rfl,rfl⟩|⟨y,u,rfl,rfl⟩
   ·rw[Px] at h;exact wpAny_eqBool_int h
   ·rw[Pz] at h;exact SeqAt.EqAt.int_str i t y u _ _ _ _ h
  ·rcases jn hv with⟨j,u,rfl,rfl⟩|⟨y,u,rfl,rfl⟩
   ·rw[PB] at h;exact SeqAt.EqAt.str_int x t j u _ _ _ _ h
   ·rw[Py] at h;exact wpAny_eqBool_str h
 «strs»:=λk x t v h=>by
  rcases jn h with⟨i,u,rfl,e⟩|⟨y,u,rfl,e⟩
  ·exact nomatch e
  ·injection e with e1 _
   subst e1
   cases v<;>rfl
theorem D6(prog:Program)(w:World)(i:Int)(t:Tok):(jc prog w).is (.inl i) (.int i t)=true:=Ie i t
theorem D7(prog:Program)(w:World)(x:Str)(t:Tok):(jc prog w).is (.inr x) (.str x t)=true:=Ig x t
inductive V where
 | jb|bl (b:Bool)|int (i:Int)|str (x:Str)|D8 (b:Array UInt8)|Ml (b:UInt64)|ref (a:Addr)|ty (n:String)
 deriving DecidableEq
def RelV:V->Value->Prop
 | .jb,u=>u=Value.none
 | .bl b,u=>u=Value.bool b
 | .int i,u=>∃t,u=Value.int i t
 | .str x,u=>∃t,u=Value.str x t
 | .D8 b,u=>∃t,u=Value.bytes b t
 | .Ml b,u=>∃t,u=Value.float b t
 | .ref a,u=>u=Value.ref a
 | .ty n,u=>u=Value.type n
abbrev Vals:List V->List Value->Prop:=Paired RelV
theorem Vals.length{xs:List V}{us:List Value}(r:Vals xs us):xs.length=us.length:=aav r
theorem Vals.get:∀{xs:List V} {us:List Value} {i:Nat} {x:V},Vals xs us->xs[i]?=some x->∃u,us[i]?=some u/\RelV x u
 | _,_,_,_,.nil,e=>by simp at e
 | _,_,0,_,.cons r _,e=>by simp at e;subst e;exact⟨_,rfl,r⟩
 | _,_,i+1,x,.cons _ t,e=>by
  obtain⟨u,h1,h2⟩:=Vals.get (i:=i) (x:=x) t (by simpa using e)
  exact⟨u,by simpa using h1,h2⟩
theorem Vals.set{x:V}{u:Value}(r:RelV x u):∀{xs:List V} {us:List Value} (i:Nat),Vals xs us->Vals (xs.set i x) (us.set i u)
 | _,_,_,.nil=>.nil
 | _,_,0,.cons _ t=>.cons r t
 | _,_,i+1,.cons q t=>.cons q (Vals.set r i t)
theorem Vals.append:∀{xs ys:List V} {us ws:List Value},Vals xs us->Vals ys ws->Vals (xs++ys) (us++ws)
 | _,_,_,_,.nil,s=>s
 | _,_,_,_,.cons r t,s=>.cons r (Vals.append t s)
theorem Vals.take:∀{xs:List V} {us:List Value} (n:Nat),Vals xs us->Vals (xs.take n) (us.take n)
 | _,_,0,_=>.nil
 | _,_,_+1,.nil=>.nil
 | _,_,n+1,.cons r t=>.cons r (Vals.take n t)
theorem Vals.drop:∀{xs:List V} {us:List Value} (n:Nat),Vals xs us->Vals (xs.drop n) (us.drop n)
 | _,_,0,r=>r
 | _,_,_+1,.nil=>.nil
 | _,_,n+1,.cons _ t=>Vals.drop n t
def pz:Option V->Option Value->Prop
 | some v,some u=>RelV v u
 | none,none=>True
 | _,_=>False
def KV{Z:Type}:List (Z×V)->List (Z×Value)->Prop:=Paired λ(p:Z×V) (q:Z×Value)=>p.1=q.1/\RelV p.2 q.2
noncomputable def kV:Key->V
 | .inl i=>.int i
 | .inr x=>.str x
inductive HO where
 | lst (xs:List V)
 | tup (xs:List V)
 | dK (kvs:List (Key×V))|dT (kvs:List (List Key×V))
 | set (S:Int->Bool) (n:Nat)
 | ins (C dx:Addr) (fs:List (Str×V))
 | own (x:Addr)
 | xd (fs:List (Str×V))
 | met (f x:Addr)
 | V_ (lo hi:Int)
 | nj (o:Obj) (u:HO)
 | Mm (ps:Array Value)
 | ext (Z:Heap->Prop)
abbrev Hp:=Addr->Option HO
def upd(H:Hp)(a:Addr)(o:HO):Hp:=λb=>if b=a then some o else H b
theorem b_{H:Hp}{a:Addr}{o:HO}:upd H a o a=some o:=by unfold upd;rw[aay rfl]
theorem d_{H:Hp}{a b:Addr}{o:HO}(h:b≠a):upd H a o b=H b:=by unfold upd;rw[aaw h]
theorem Mz{H:Hp}{a:Addr}{o u:HO}:upd (upd H a o) a u=upd H a u:=by
 funext b;unfold upd;split<;>rfl
theorem iR{H:Hp}{a b:Addr}{o u:HO}(h:H a=some o)(h':H b=some u)(d:o≠u):a≠b:=by
 intro e;subst e;rw[h] at h';exact d (aaF h')
theorem gr{H:Hp}{a b:Addr}{o:HO}(h:H a=some o)(h':H b=none):a≠b:=by
 intro e;subst e;rw[h] at h';cases h'
section
variable(P:Program)(w:World)
def iZ(H:Hp)(h:Heap)(a:Addr):HO->Prop
 | .lst xs=>xs.length<=sizeLine/\∃(g_:List Value)(n:Nat),Vals xs g_/\h.get? a=some {cls:=.type "list",data:=.seq g_.toArray n}
 | .tup xs=>xs.length<=sizeLine/\∃g_:List Value,Vals xs g_/\IsTup h a g_.toArray
 | .dK kvs=>kvs.length<=sizeLine/\(a ==sysModules)=false/\∃vs,KV kvs vs/\h.DictOf (jc P w) a vs
 | .dT kvs=>kvs.length<=sizeLine/\(a ==sysModules)=false/\∃xs:List (List Key×Addr×Value),
  Paired (λ(p:List Key×V) (q:List Key×Addr×Value)=>p.1=q.1/\H q.2.1=some (.tup (p.1.map kV))/\RelV p.2 q.2.2) kvs xs/\
  ∃o es ep,h.get? a=some o/\o.ExactDict/\o.data=.dict es ep/\es.toList=xs.map (entryOfKey (tupleKind (jc P w)))/\(xs.map (·.1)).Nodup
 | .set S n=>h.SetOf (intKind P w) a S n
 | .ins C dx fs=>H dx=some (.own a)/\fs.length<=1000/\dx≠a/\h.get? a=some (W.instObj C dx)/\
  ∃mA,h.Ns1 dx mA/\(∀f,pz (fs.lookup f) (mA f))/\PySem.Within mA (fs.map (·.1))
 | .own _=>∃o,h.get? a=some o
 | .xd fs=>∃mA,h.Ns1 a mA/\∀f,pz (fs.lookup f) (mA f)
 | .V_ lo hi=>∃t u v,h.get? a=some {cls:=.type "range",data:=.fields #[.int lo t,.int hi u,.int 1 v]}
 | .nj o u=>h.get? a=some o/\iZ H h a u
 | .Mm ps=>h.get? a=some {cls:=.none,data:=.fields ps}
 | .met f x=>h.get? a=some (W.methodObj (.ref f) (.ref x))
 | .ext Z=>Z h/\(∃o,h.get? a=some o)/\∀h1 h2:Heap,Z h1->(∀o,h1.get? a=some o->h2.get? a=some o)->Z h2
def rA(H:Hp)(h:Heap):Prop:=∀a o,H a=some o->iZ P w H h a o
end
section
variable{P:Program}{w:World}{H H':Hp}{h h':Heap}{a:Addr}{o:HO}
theorem iZ.lt(x:iZ P w H h a o):a<h.objs.size:=by
 cases o with
 | lst xs=>obtain⟨_,_,_,_,e⟩:=x;exact aaK e
 | tup xs=>obtain⟨_,_,_,p⟩:=x;exact p.lt
 | dK kvs=>obtain⟨_,_,_,_,o,_,_,e,_⟩:=x;exact aaK e
 | dT kvs=>obtain⟨_,_,_,_,o,_,_,e,_⟩:=x;exact aaK e
 | set S n=>obtain⟨o,_,_,_,e,_⟩:=x;exact aaK e
 | ins C dx fs=>obtain⟨_,_,_,e,_⟩:=x;exact aaK e
 | own y=>obtain⟨_,e⟩:=x;exact aaK e
 | xd fs=>obtain⟨_,⟨_,_,_,e,_⟩,_⟩:=x;exact aaK e
 | V_ lo hi=>obtain⟨_,_,_,e⟩:=x;exact aaK e
 | nj ob u=>obtain⟨e,_⟩:=x;exact aaK e
 | Mm ps=>exact aaK (show h.get? a=some _ from x)
 | met f y=>exact aaK (show h.get? a=some _ from x)
 | ext Z=>obtain⟨_,⟨_,e⟩,_⟩:=x;exact aaK e
theorem Paired.i3{Z Y:Type}{F G:Z->Y->Prop}:∀{l1:List Z} {l2:List Y},Paired F l1 l2->(∀a b,F a b->G a b)->Paired G l1 l2
 | _,_,.nil,_=>.nil
 | _,_,.cons r t,f=>.cons (f _ _ r) (Paired.i3 t f)
theorem iZ.zr(x:iZ P w H h a o)(k:∀b u,(b=a\/H b=some (.own a))->h.get? b=some u->h'.get? b=some u)
  (ho:∀b,H b=some (.own a)->H' b=some (.own a)) (ht:∀b xs,H b=some (.tup xs)->H' b=some (.tup xs)):iZ P w H' h' a o:=by
 induction o with
 | lst xs=>obtain⟨z,g_,n,r,e⟩:=x;exact⟨z,g_,n,r,k _ _ (.inl rfl) e⟩
 | tup xs=>obtain⟨z,g_,r,ob,e,c⟩:=x;exact⟨z,g_,r,ob,k _ _ (.inl rfl) e,c⟩
 | dK kvs=>obtain⟨z,y,vs,r,ob,es,ep,e,c⟩:=x;exact⟨z,y,vs,r,ob,es,ep,k _ _ (.inl rfl) e,c⟩
 | dT kvs=>
  obtain⟨z,y,xs,r,ob,es,ep,e,c⟩:=x
  exact⟨z,y,xs,Paired.i3 r λp q z=>⟨z.1,ht _ _ z.2.1,z.2.2⟩,ob,es,ep,k _ _ (.inl rfl) e,c⟩
 | set S n=>obtain⟨ob,es,ep,t,e,c⟩:=x;exact⟨ob,es,ep,t,k _ _ (.inl rfl) e,c⟩
 | ins C dx fs=>
  obtain⟨d,z,ne,e,mA,⟨od,es,ep,e2,c⟩,r⟩:=x
  exact⟨ho _ d,z,ne,k _ _ (.inl rfl) e,mA,⟨od,es,ep,k _ _ (.inr d) e2,c⟩,r⟩
 | own y=>obtain⟨ob,e⟩:=x;exact⟨ob,k _ _ (.inl rfl) e⟩
 | xd fs=>obtain⟨mA,⟨od,es,ep,e,c⟩,r⟩:=x;exact⟨mA,⟨od,es,ep,k _ _ (.inl rfl) e,c⟩,r⟩
 | V_ lo hi=>obtain⟨t,u,v,e⟩:=x;exact⟨t,u,v,k _ _ (.inl rfl) e⟩
 | nj ob u ih=>obtain⟨e,q⟩:=x;exact⟨k _ _ (.inl rfl) e,ih q⟩
 | Mm ps=>
  have e:h.get? a=some {cls:=.none,data:=.fields ps}:=x
  show h'.get? a=some {cls:=.none,data:=.fields ps}
  exact k a _ (.inl rfl) e
 | met f y=>
  have e:h.get? a=some (W.methodObj (.ref f) (.ref y)):=x
  show h'.get? a=some (W.methodObj (.ref f) (.ref y))
  exact k a _ (.inl rfl) e
 | ext Z=>obtain⟨p,⟨o,e⟩,st⟩:=x;exact⟨st _ _ p λo q=>k _ _ (.inl rfl) q,⟨o,k _ _ (.inl rfl) e⟩,st⟩
theorem rA.lt(x:rA P w H h)(e:H a=some o):a<h.objs.size:=(x a o e).lt
theorem rA.fresh(x:rA P w H h)(e:h.objs.size<=a):H a=none:=by
 cases q:H a with
 | none=>rfl
 | some u=>exact absurd (aaS (x.lt q) e) (abv _)
theorem rA.kept(x:rA P w H h)(k:∀b u,h.get? b=some u->h'.get? b=some u):rA P w H h':=λa o e=>
 (x a o e).zr (λb u _ q=>k b u q) (λ_ q=>q) λ_ _ q=>q
theorem rA.laid(x:rA P w H h)(k:∀b u,h.get? b=some u->h'.get? b=some u)(hp:h.objs.size<=a)(new:iZ P w (upd H a o) h' a o):rA P w (upd H a o) h':=λb u e=>by
 have hn:=x.fresh hp
 by_cases hb:b=a
 ·subst hb;rw[b_] at e;cases e;exact new
 ·rw[d_ hb] at e
  exact(x b u e).zr (λc v _ q=>k c v q) (λc q=>by rw[d_ (gr q hn)];exact q) λc xs q=>by rw[d_ (gr q hn)];exact q
end
def Rd(H:Hp)(a:Addr)(u:HO):Prop:=H a=some u\/∃o,H a=some (.nj o u)
theorem Rd.ok{P:Program}{w:World}{H:Hp}{h:Heap}{a:Addr}{u:HO}(r:Rd H a u)(x:rA P w H h):iZ P w H h a u:=by
 rcases r with r|⟨o,r⟩
 ·exact x a u r
 ·obtain⟨_,q⟩:=x a _ r
  exact q
def Ou:Option HO->Prop
 | some (.lst _)=>True
 | some (.dK _)=>True
 | some (.dT _)=>True
 | some (.set _ _)=>True
 | some (.ins _ _ _)=>True
 | some (.ext _)=>True
 | _=>False
section
variable{P:Program}{w:World}{H:Hp}{h h':Heap}{x e:Addr}{o':HO}
theorem rA.write(ok:rA P w H h)(mu:Ou (H x))(he:e=x\/H e=some (.own x))(k:∀b u,b≠e->h.get? b=some u->h'.get? b=some u)(LK:∃u,h'.get? e=some u)
  (new:iZ P w (upd H x o') h' x o'):rA P w (upd H x o') h':=λb u q=>by
 have Ur:∀c y,H c=some (.own y)->c≠x:=λc y r z=>by subst z;rw[r] at mu;exact mu
 have Yl:∀c xs,H c=some (.tup xs)->c≠x:=λc xs r z=>by subst z;rw[r] at mu;exact mu
 by_cases hb:b=x
 ·subst hb;rw[b_] at q;cases q;exact new
 ·rw[d_ hb] at q
  by_cases Rb:b=e
  ·have q':H b=some (.own x):=by
    rcases he with z|z
    ·exact absurd (Rb.trans z) hb
    ·rw[Rb];exact z
   rw[q] at q';cases q'
   obtain⟨v,hv⟩:=LK
   exact⟨v,by rw[Rb];exact hv⟩
  ·refine(ok b u q).zr (λc v hc r=>k c v ?_ r) (λc r=>by rw[d_ (Ur c b r)];exact r) λc xs r=>by rw[d_ (Yl c xs r)];exact r
   rcases hc with rfl|hc
   ·exact Rb
   ·rintro rfl
    rcases he with z|z
    ·exact Ur c b hc z
    ·rw[hc] at z;cases z;exact hb rfl
end
structure Un(fs ex:List Addr)(H H':Hp)(h h':Heap):Prop where
 keep:∀b o,h.get? b=some o->H b=none->b∉fs->b∉ex->h'.get? b=some o
 slot:∀b o,h.get? b=some o->H b=none->b∈fs->b∉ex->∃sl,h'.get? b=some {o with slots:=sl}
 free:∀b o,h.get? b=some o->H b=none->b∉ex->H' b=none
 there:∀b o,h.get? b=some o->b∉ex->∃o',h'.get? b=some o'
 qi:∀b xs,H b=some (.tup xs)->H' b=some (.tup xs)
 uR:∀b o u,H b=some (.nj o u)->H' b=some (.nj o u)
 yN:∀b ps,H b=some (.Mm ps)->∃more,H' b=some (.Mm (ps++more))
section
variable{fs fs' ex ex':List Addr}{H H1 H2:Hp}{h h1 h2 h':Heap}{a x e:Addr}{o:HO}
theorem Un.any(u:Un fs ex H H1 h h1){b:Addr}{ob:Obj}(q:h.get? b=some ob)(n:H b=none)(hx:b∉ex):∃sl,h1.get? b=some {ob with slots:=sl}:=by
 by_cases hb:b∈fs
 ·exact u.slot b ob q n hb hx
 ·exact⟨ob.slots,u.keep b ob q n hb hx⟩
theorem Un.kept(k:∀b u,h.get? b=some u->h'.get? b=some u):Un fs ex H H h h':=
 ⟨λb ob q _ _ _=>k b ob q,λb ob q _ _ _=>⟨ob.slots,k b ob q⟩,λ_ _ _ n _=>n,λb ob q _=>⟨ob,k b ob q⟩,λ_ _ q=>q,λ_ _ _ q=>q,λ_ ps q=>⟨#[],by rw[q];simp⟩⟩
theorem Un.refl:Un fs ex H H h h:=Un.kept λ_ _ q=>q
theorem Un.laid(k:∀b u,h.get? b=some u->h'.get? b=some u)(hp:h.objs.size<=a)(hn:H a=none):Un fs ex H (upd H a o) h h' where
 keep:=λb u q _ _ _=>k b u q
 slot:=λb u q _ _ _=>⟨u.slots,k b u q⟩
 free:=λb u q n _=>by rw[d_ (aa1 (aaS (aaK q) hp))];exact n
 there:=λb u q _=>⟨u,k b u q⟩
 qi:=λb xs q=>by rw[d_ (gr q hn)];exact q
 uR:=λb u xs q=>by rw[d_ (gr q hn)];exact q
 yN:=λb ps q=>⟨#[],by rw[d_ (gr q hn),q];simp⟩
theorem Un.write(mu:Ou (H x))(he:e=x\/H e=some (.own x))(k:∀b u,b≠e->h.get? b=some u->h'.get? b=some u)(LK:∃u,h'.get? e=some u):Un fs ex H (upd H x o) h h':=by
 have hx:∀b,H b=none->b≠x:=λb n z=>by subst z;rw[n] at mu;exact mu
 have hb:∀b,H b=none->b≠e:=λb n z=>by
  subst z
  rcases he with r|r
  ·exact hx b n r
  ·rw[n] at r;cases r
 have hm:∀b u,H b=some u->¬Ou (some u)->b≠x:=λb u q nm z=>by subst z;rw[q] at mu;exact nm mu
 refine⟨λb u q n _ _=>k b u (hb b n) q,λb u q n _ _=>⟨u.slots,k b u (hb b n) q⟩,λb u q n _=>by rw[d_ (hx b n)];exact n,λb u q _=>?_,
  λb xs q=>by rw[d_ (hm b _ q λz=>z)];exact q,λb u xs q=>by rw[d_ (hm b _ q λz=>z)];exact q,λb ps q=>⟨#[],by rw[d_ (hm b _ q λz=>z),q];simp⟩⟩
 by_cases Rb:b=e
 ·subst Rb;exact LK
 ·exact⟨u,k b u Rb q⟩
end
def Wa(h:Heap)(H:Hp):List Addr:=(List.range h.objs.size).filter λa=>(H a).isSome
def Cr(h:Heap)(H:Hp):Heap:=W.hideAll h (Wa h H)
theorem Ih(h:Heap)(H:Hp):(Cr h H).objs.size=h.objs.size:=W.hideAll_size _ _
theorem JF{h:Heap}{H:Hp}{b:Addr}{o:Obj}(e:h.get? b=some o)(n:H b=none):(Cr h H).get? b=some o:=
 W.hideAll_get _ e λhm=>by
  have q:(H b).isSome=true:=(aap.mp hm).2
  rw[n] at q;simp at q
theorem MA{h:Heap}{H:Hp}{b:Addr}{o:Obj}(e:(Cr h H).get? b=some o):h.get? b=some o/\H b=none:=by
 have e':h.get? b=some o:=W.of_hideAll (Wa h H) e
 refine⟨e',?_⟩
 cases q:H b with
 | none=>rfl
 | some x=>
  have hm:b∈Wa h H:=aap.mpr ⟨abt.mpr (aaK e'),by simp[q]⟩
  have z:(Cr h H).get? b=none:=W.hideAll_none (Wa h H) hm
  rw[z] at e;cases e
def MB(g h:Heap)(L:Addr):Qqz:=(List.range h.objs.size).filterMap λa=>if a=L\/(g.get? a).isSome=true then none else(h.get? a).map λo=>(a,o)
def rest(g h:Heap)(L d:Addr):Qqz:=(MB g h L).filter λp=>decide (p.1≠d)
structure Mod(K:Qqy)(mg:Qqx)(base:Heap):Prop where
 R1:K.In base
 glob:base.Ns mainGlobals mg
 blt:∃mb,base.Ns builtinsNs mb/\∀x:Str,x≠"__name__"->mb x=bootBuiltins x
 nolimit:base.NoLimit
structure Cx where
 prog:Program
 w:World
 K:Qqy
 mg:Qqx
 base:Heap
 A:Around
 N:List Str
 s₀:Shared
 H₀:Hp
 env:Env
 outer:List Env
 stack:List Env
 ex:List Addr
 fn:Str->Bool
 calm:Bool
 pn:Qqz
 xe:Qqq
def ui(l:List Env):List Addr:=l.filterMap (·.frame)
abbrev Cx.fs(X:Cx):List Addr:=ui X.outer
def Xh(sc:Scope)(x:Str):Prop:=sc.names.lookup x=some .local\/sc.names.lookup x=some .cell\/sc.names.lookup x=some .free
def Loc(sc:Scope)(x:Str):Prop:=sc.names.lookup x=some .local\/sc.names.lookup x=some .cell
def Look(env:Env)(h:Heap)(m:Qqx)(x:Str)(u:Value):Prop:=
 (env.kindOf x=some .local/\m x=some u)\/((env.kindOf x=some .cell\/env.kindOf x=some .free)/\∃c,env.cells.lookup x=some c/\h.IsCell c (some u))
structure Cx.Ok(X:Cx):Prop where
 mod:Mod X.K X.mg X.base
 kind:X.env.scope.kind=.function
 glob:X.env.globals=mainGlobals
 blt:X.env.builtins=builtinsNs
 above:X.s₀.heap.objs.size<=X.env.locals
 inj:∀x y c,X.env.cells.lookup x=some c->X.env.cells.lookup y=some c->x=y
 has:∀x,(X.env.kindOf x=some .cell\/X.env.kindOf x=some .free)->∃c,X.env.cells.lookup x=some c
 R3:∀x c,X.fn x=true->X.env.cells.lookup x=some c->X.s₀.heap.objs.size<=c
 hd:X.calm=true->X.A.handled=none
 frames:X.A.frames=some X.stack
 SW:X.stack=X.outer\/(X.stack=X.env::X.outer/\X.env.frame=some X.env.locals)
 Xi:∀b∈X.ex,b≠X.env.locals/\∀x c,X.env.cells.lookup x=some c->c≠b
 bs:∀b o,X.base.get? b=some o->X.s₀.heap.get? b=some o/\X.H₀ b=none
 MC:X.base.objs.size<=X.s₀.heap.objs.size
 tL:∀b o,X.base.get? b=some o->b∉X.ex
 JG:∀b∈X.ex,b∉X.fs
 uS:X.s₀.heap.FunFrames X.base X.outer
 Ov:∀b∈X.fs,X.H₀ b=none
structure Inv(X:Cx)(c_:Qqz)(Z:List (Option V))(H:Hp)(s:Shared):Prop where
 ok:X.Ok
 os:s.os=X.s₀.os
 bare:AllBare s.gens
 base:Un X.fs X.ex X.H₀ H X.s₀.heap s.heap
 loc:∃m,s.heap.Ns X.env.locals m/\∀(i:Nat)(x:Str)(v:V),X.N[i]?=some x->Z[i]?=some (some v)->Xh X.env.scope x->∃u,RelV v u/\Look X.env s.heap m x u
 cell:∀x c,X.env.cells.lookup x=some c->∃v,s.heap.IsCell c v
 free:H X.env.locals=none
 pA:∀x c,X.env.cells.lookup x=some c->H c=none
 pin:∀p∈X.pn++c_,s.heap.get? p.1=some p.2/\H p.1=none/\p.1≠X.env.locals/\p.1∉X.fs/\∀v,p.2.data≠.cell v
 iK:rA X.prog X.w H s.heap
 len:Z.length=X.N.length
section
variable{X:Cx}{c_:Qqz}{Z:List (Option V)}{H H':Hp}{s:Shared}{h':Heap}
theorem Cx.Ok.MD(ok:X.Ok){b:Addr}{o:Obj}(e:X.base.get? b=some o):b∉X.fs:=λhb=>by
 have:=(ok.uS.mem hb).1
 rw[e] at this;cases this
theorem Inv.bs(I:Inv X c_ Z H s):∀b o,X.base.get? b=some o->s.heap.get? b=some o/\H b=none:=λb o e=>
 ⟨I.base.keep b o (I.ok.bs b o e).1 (I.ok.bs b o e).2 (I.ok.MD e) (I.ok.tL b o e),I.base.free b o (I.ok.bs b o e).1 (I.ok.bs b o e).2 (I.ok.tL b o e)⟩
theorem Inv.bk(I:Inv X c_ Z H s):∀b o,X.base.get? b=some o->s.heap.get? b=some o:=λb o e=>(I.bs b o e).1
theorem Inv.mod(I:Inv X c_ Z H s):Mod X.K X.mg X.base:=I.ok.mod
theorem Inv.xN(I:Inv X c_ Z H s):X.K.In s.heap:=I.ok.mod.R1.keeps I.bk
theorem Inv.lt(I:Inv X c_ Z H s):X.env.locals<s.heap.objs.size:=let ⟨_,hn,_⟩:=I.loc;hn.lt
theorem Inv.sz(I:Inv X c_ Z H s):X.s₀.heap.objs.size<=s.heap.objs.size:=aan I.ok.above (acK I.lt)
theorem Inv.SX(I:Inv X c_ Z H s){a:Addr}(h:s.heap.objs.size<=a):a∉X.fs:=λhb=>by
 obtain⟨_,o,ho,_⟩:=I.ok.uS.mem hb
 exact absurd (aaS (aaK ho) (aan I.sz h)) (abv _)
theorem Inv.PD(I:Inv X c_ Z H s):∀x c,X.env.cells.lookup x=some c->c≠X.env.locals:=λx c e z=>by
 obtain⟨v,o,ho,hd⟩:=I.cell x c e
 obtain⟨m,⟨o',es,ep,qg,Us,_⟩,_⟩:=I.loc
 rw[z,qg] at ho;cases ho;rw[Us] at hd;cases hd
theorem Inv.uS(I:Inv X c_ Z H s):s.heap.FunFrames X.base X.outer:=by
 have all:∀(l:List Env),(∀b∈ui l,b∈X.fs)->X.s₀.heap.FunFrames X.base l->s.heap.FunFrames X.base l:=by
  intro l
  induction l with
  | nil=>intro _ _;trivial
  | cons env r ih=>
   intro hs hl
   obtain⟨hk,⟨L,o,hf,hn,ho,hd⟩,hr⟩:=hl
   have hL:L∈X.fs:=hs L (by unfold ui;rw[abE,hf];exact aaD)
   obtain⟨sl,e⟩:=I.base.slot L o ho (I.ok.Ov L hL) hL λz=>I.ok.JG L z hL
   exact⟨hk,⟨L,_,hf,hn,e,hd⟩,ih (λb hb=>hs b (by unfold ui;rw[abE,hf];exact aam _ hb)) hr⟩
 exact all X.outer (λ_ hb=>hb) I.ok.uS
theorem Inv.stack(I:Inv X c_ Z H s):s.heap.FunFrames X.base X.stack:=by
 rcases I.ok.SW with e|⟨e,hf⟩
 ·rw[e];exact I.uS
 ·rw[e]
  obtain⟨m,hn,_⟩:=I.loc
  refine .cons (by rw[I.ok.kind];decide) hf hn ?_ I.uS
  exact Heap.get?_none_of_le (aan I.ok.MC I.ok.above)
theorem Inv.wA(I:Inv X c_ Z H s):∀b∈ui X.stack,b∈X.env.locals::X.fs:=λb hb=>by
 rcases I.ok.SW with e|⟨e,hf⟩
 ·rw[e] at hb;exact aam _ hb
 ·rw[e] at hb
  unfold ui at hb
  rw[abE,hf] at hb
  exact hb
theorem Inv.Cs(I:Inv X c_ Z H s):∀b∈ui X.stack,H b=none:=λb hb=>by
 rcases aah.mp (I.wA b hb) with e|hb
 ·rw[e];exact I.free
 ·obtain⟨_,o,ho,_⟩:=I.ok.uS.mem hb
  exact I.base.free b o ho (I.ok.Ov b hb) λz=>I.ok.JG b z hb
theorem Inv.step{g':Array GenState}{t':Nat}{d':Drawn}{ch:List Addr}(I:Inv X c_ Z H s)
  (Mp:∀b∈ch,(b∈X.ex\/X.s₀.heap.objs.size<=b)/\b≠X.env.locals/\(∀x c,X.env.cells.lookup x=some c->c≠b)/\∀p∈X.pn++c_,p.1≠b)
  (keep:∀b o,b≠X.env.locals->b∉X.fs->b∉ch->s.heap.get? b=some o->H b=none->h'.get? b=some o)
  (slot:∀b o,b≠X.env.locals->b∈X.fs->b∉ch->s.heap.get? b=some o->H b=none->∃sl,h'.get? b=some {o with slots:=sl}) (free:∀b o,b∉ch->s.heap.get? b=some o->H b=none->H' b=none)
  (there:∀b o,b∉ch->s.heap.get? b=some o->∃o',h'.get? b=some o')
  (qi:∀b xs,H b=some (.tup xs)->H' b=some (.tup xs)) (uR:∀b o u,H b=some (.nj o u)->H' b=some (.nj o u)) (yN:∀b ps,H b=some (.Mm ps)->∃more,H' b=some (.Mm (ps++more)))
  (ns:∀m,s.heap.Ns X.env.locals m->h'.Ns X.env.locals m) (iK:rA X.prog X.w H' h') (hg:AllBare g') :
  Inv X c_ Z H' {s with heap:=h',gens:=g',drawn:=d',toks:=t'}:=by
 have neL:∀b o,X.s₀.heap.get? b=some o->b≠X.env.locals:=λb o e=>aa1 (aaS (aaK e) I.ok.above)
 have Wl:∀b o,X.s₀.heap.get? b=some o->b∉X.ex->b∉ch:=λb o e hx hb=>by
  rcases(Mp b hb).1 with z|z
  ·exact hx z
  ·exact absurd (aaS (aaK e) z) (abv _)
 have cellK:∀x c,X.env.cells.lookup x=some c->∀v,s.heap.IsCell c v->h'.IsCell c v:=λx c e v ⟨o,ho,hd⟩=>by
  have Ut:c∉ch:=λz=>(Mp c z).2.2.1 x c e rfl
  by_cases hc:c∈X.fs
  ·obtain⟨sl,q⟩:=slot c o (I.PD x c e) hc Ut ho (I.pA x c e)
   exact⟨_,q,hd⟩
  ·exact⟨o,keep c o (I.PD x c e) hc Ut ho (I.pA x c e),hd⟩
 refine⟨I.ok,I.os,hg,⟨λb o e n hb hx=>?_,λb o e n hb hx=>?_,λb o e n hx=>?_,λb o e hx=>?_,λb xs e=>qi b xs (I.base.qi b xs e),λb o xs e=>uR b o xs (I.base.uR b o xs e),λb ps e=>?_⟩,?_,λx c e=>?_,?_,λx c e=>?_,λp hp=>?_,iK,I.len⟩
 ·exact keep b o (neL b o e) hb (Wl b o e hx) (I.base.keep b o e n hb hx) (I.base.free b o e n hx)
 ·obtain⟨sl,e1⟩:=I.base.slot b o e n hb hx
  obtain⟨sl',e2⟩:=slot b _ (neL b o e) hb (Wl b o e hx) e1 (I.base.free b o e n hx)
  exact⟨sl',e2⟩
 ·obtain⟨o',e1⟩:=I.base.there b o e hx
  exact free b o' (Wl b o e hx) e1 (I.base.free b o e n hx)
 ·obtain⟨o',e1⟩:=I.base.there b o e hx
  exact there b o' (Wl b o e hx) e1
 ·obtain⟨m1,e1⟩:=I.base.yN b ps e
  obtain⟨m2,e2⟩:=yN b _ e1
  exact⟨m1++m2,by rw[e2,Array.append_assoc]⟩
 ·obtain⟨m,hn,hl⟩:=I.loc
  refine⟨m,ns m hn,λi x v e1 e2 e3=>?_⟩
  obtain⟨u,r,l⟩:=hl i x v e1 e2 e3
  refine⟨u,r,?_⟩
  rcases l with l|⟨k,c,e,z⟩
  ·exact .inl l
  ·exact .inr ⟨k,c,e,cellK x c e _ z⟩
 ·obtain⟨v,z⟩:=I.cell x c e
  exact⟨v,cellK x c e v z⟩
 ·obtain⟨m,⟨o,_,_,ho,_⟩,_⟩:=I.loc
  exact free _ o (λz=>(Mp _ z).2.1 rfl) ho I.free
 ·obtain⟨v,o,ho,hd⟩:=I.cell x c e
  exact free c o (λz=>(Mp c z).2.2.1 x c e rfl) ho (I.pA x c e)
 ·obtain⟨e,n,ne,nf,d⟩:=I.pin p hp
  have Ut:p.1∉ch:=λz=>(Mp p.1 z).2.2.2 p hp rfl
  exact⟨keep p.1 p.2 ne nf Ut e n,free p.1 p.2 Ut e n,ne,nf,d⟩
theorem Inv.un{t':Nat}(I:Inv X c_ Z H s)(u:Un X.fs [] H H' s.heap h')(iK:rA X.prog X.w H' h'):Inv X c_ Z H' {s with heap:=h',toks:=t'}:=by
 obtain⟨m,⟨o,es,ep,ho,r⟩,_⟩:=id I.loc
 obtain⟨sl,hL⟩:=u.any ho I.free (by simp)
 exact I.step (g':=s.gens) (d':=s.drawn) (ch:=[]) (λ_ z=>nomatch z) (λb o _ hb _ e n=>u.keep b o e n hb (by simp)) (λb o _ hb _ e n=>u.slot b o e n hb (by simp)) (λb o _ e n=>u.free b o e n (by simp)) (λb o _ e=>u.there b o e (by simp)) u.qi u.uR u.yN (λm' hm=>by
  obtain⟨o',Sg,OV,qg,r'⟩:=hm
  rw[ho] at qg;cases qg
  exact⟨_,Sg,OV,hL,r'⟩) iK I.bare
theorem Inv.call{g':Array GenState}{t':Nat}{d':Drawn}{ch:List Addr}(I:Inv X c_ Z H s)(u:Un (ui X.stack) ch H H' s.heap h')(iK:rA X.prog X.w H' h')(hg:AllBare g')
  (Mp:∀b∈ch,(b∈X.ex\/X.s₀.heap.objs.size<=b)/\b≠X.env.locals/\(∀x c,X.env.cells.lookup x=some c->c≠b)/\∀p∈X.pn++c_,p.1≠b) :
  Inv X c_ Z H' {s with heap:=h',gens:=g',drawn:=d',toks:=t'}:=by
 obtain⟨m,⟨o,es,ep,ho,r⟩,_⟩:=id I.loc
 obtain⟨sl,hL⟩:=u.any ho I.free λz=>(Mp _ z).2.1 rfl
 exact I.step (ch:=ch) Mp (λb o hL hb hc e n=>u.keep b o e n (λz=>(aah.mp (I.wA b z)).elim hL hb) hc) (λb o _ _ hc e n=>u.any e n hc) (λb o hc e n=>u.free b o e n hc) (λb o hc e=>u.there b o e hc) u.qi u.uR u.yN (λm' hm=>by
  obtain⟨o',Sg,OV,qg,r'⟩:=hm
  rw[ho] at qg;cases qg
  exact⟨_,Sg,OV,hL,r'⟩) iK hg
theorem Inv.turned{t':Nat}{it:Addr}(I:Inv X c_ Z H s)(k:∀b o,b≠it->s.heap.get? b=some o->h'.get? b=some o)(hn:H it=none)(hL:it≠X.env.locals)
  (h1:it∈X.ex\/X.s₀.heap.objs.size<=it) (h2:∀x c,X.env.cells.lookup x=some c->c≠it) (h3:∀p∈X.pn++c_,p.1≠it):Inv X c_ Z H {s with heap:=h',toks:=t'}:=by
 have nit:∀b u,H b=some u->b≠it:=λb u e z=>by rw[z,hn] at e;cases e
 refine I.step (g':=s.gens) (d':=s.drawn) (ch:=[it]) (λb hb=>?_) (λb o _ _ hc e _=>k b o (λz=>hc (by simp[z])) e) (λb o _ _ hc e _=>⟨o.slots,k b o (λz=>hc (by simp[z])) e⟩) (λ_ _ _ _ n=>n)
  (λb o hc e=>⟨o,k b o (λz=>hc (by simp[z])) e⟩) (λ_ _ e=>e) (λ_ _ _ e=>e) (λb ps e=>⟨#[],by rw[e];simp⟩) (λm hm=>?_) (λb u e=>?_) I.bare
 ·have e:b=it:=by simpa using hb
  subst e
  exact⟨h1,hL,h2,h3⟩
 ·obtain⟨o,es,ep,ho,r⟩:=hm
  exact⟨o,es,ep,k _ o (ab1 hL) ho,r⟩
 ·refine(I.iK b u e).zr (λc v hc q=>k c v ?_ q) (λ_ q=>q) λ_ _ q=>q
  rcases hc with z|z
  ·rw[z];exact nit b u e
  ·exact nit c _ z
theorem Inv.tok(I:Inv X c_ Z H s)(t:Nat):Inv X c_ Z H {s with toks:=t}:=I.un (h':=s.heap) (t':=t) Un.refl I.iK
theorem Inv.kept{t':Nat}(I:Inv X c_ Z H s)(k:∀b u,s.heap.get? b=some u->h'.get? b=some u):Inv X c_ Z H {s with heap:=h',toks:=t'}:=I.un (Un.kept k) (I.iK.kept k)
theorem Inv.laid{a:Addr}{o:HO}{t':Nat}(I:Inv X c_ Z H s)(k:∀b u,s.heap.get? b=some u->h'.get? b=some u)(hp:s.heap.objs.size<=a)(new:iZ X.prog X.w (upd H a o) h' a o) :
 Inv X c_ Z (upd H a o) {s with heap:=h',toks:=t'}:=I.un (Un.laid k hp (I.iK.fresh hp)) (I.iK.laid k hp new)
theorem Inv.write{x e:Addr}{o:HO}{t':Nat}(I:Inv X c_ Z H s)(mu:Ou (H x))(he:e=x\/H e=some (.own x))(k:∀b u,b≠e->s.heap.get? b=some u->h'.get? b=some u)(LK:∃u,h'.get? e=some u)
 (new:iZ X.prog X.w (upd H x o) h' x o):Inv X c_ Z (upd H x o) {s with heap:=h',toks:=t'}:=I.un (Un.write mu he k LK) (I.iK.write mu he k LK new)
theorem Inv.y_{OW:Qqz}(I:Inv X c_ Z H s)(h:∀p∈OW,s.heap.get? p.1=some p.2/\H p.1=none/\p.1≠X.env.locals/\p.1∉X.fs/\∀v,p.2.data≠.cell v):Inv X OW Z H s:=
 ⟨I.ok,I.os,I.bare,I.base,I.loc,I.cell,I.free,I.pA,λp hp=>(aal.mp hp).elim (λz=>I.pin p (aaJ _ z)) (h p),I.iK,I.len⟩
theorem D9{N:List Str}(hN:N.Nodup){i j:Nat}{x:Str}(a:N[i]?=some x)(b:N[j]?=some x):i=j:=by
 obtain⟨h1,e1⟩:=List.getElem?_eq_some_iff.mp a
 obtain⟨h2,e2⟩:=List.getElem?_eq_some_iff.mp b
 exact(List.getElem_inj hN).mp (e1.trans e2.symm)
theorem BD{M:Model}{A:Around}{E:Qqq}{i:Nat}{x:Str}{v:V}{u:Value}{Q:Unit->Shared->Prop}(I:Inv X c_ Z H s)(hN:X.N.Nodup)(hi:X.N[i]?=some x)(hx:Loc X.env.scope x)(r:RelV v u)
  (h:∀s',Inv X c_ (Z.set i (some v)) H s'->(∃a,Heap.SameBut a s.heap s'.heap/\(a=X.env.locals\/X.env.cells.lookup x=some a))->Q () s') (hf:X.fn x=true\/X.env.scope.names.lookup x=some .local:=by first|exact .inl rfl|exact .inr rfl|assumption):wpAny M A (storeName X.env x u) Q E s:=by
 obtain⟨m,hn,hl⟩:=id I.loc
 have Ym:(X.env.scope.kind ==.class||(X.env.scope.kind ==.module&&X.env.locals != X.env.globals))=false:=by rw[I.ok.kind];rfl
 have hiZ:i<Z.length:=by rw[I.len];exact(List.getElem?_eq_some_iff.mp hi).1
 have PD:=I.PD
 have tracked:∀{a:Addr} {h':Heap},(∃o,s.heap.get? a=some o/\H a=none)->Heap.SameBut a s.heap h'->rA X.prog X.w H h':=λ{a h'} ha hs b ob e=>by
  obtain⟨_,_,yJ⟩:=ha
  refine(I.iK b ob e).zr (λc w' hc q=>(hs.2 c ?_).trans q) (λ_ q=>q) λ_ _ q=>q
  rintro rfl
  rcases hc with rfl|hc
  ·rw[yJ] at e;cases e
  ·rw[yJ] at hc;cases hc
 rcases hx with hk|hk
 ·refine wpAny_storeName_local hk hn (λh' Sh hs=>?_) Ym
  obtain⟨oL,_,_,Wm,_⟩:=id hn
  refine h _ ⟨I.ok,I.os,I.bare,⟨λb o e n hb hx=>?_,λb o e n hb hx=>?_,I.base.free,λb o e hx=>?_,I.base.qi,I.base.uR,I.base.yN⟩,⟨_,Sh,λj y v' e1 e2 e3=>?_⟩,λy c e=>?_,I.free,I.pA,λp hp=>?_,tracked ⟨oL,Wm,I.free⟩ hs,by simpa using I.len⟩ ⟨_,hs,.inl rfl⟩
  ·exact(hs.2 b (aa1 (aaS (aaK e) I.ok.above))).trans (I.base.keep b o e n hb hx)
  ·obtain⟨sl,e1⟩:=I.base.slot b o e n hb hx
   exact⟨sl,(hs.2 b (aa1 (aaS (aaK e) I.ok.above))).trans e1⟩
  ·obtain⟨o',e1⟩:=I.base.there b o e hx
   exact⟨o',(hs.2 b (aa1 (aaS (aaK e) I.ok.above))).trans e1⟩
  ·by_cases hj:j=i
   ·subst hj
    rw[hi] at e1;cases e1
    rw[abA hiZ] at e2
    cases e2
    exact⟨u,r,.inl ⟨hk,by simp⟩⟩
   ·rw[abJ (ab1 hj)] at e2
    obtain⟨u',r',q⟩:=hl j y v' e1 e2 e3
    refine⟨u',r',?_⟩
    rcases q with⟨k,e⟩|⟨k,c,e,z⟩
    ·refine .inl ⟨k,?_⟩
     have:y≠x:=λe=>hj (D9 hN e1 (e▸hi))
     simp[this,e]
    ·exact .inr ⟨k,c,e,z.sameBut hs (PD y c e)⟩
  ·obtain⟨w',z⟩:=I.cell y c e
   exact⟨w',z.sameBut hs (PD y c e)⟩
  ·obtain⟨e,n,ne,nf,d⟩:=I.pin p hp
   exact⟨(hs.2 p.1 ne).trans e,n,ne,nf,d⟩
 ·have OX:X.fn x=true:=by
   rcases hf with z|z
   ·exact z
   ·rw[z] at hk;cases hk
  obtain⟨c,hc⟩:=I.ok.has x (.inl hk)
  obtain⟨w',z⟩:=I.cell x c hc
  refine wpAny_storeName_cell I.ok.kind hk hc z (λh' Bv hs=>?_)
  obtain⟨oc,hoc,Yn⟩:=id z
  refine h {s with heap:=h'} ⟨I.ok,I.os,I.bare,⟨λb o e n hb hx=>?_,λb o e n hb hx=>?_,I.base.free,λb o e hx=>?_,I.base.qi,I.base.uR,I.base.yN⟩,⟨m,hn.sameBut hs (ab1 (PD x c hc)),λj y v' e1 e2 e3=>?_⟩,λy c' e=>?_,I.free,I.pA,λp hp=>?_,tracked ⟨oc,hoc,I.pA x c hc⟩ hs,by simpa using I.len⟩ ⟨c,hs,.inr hc⟩
  ·exact(hs.2 b (aa1 (aaS (aaK e) (I.ok.R3 x c OX hc)))).trans (I.base.keep b o e n hb hx)
  ·obtain⟨sl,e1⟩:=I.base.slot b o e n hb hx
   exact⟨sl,(hs.2 b (aa1 (aaS (aaK e) (I.ok.R3 x c OX hc)))).trans e1⟩
  ·obtain⟨o',e1⟩:=I.base.there b o e hx
   exact⟨o',(hs.2 b (aa1 (aaS (aaK e) (I.ok.R3 x c OX hc)))).trans e1⟩
  ·by_cases hj:j=i
   ·subst hj
    rw[hi] at e1;cases e1
    rw[abA hiZ] at e2
    cases e2
    exact⟨u,r,.inr ⟨.inl hk,c,hc,Bv⟩⟩
   ·rw[abJ (ab1 hj)] at e2
    obtain⟨u',r',q⟩:=hl j y v' e1 e2 e3
    refine⟨u',r',?_⟩
    rcases q with q|⟨k,c',e,z'⟩
    ·exact .inl q
    ·refine .inr ⟨k,c',e,z'.sameBut hs ?_⟩
     rintro rfl
     exact hj (D9 hN e1 (I.ok.inj _ _ _ e hc▸hi))
  ·by_cases Si:c'=c
   ·subst Si;exact⟨_,Bv⟩
   ·obtain⟨w2,z2⟩:=I.cell y c' e
    exact⟨w2,z2.sameBut hs Si⟩
  ·obtain⟨e,n,ne,nf,d⟩:=I.pin p hp
   refine⟨(hs.2 p.1 ?_).trans e,n,ne,nf,d⟩
   intro q
   rw[q,hoc] at e
   have q':oc=p.2:=aaF e
   exact d w' (by rw[<-q'];exact Yn)
theorem D_{M:Model}{A:Around}{E:Qqq}{i:Nat}{x:Str}{v:V}{u:Value}{Q:Unit->Shared->Prop}(I:Inv X c_ Z H s)(hN:X.N.Nodup)(hi:X.N[i]?=some x)(hx:Loc X.env.scope x)(r:RelV v u)
  (h:∀s',Inv X c_ (Z.set i (some v)) H s'->Q () s') (hf:X.fn x=true\/X.env.scope.names.lookup x=some .local:=by first|exact .inl rfl|exact .inr rfl|assumption):wpAny M A (storeName X.env x u) Q E s:=
 BD I hN hi hx r (λs' I' _=>h s' I') hf
theorem Inv.SY{s':Shared}{ch:List Addr}(I:Inv X c_ Z H s)(ho:s'.os=s.os)(u:Un (ui X.stack) ch H H' s.heap s'.heap)(iK:rA X.prog X.w H' s'.heap)(hg:AllBare s'.gens)
  (Mp:∀b∈ch,(b∈X.ex\/X.s₀.heap.objs.size<=b)/\b≠X.env.locals/\(∀x c,X.env.cells.lookup x=some c->c≠b)/\∀p∈X.pn++c_,p.1≠b):Inv X c_ Z H' s':=by
 obtain⟨h',g',d',t',o'⟩:=s'
 have e:o'=s.os:=ho
 subst e
 exact I.call (g':=g') (t':=t') (d':=d') u iK hg Mp
end
abbrev XK:=Value->Option Addr->Hp->Prop
abbrev St:=List (Option V)
abbrev VK:=V->Hp->Prop
abbrev TE:=St->Hp->VK->Prop
abbrev TT:=St->Hp->(Bool->Hp->Prop)->Prop
abbrev TA:=St->Hp->(List V->Hp->Prop)->Prop
structure Ends where
 nx:St->Hp->Prop
 rt:VK
 bk:St->Hp->Prop:=λ_ _=>False
 ct:St->Hp->Prop:=λ_ _=>False
abbrev TS:=Ends->St->Hp->Prop
def EP(X:Cx)(c_:Qqz)(Z:St)(Q:VK)(u:Value)(s':Shared):Prop:=∃v H',Inv X c_ Z H' s'/\RelV v u/\Q v H'
def TP(X:Cx)(c_:Qqz)(Z:St)(Q:Bool->Hp->Prop)(b:Bool)(s':Shared):Prop:=∃H',Inv X c_ Z H' s'/\Q b H'
def AP(X:Cx)(c_:Qqz)(Z:St)(Q:List V->Hp->Prop)(us:List Value)(s':Shared):Prop:=∃vs H',Inv X c_ Z H' s'/\Vals vs us/\Q vs H'
def SP(X:Cx)(c_:Qqz)(D:Ends)(f:Flow)(s':Shared):Prop:=
 match f with
 | .next=>∃Z' H',Inv X c_ Z' H' s'/\D.nx Z' H'
 | .brk=>∃Z' H',Inv X c_ Z' H' s'/\D.bk Z' H'
 | .cont=>∃Z' H',Inv X c_ Z' H' s'/\D.ct Z' H'
 | .ret u=>∃v Z' H',Inv X c_ Z' H' s'/\RelV v u/\D.rt v H'
def PE(X:Cx)(e:Expr)(t:TE):Prop:=
 ∀(c_:Qqz)(s:Shared)(Z:St)(H:Hp)(Q:VK),Inv X c_ Z H s->t Z H Q->wpAny (model X.prog X.w) X.A (eval e X.env) (EP X c_ Z Q) X.xe s
def PT(X:Cx)(e:Expr)(t:TT):Prop:=
 ∀(c_:Qqz)(s:Shared)(Z:St)(H:Hp)(Q:Bool->Hp->Prop),Inv X c_ Z H s->t Z H Q->wpAny (model X.prog X.w) X.A (isTrue e X.env (eval e X.env)) (TP X c_ Z Q) X.xe s
def PW(X:Cx)(e:Expr)(t:TT):Prop:=
 ∀(whole:Sem Value)(c_:Qqz)(s:Shared)(Z:St)(H:Hp)(Q:Bool->Hp->Prop),Inv X c_ Z H s->t Z H Q->wpAny (model X.prog X.w) X.A (isTrue e X.env whole) (TP X c_ Z Q) X.xe s
theorem PW.pt{X:Cx}{e:Expr}{t:TT}(h:PW X e t):PT X e t:=h _
def PA(X:Cx)(es:List Expr)(t:TA):Prop:=
 ∀(pos:Pos)(c_:Qqz)(s:Shared)(Z:St)(H:Hp)(Q:List V->Hp->Prop),Inv X c_ Z H s->t Z H Q->wpAny (model X.prog X.w) X.A (spliced (backTo pos (starEach es X.env))) (AP X c_ Z Q) X.xe s
def PS(X:Cx)(st:Stmt)(t:TS):Prop:=
 ∀(c_:Qqz)(s:Shared)(Z:St)(H:Hp)(D:Ends),Inv X c_ Z H s->t D Z H->wpAny (model X.prog X.w) X.A (exec st X.env) (SP X c_ D) X.xe s
def FO(X:Cx)(st:List Stmt)(t:TS):Prop:=
 ∀(c_:Qqz)(s:Shared)(Z:St)(H:Hp)(D:Ends),Inv X c_ Z H s->t D Z H->wpAny (model X.prog X.w) X.A (execs st X.env) (SP X c_ D) X.xe s
theorem i0{Z:Type}{t:Sem Z}{Q Q':Z->Shared->Prop}{M:Model}{A:Around}{E:Qqq}{s:Shared}(h:wpAny M A t Q E s)(hQ:∀a s,Q a s->Q' a s):wpAny M A t Q' E s:=abK h hQ λ_ _ x=>x
section
variable{X:Cx}
inductive S3(i:Nat)(Z:St)(H:Hp)(Q:VK):Prop
 | mk (v) (_:Z[i]?=some (some v)) (_:Q v H)
def tC(v:V):TE:=λ_ H Q=>Q v H
theorem PH{i:Nat}{x:Str}{pos:Pos}(hN:X.N[i]?=some x)(hv:Xh X.env.scope x)(hd:(x ==("__debug__":Str))=false:=by decide)(Co:(x ==("__classdict__":Str))=false:=by decide):PE X (.Name x pos) (S3 i):=by
 intro c_ s Z H Q I h
 obtain⟨v,e,h⟩:=h
 obtain⟨m,hn,hl⟩:=I.loc
 obtain⟨u,r,l⟩:=hl i x v hN e hv
 have fin:EP X c_ Z Q u s:=⟨v,H,I,r,h⟩
 rcases l with⟨hk,hm⟩|⟨hk,c,hc,OY⟩
 ·exact wpAny_Name (wpAny_loadName_local I.ok.kind hk hn hm fin) hd
 ·rcases hk with hk|hk
  ·exact wpAny_Name (wpAny_loadName_cell I.ok.kind hk hc OY fin) hd
  ·exact wpAny_Name (wpAny_loadName_free I.ok.kind hk hc OY fin Co) hd
theorem gm{i j pos}:PE X (.Constant (.int i) j pos) (tC (.int i)):=λ_ _ _ H _ I h=>wpAny_Constant_int ⟨.int i,H,I.tok _,⟨_,rfl⟩,h⟩
theorem j_{b j pos}:PE X (.Constant (.bool b) j pos) (tC (.bl b)):=λ_ _ _ H _ I h=>Constant_bool ⟨.bl b,H,I,rfl,h⟩
theorem uj{j pos}:PE X (.Constant .none j pos) (tC .jb):=λ_ _ _ H _ I h=>Constant_none ⟨.jb,H,I,rfl,h⟩
theorem i4{x j pos}:PE X (.Constant (.str x) j pos) (tC (.str x)):=λ_ _ _ H _ I h=>Calls.Constant_str ⟨.str x,H,I.tok _,⟨_,rfl⟩,h⟩
def Gl(X:Cx)(x:Str):Prop:=X.env.kindOf x=some .globalImplicit
theorem uT{E:Qqq}{c_:Qqz}{s:Shared}{Z:St}{H:Hp}{x:Str}{u:Value}{pos:Pos}{Q:Qqq}(I:Inv X c_ Z H s)(hg:Gl X x)(hm:X.mg x=some u)(h:Q u s)
  (hd:(x ==("__debug__":Str))=false:=by decide):wpAny (model X.prog X.w) X.A (eval (.Name x pos) X.env) Q E s:=
 Calls.Name_function_global I.ok.kind hg (Calls.loadGlobal_global (by rw[I.ok.glob];exact I.mod.glob.keeps I.bk) hm h) hd
theorem o3{E:Qqq}{c_:Qqz}{s:Shared}{Z:St}{H:Hp}{x:Str}{u:Value}{pos:Pos}{Q:Qqq}(I:Inv X c_ Z H s)(hg:Gl X x)(hm:X.mg x=none)(hv:bootBuiltins x=some u)(h:Q u s)
  (hn:x≠"__name__":=by decide) (hd:(x ==("__debug__":Str))=false:=by decide):wpAny (model X.prog X.w) X.A (eval (.Name x pos) X.env) Q E s:=by
 obtain⟨mb,h1,h2⟩:=I.mod.blt
 exact Calls.Name_function_global I.ok.kind hg (Calls.loadGlobal_builtin (by rw[I.ok.glob];exact I.mod.glob.keeps I.bk) hm (by rw[I.ok.blt];exact h1.keeps I.bk) ((h2 x hn).trans hv) h) hd
theorem Ct{x:Str}{v:V}{u:Value}{pos:Pos}(hg:Gl X x)(hm:X.mg x=some u)(r:RelV v u)(hd:(x ==("__debug__":Str))=false:=by decide):PE X (.Name x pos) (tC v):=
 λ_ _ _ H _ I h=>uT I hg hm ⟨v,H,I,r,h⟩ hd
theorem ox{x:Str}{v:V}{u:Value}{pos:Pos}(hg:Gl X x)(hm:X.mg x=none)(hv:bootBuiltins x=some u)(r:RelV v u)(hn:x≠"__name__":=by decide)(hd:(x ==("__debug__":Str))=false:=by decide):PE X (.Name x pos) (tC v):=
 λ_ _ _ H _ I h=>o3 I hg hm hv ⟨v,H,I,r,h⟩ hn hd
variable{a b:Expr}{ta tb:TE}{pos:Pos}
def PC(X:Cx)(op:CmpOp)(a b:Expr)(t:TE):Prop:=
 ∀(c_:Qqz)(s:Shared)(Z:St)(H:Hp)(Q:VK),Inv X c_ Z H s->t Z H Q->
  wpAny (model X.prog X.w) X.A (eval a X.env) (λv s1=>wpAny (model X.prog X.w) X.A (eval b X.env) (λu s2=>wpAny (model X.prog X.w) X.A (compareOp op v u) (EP X c_ Z Q) X.xe s2) X.xe s1) X.xe s
theorem Ea(b:Expr){op:CmpOp}(h:op≠.In)(h2:op≠.NotIn):behindInMarks op b=false:=by
 have e1:(op ==CmpOp.In)=false:=by cases op<;>first|rfl|exact absurd rfl h
 have e2:(op ==CmpOp.NotIn)=false:=by cases op<;>first|rfl|exact absurd rfl h2
 cases b<;>simp[behindInMarks,e1,e2]
def S4(ta:TE):TE:=λZ H Q=>ta Z H λx H1=>Q (.bl (!decide (x=.jb))) H1
theorem RelV.JH{x:V}{v:Value}(r:RelV x v):(v ==Value.none)=decide (x=.jb):=by
 cases x with
 | jb=>cases r;rfl
 | bl _=>cases r;rfl
 | int _=>obtain⟨t,rfl⟩:=r;rfl
 | str _=>obtain⟨t,rfl⟩:=r;rfl
 | D8 _=>obtain⟨t,rfl⟩:=r;rfl
 | Ml _=>obtain⟨t,rfl⟩:=r;rfl
 | ref _=>cases r;rfl
 | ty _=>cases r;rfl
theorem tf{j pos'}(ha:PE X a ta):PC X .IsNot a (.Constant .none j pos') (S4 ta):=by
 intro c_ s Z H Q I h
 refine i0 (ha c_ s Z H _ I h) λv s1 iH=>?_
 obtain⟨x,H1,I1,r1,q1⟩:=iH
 exact Constant_none (isnot_none_gen ⟨.bl _,H1,I1,by rw[r1.JH];rfl,q1⟩)
inductive bK(x:V)(H:Hp)(Q:Bool->Hp->Prop):Prop
 | mk (k:Bool) (_:x=.bl k) (_:Q k H)
def tB(t:TE):TT:=λZ H Q=>t Z H λx H1=>bK x H1 Q
theorem PJ{op:CmpOp}{t:TE}(h:PC X op a b t)(h1:behindInMarks op b=false:=by first|exact Ea _ (by decide) (by decide)|rfl):PE X (.Compare a [op] [b] pos) t:=λc_ s Z H Q I hw=>wpAny_Compare1 (h c_ s Z H Q I hw) h1
theorem ju{op:CmpOp}{t:TE}(h:PC X op a b t)(h1:behindInMarks op b=false:=by first|exact Ea _ (by decide) (by decide)|rfl):PT X (.Compare a [op] [b] pos) (tB t):=by
 intro c_ s Z H Q I hw
 refine wpAny_isTrue_Compare1 (i0 (h c_ s Z H _ I hw) λv s1 h1=>i0 h1 λu s2 h2=>i0 h2 λc s3 iH=>?_) h1
 obtain⟨x,H1,I1,r1,q1⟩:=iH
 obtain⟨d,rfl,q⟩:=q1
 cases r1
 exact abN ⟨H1,I1,q⟩
theorem lu{e:Expr}{t:TE}(h:PE X e t)(he:∀whole,isTrue e X.env whole=(do let v <-whole;standAt e.pos;holding [v] (truthy v)):=by intro _;rfl):PT X e (tB t):=by
 intro c_ s Z H Q I hw
 refine isTrue_plain (i0 (h c_ s Z H _ I hw) λv s1 iH=>?_) (he _)
 obtain⟨x,H1,I1,r1,q1⟩:=iH
 obtain⟨d,rfl,q⟩:=q1
 cases r1
 exact abN ⟨H1,I1,q⟩
variable{tA Wn:TT}{rest:List Expr}
def Xj(t u:TT):TT:=λZ H Q=>t Z H λc H1=>if c=true then u Z H1 Q else Q false H1
def tOr(t u:TT):TT:=λZ H Q=>t Z H λc H1=>if c=true then Q true H1 else u Z H1 Q
def Xk(t:TT):TT:=λZ H Q=>t Z H λc H1=>Q (!c) H1
theorem pw_and1(ha:PT X a tA):PW X (.BoolOp .And [a] pos) tA:=by
 intro wh c_ s Z H Q I h
 refine isTrue_and (i0 (ha c_ s Z H Q I h) λc s1 e=>?_)
 cases c with
 | true=>exact isTrue_and_nil e
 | false=>exact e
theorem pw_or1(ha:PT X a tA):PW X (.BoolOp .Or [a] pos) tA:=by
 intro wh c_ s Z H Q I h
 refine isTrue_or (i0 (ha c_ s Z H Q I h) λc s1 e=>?_)
 cases c with
 | false=>exact isTrue_or_nil e
 | true=>exact e
theorem pw_and(ha:PT X a tA)(hb:PW X (.BoolOp .And (b::rest) pos) Wn):PW X (.BoolOp .And (a::b::rest) pos) (Xj tA Wn):=by
 intro wh c_ s Z H Q I h
 refine isTrue_and (i0 (ha c_ s Z H _ I h) λc s1 iH=>?_)
 obtain⟨H1,I1,q1⟩:=iH
 cases c with
 | true=>exact hb wh c_ s1 Z H1 Q I1 q1
 | false=>exact⟨H1,I1,q1⟩
theorem pw_or(ha:PT X a tA)(hb:PW X (.BoolOp .Or (b::rest) pos) Wn):PW X (.BoolOp .Or (a::b::rest) pos) (tOr tA Wn):=by
 intro wh c_ s Z H Q I h
 refine isTrue_or (i0 (ha c_ s Z H _ I h) λc s1 iH=>?_)
 obtain⟨H1,I1,q1⟩:=iH
 cases c with
 | true=>exact⟨H1,I1,q1⟩
 | false=>exact hb wh c_ s1 Z H1 Q I1 q1
theorem kB(ha:PT X a tA):PT X (.UnaryOp .Not a pos) (Xk tA):=by
 intro c_ s Z H Q I h
 exact isTrue_not (ha c_ s Z H (λc H1=>Q (!c) H1) I h)
def S5(ta tb:TE):TE:=λZ H Q=>ta Z H λx H1=>∃c,x=.bl c/\if c=true then tb Z H1 Q else Q (.bl false) H1
def S6(ta:TE):TE:=λZ H Q=>ta Z H λx H1=>∃c,x=.bl c/\Q (.bl (!c)) H1
theorem PL{op}{t:TE}(h:PE X a t):PE X (.BoolOp op [a] pos) t:=λc_ s Z H Q I hw=>BoolOp_one (h c_ s Z H Q I hw)
theorem PN(ha:PE X a ta)(hb:PE X (.BoolOp .And (b::rest) pos) tb):PE X (.BoolOp .And (a::b::rest) pos) (S5 ta tb):=by
 intro c_ s Z H Q I h
 refine BoolOp_and (i0 (ha c_ s Z H _ I h) λv s1 iH=>?_)
 obtain⟨x,H1,I1,r1,q1⟩:=iH
 obtain⟨c,rfl,q1⟩:=q1
 cases r1
 refine abN ?_
 cases c with
 | true=>exact hb c_ s1 Z H1 Q I1 q1
 | false=>exact⟨.bl false,H1,I1,rfl,q1⟩
theorem PQ(ha:PE X a ta):PE X (.UnaryOp .Not a pos) (S6 ta):=by
 intro c_ s Z H Q I h
 refine UnaryOp_ (i0 (ha c_ s Z H _ I h) λv s1 iH=>?_)
 obtain⟨x,H1,I1,r1,q1⟩:=iH
 obtain⟨c,rfl,q1⟩:=q1
 cases r1
 exact not_of (abN ⟨.bl (!c),H1,I1,rfl,q1⟩)
end
def gN(K:Qqy)(H:Hp)(a:Addr)(xs:List V):Prop:=
 Rd H a (.lst xs)\/
  ∃(o:Obj)(g_:Array Value)(n:Nat),K.lookup a=some o/\o.cls=.type "list"/\o.dict=none/\o.data=.seq g_ n/\g_.size<=sizeLine/\Vals xs g_.toList
def oy(K:Qqy)(H:Hp)(a:Addr)(xs:List V):Prop:=
 Rd H a (.tup xs)\/
  ∃(o:Obj)(g_:Array Value)(n:Nat),K.lookup a=some o/\o.cls=.type "tuple"/\o.data=.seq g_ n/\g_.size<=sizeLine/\Vals xs g_.toList
noncomputable def Xl:Value->Option V
 | .none=>some .jb
 | .bool b=>some (.bl b)
 | .int i _=>some (.int i)
 | .str x _=>some (.str x)
 | .bytes b _=>some (.D8 b)
 | .float b _=>some (.Ml b)
 | .ref a=>some (.ref a)
 | .type n=>some (.ty n)
 | _=>none
theorem RelV.abs{x:V}{u:Value}(r:RelV x u):Xl u=some x:=by
 cases x with
 | jb=>cases r;rfl
 | bl _=>cases r;rfl
 | int _=>obtain⟨t,rfl⟩:=r;rfl
 | str _=>obtain⟨t,rfl⟩:=r;rfl
 | D8 _=>obtain⟨t,rfl⟩:=r;rfl
 | Ml _=>obtain⟨t,rfl⟩:=r;rfl
 | ref _=>cases r;rfl
 | ty _=>cases r;rfl
theorem RelV.inj{x y:V}{u:Value}(r:RelV x u)(q:RelV y u):x=y:=aaF (r.abs.symm.trans q.abs)
theorem Vals.inj:∀{xs ys:List V} {us:List Value},Vals xs us->Vals ys us->xs=ys
 | _,_,_,.nil,.nil=>rfl
 | _,_,_,.cons r t,.cons r' t'=>by rw[r.inj r',Vals.inj t t']
section
variable{X:Cx}{c_:Qqz}{Z:St}{H:Hp}{s:Shared}{a:Addr}{xs ys:List V}
theorem gN.of{K:Qqy}(h:H a=some (.lst xs)):gN K H a xs:=.inl (.inl h)
theorem oy.of{K:Qqy}(h:H a=some (.tup xs)):oy K H a xs:=.inl (.inl h)
theorem Inv.list(I:Inv X c_ Z H s)(h:gN X.K H a xs):∃g_:List Value,Vals xs g_/\PlainL s.heap a g_.toArray/\xs.length<=sizeLine:=by
 rcases h with h|⟨o,g_,n,hk,hc,hd,hs,hz,r⟩
 ·obtain⟨z,g_,n,r,e⟩:=h.ok I.iK
  exact⟨g_,r,⟨_,n,e,rfl,rfl,rfl⟩,z⟩
 ·refine⟨g_.toList,r,⟨o,n,I.xN a o hk,hc,hd,by simpa using hs⟩,?_⟩
  have e:=r.length
  simp only [aa4] at e
  omega
theorem Inv.tuple(I:Inv X c_ Z H s)(h:oy X.K H a xs):∃g_:List Value,Vals xs g_/\IsTup s.heap a g_.toArray/\xs.length<=sizeLine:=by
 rcases h with h|⟨o,g_,n,hk,hc,hs,hz,r⟩
 ·obtain⟨z,g_,r,p⟩:=h.ok I.iK
  exact⟨g_,r,p,z⟩
 ·refine⟨g_.toList,r,⟨o,I.xN a o hk,hc,n,by simpa using hs⟩,?_⟩
  have e:=r.length
  simp only [aa4] at e
  omega
theorem Inv.pB(I:Inv X c_ Z H s)(h:gN X.K H a xs)(h':gN X.K H a ys):xs=ys:=by
 obtain⟨g_,r,⟨o,n,e,_,_,d⟩,_⟩:=I.list h
 obtain⟨its',r',⟨o',n',e',_,_,d'⟩,_⟩:=I.list h'
 rw[e] at e';cases e'
 rw[d] at d'
 injection d' with d1 _
 have:g_=its':=by simpa using abe Array.toList d1
 subst this
 exact r.inj r'
theorem Inv.Ii(I:Inv X c_ Z H s)(h:oy X.K H a xs)(h':oy X.K H a ys):xs=ys:=by
 obtain⟨g_,r,⟨o,e,_,n,d⟩,_⟩:=I.tuple h
 obtain⟨its',r',⟨o',e',_,n',d'⟩,_⟩:=I.tuple h'
 rw[e] at e';cases e'
 rw[d] at d'
 injection d' with d1 _
 have:g_=its':=by simpa using abe Array.toList d1
 subst this
 exact r.inj r'
end
noncomputable abbrev Cx.A9(X:Cx)(E:Qqq):Cx:={X with xe:=E}
noncomputable abbrev Cx.S7(X:Cx):Cx:=X.A9 λ_ _=>False
theorem Cx.Ok.A9{X:Cx}(ok:X.Ok)(E:Qqq):(X.A9 E).Ok:=
 ⟨ok.mod,ok.kind,ok.glob,ok.blt,ok.above,ok.inj,ok.has,ok.R3,ok.hd,ok.frames,ok.SW,ok.Xi,ok.bs,ok.MC,ok.tL,ok.JG,ok.uS,ok.Ov⟩
theorem Cx.Ok.rE{X:Cx}{E:Qqq}(ok:(X.A9 E).Ok):X.Ok:=
 ⟨ok.mod,ok.kind,ok.glob,ok.blt,ok.above,ok.inj,ok.has,ok.R3,ok.hd,ok.frames,ok.SW,ok.Xi,ok.bs,ok.MC,ok.tL,ok.JG,ok.uS,ok.Ov⟩
section
variable{X:Cx}{c_:Qqz}{Z:St}{H:Hp}{s:Shared}{E:Qqq}
theorem Inv.A9(I:Inv X c_ Z H s)(E:Qqq):Inv (X.A9 E) c_ Z H s:=⟨I.ok.A9 E,I.os,I.bare,I.base,I.loc,I.cell,I.free,I.pA,I.pin,I.iK,I.len⟩
theorem Inv.rE(I:Inv (X.A9 E) c_ Z H s):Inv X c_ Z H s:=⟨I.ok.rE,I.os,I.bare,I.base,I.loc,I.cell,I.free,I.pA,I.pin,I.iK,I.len⟩
theorem SP.rE{D:Ends}{f:Flow}{s':Shared}(h:SP (X.A9 E) c_ D f s'):SP X c_ D f s':=by
 cases f with
 | next=>obtain⟨Z',H',I,q⟩:=h;exact⟨Z',H',I.rE,q⟩
 | brk=>obtain⟨Z',H',I,q⟩:=h;exact⟨Z',H',I.rE,q⟩
 | cont=>obtain⟨Z',H',I,q⟩:=h;exact⟨Z',H',I.rE,q⟩
 | ret u=>obtain⟨v,Z',H',I,r,q⟩:=h;exact⟨v,Z',H',I.rE,r,q⟩
theorem FO.S7{st:List Stmt}{t:TS}(h:FO X.S7 st t):FO X st t:=λc_ s Z H D I hw=>
 abK (h c_ s Z H D (I.A9 _) hw) (λ_ _ q=>q.rE) λ_ _ z=>False.elim z
end
section
variable{X:Cx}{st:Stmt}{rest:List Stmt}{t u:TS}{e:Expr}{te:TE}{pos:Pos}
def S8:TS:=λD Z H=>D.nx Z H
def ix(t u:TS):TS:=λD Z H=>t {D with nx:=u D} Z H
theorem hG:FO X [] S8:=λ_ _ Z H _ I h=>wpAny_execs_nil ⟨Z,H,I,h⟩
theorem de(h1:PS X st t)(h2:FO X rest u):FO X (st::rest) (ix t u):=by
 intro c_ s Z H D I h
 refine wpAny_execs_cons (i0 (h1 c_ s Z H {D with nx:=u D} I h) λf s1 q=>?_)
 cases f with
 | next=>
  obtain⟨Z',H',I',q⟩:=q
  exact h2 c_ s1 Z' H' D I' q
 | ret v=>exact q
 | brk=>exact q
 | cont=>exact q
theorem f_(h1:PS X st t):FO X [st] t:=by
 intro c_ s Z H D I h
 refine wpAny_execs_cons (i0 (h1 c_ s Z H D I h) λf s1 q=>?_)
 cases f with
 | next=>exact wpAny_execs_nil q
 | ret v=>exact q
 | brk=>exact q
 | cont=>exact q
def S9:TS:=λD Z H=>D.ct Z H
theorem Eb:PS X (.Continue pos) S9:=λ_ _ Z H _ I h=>wpAny_Continue ⟨Z,H,I,h⟩
theorem Inv.quiet{c_:Qqz}{Z:St}{H:Hp}{s:Shared}(I:Inv X c_ Z H s):interactive X.env=false:=by simp[interactive,I.ok.kind]
def S_(te:TE):TS:=λD Z H=>te Z H λ_ H1=>D.nx Z H1
theorem hU(he:PE X e te)(hs:swapsWith e none pos.line X.env=pure false:=by rfl):PS X (.Expr e pos) (S_ te):=by
 intro c_ s Z H D I h
 exact wpAny_Expr_any (i0 (he c_ s Z H _ I h) λv s1 ⟨x,H1,I1,r1,q1⟩=>⟨Z,H1,I1,q1⟩) I.quiet hs
def Xm(te:TE):TS:=λD Z H=>te Z H D.rt
theorem hE(he:PE X e te):PS X (.Return (some e) pos) (Xm te):=by
 intro c_ s Z H D I h
 exact wpAny_Return_some (i0 (he c_ s Z H _ I h) λv s1 ⟨x,H1,I1,r1,q1⟩=>⟨x,Z,H1,I1,r1,q1⟩)
def Xn(c:TT)(t u:TS):TS:=λD Z H=>c Z H λb H1=>if b=true then t D Z H1 else u D Z H1
theorem il{c:Expr}{a b:List Stmt}{tc:TT}(hc:PT X c tc)(ha:FO X a t)(hb:FO X b u):PS X (.If c a b pos) (Xn tc t u):=by
 intro c_ s Z H D I h
 refine wpAny_If (i0 (hc c_ s Z H _ I h) λd s1 iH=>?_)
 obtain⟨H1,I1,q1⟩:=iH
 cases d with
 | true=>exact ha c_ s1 Z H1 D I1 q1
 | false=>exact hb c_ s1 Z H1 D I1 q1
end
abbrev TG:=V->St->Hp->(St->Hp->Prop)->Prop
abbrev PR:=List V->St->Hp->(St->Hp->Prop)->Prop
def PG(X:Cx)(target:Expr)(t:TG):Prop:=
 ∀(c_:Qqz)(s:Shared)(Z:St)(H:Hp)(v:V)(u:Value)(Q:St->Hp->Prop),Inv X c_ Z H s->RelV v u->t v Z H Q->
  wpAny (model X.prog X.w) X.A (assign target X.env u) (λ_ s'=>∃Z' H',Inv X c_ Z' H' s'/\Q Z' H') X.xe s
def Wb(X:Cx)(ts:List Expr)(t:PR):Prop:=
 ∀(c_:Qqz)(s:Shared)(Z:St)(H:Hp)(vs:List V)(us:List Value)(Q:St->Hp->Prop),Inv X c_ Z H s->Vals vs us->t vs Z H Q->
  wpAny (model X.prog X.w) X.A (assignInOrder ((assignEach ts X.env).map (·.2)) us) (λ_ s'=>∃Z' H',Inv X c_ Z' H' s'/\Q Z' H') X.xe s
abbrev PU:=V->V->V->Hp->(Hp->Prop)->Prop
def Ta(X:Cx)(t:PU):Prop:=
 ∀(c_:Qqz)(s:Shared)(Z:St)(H:Hp)(o i v:V)(ov iv u:Value)(Q:Hp->Prop),Inv X c_ Z H s->RelV o ov->RelV i iv->RelV v u->t o i v H Q->
  wpAny (model X.prog X.w) X.A (setItem ov iv u) (λ_ s'=>∃H',Inv X c_ Z H' s'/\Q H') X.xe s
section
variable{X:Cx}{pos:Pos}
def lA(i:Nat):TG:=λv Z H Q=>Q (Z.set i (some v)) H
theorem ir{i:Nat}{x:Str}(hN:X.N.Nodup)(hi:X.N[i]?=some x)(hx:Loc X.env.scope x)(hf:X.fn x=true\/X.env.scope.names.lookup x=some .local:=by first|exact .inl rfl|exact .inr rfl|assumption):PG X (.Name x pos) (lA i):=by
 intro c_ s Z H v u Q I r h
 exact wpAny_assign_Name (D_ I hN hi hx r (λs' I'=>⟨_,H,I',h⟩) hf)
def Xo:PR:=λvs Z H Q=>vs=[]/\Q Z H
def Tc(t:TG)(u:PR):PR:=λvs Z H Q=>∃v r,vs=v::r/\t v Z H λZ' H'=>u r Z' H' Q
theorem Hh:Wb X [] Xo:=by
 intro c_ s Z H vs us Q I r h
 obtain⟨e,h⟩:=h
 subst e
 cases r
 exact assignInOrder_nil ⟨Z,H,I,h⟩
theorem uU{e:Expr}{es:List Expr}{t:TG}{u:PR}(h1:PG X e t)(h2:Wb X es u)
  (hs:(assignEach (e::es) X.env).map (·.2)=assign e X.env::(assignEach es X.env).map (·.2):=by rfl):Wb X (e::es) (Tc t u):=by
 intro c_ s Z H vs us Q I r h
 obtain⟨v,vr,e1,h⟩:=h
 subst e1
 cases r with
 | cons r rr=>
  rw[hs]
  refine assignInOrder_cons (i0 (h1 c_ s Z H _ _ _ I r h) λ_ s1 iH=>?_)
  obtain⟨Z1,H1,I1,q1⟩:=iH
  exact h2 c_ s1 Z1 H1 _ _ Q I1 rr q1
def Xp(K:Qqy)(n:Nat)(t:PR):TG:=λv Z H Q=>∃a xs,v=.ref a/\oy K H a xs/\xs.length=n/\t xs Z H Q
theorem JI{es:List Expr}{k:Nat}{t:PR}{n:Nat}(hc:X.calm=true)(h:Wb X es t)
  (hn:(assignEach es X.env).length=n:=by rfl) (uH:(assignEach es X.env).findIdx? (·.1)=none:=by rfl):PG X (.Tuple es k pos) (Xp X.K n t):=by
 intro c_ s Z H v u Q I r hw
 obtain⟨a,xs,e1,hq,hl,hw⟩:=hw
 subst e1
 cases r
 obtain⟨g_,rv,ht,hz⟩:=I.tuple hq
 refine assign_Tuple_tuple (I.ok.hd hc) ht (by simp[hn,<-hl,rv.length]) uH λh' hx=>?_
 have I1:Inv X c_ Z H {s with heap:=h'}:=I.kept (t':=s.toks) λb o e=>hx b o (aa1 (aaK e)) e
 exact h c_ _ Z H xs _ Q I1 (by simpa using rv) hw
def Xq(to ti:TE)(t:PU):TG:=λv Z H Q=>to Z H λo H1=>ti Z H1 λi H2=>t o i v H2 λH3=>Q Z H3
theorem wB{o i:Expr}{to ti:TE}{t:PU}(ho:PE X o to)(hi:PE X i ti)(hs:Ta X t)
  (ha:∀v,assign (.Subscript o i pos) X.env v=(do
   let ov <-holding [v] (eval o X.env)
   let iv <-holding [v,ov] (eval i X.env)
   standAt pos
   holding [v,ov,iv] (setItem ov iv v)
   release [v,ov,iv] []):=by intro _;rfl):PG X (.Subscript o i pos) (Xq to ti t):=by
 intro c_ s Z H v u Q I r h
 rw[ha]
 refine UW (abT (i0 (ho c_ s Z H _ I h) λov s1 iH=>?_))
 obtain⟨x,H1,I1,r1,q1⟩:=iH
 refine UW (abT (i0 (hi c_ s1 Z H1 _ I1 q1) λiv s2 iH=>?_))
 obtain⟨y,H2,I2,r2,q2⟩:=iH
 refine UW (wpAny_standAt (UW (abT (i0 (hs c_ s2 Z H2 x y v ov iv u _ I2 r1 r2 r q2) λ_ s3 iH=>?_))))
 obtain⟨H3,I3,q3⟩:=iH
 exact wpAny_release ⟨Z,H3,I3,q3⟩
def JJ(te:TE)(g:TG):TS:=λD Z H=>te Z H λx H1=>g x Z H1 D.nx
theorem wC{tg e:Expr}{te:TE}{g:TG}(he:PE X e te)(hg:PG X tg g)(hs:swapsWithSole [tg] e pos.line X.env=pure false:=by rfl)(hw:swappedStores [tg] e X.env=pure none:=by rfl)
  (h1:(assignEach [tg] X.env).map (·.2)=[assign tg X.env]:=by rfl):PS X (.Assign [tg] e pos) (JJ te g):=by
 intro c_ s Z H D I h
 refine wpAny_Assign_stores (i0 (he c_ s Z H _ I h) λv s1 iH=>?_) hs hw
 obtain⟨x,H1,I1,r1,q1⟩:=iH
 rw[h1]
 exact i0 (hg c_ s1 Z H1 x v _ I1 r1 q1) λ_ s2 q=>q
theorem lx{i:Nat}{x:Str}{e:Expr}{te:TE}{pos':Pos}(hN:X.N.Nodup)(hi:X.N[i]?=some x)(hx:Loc X.env.scope x)(he:PE X e te)(hs:swapsWith e (some (.Name x pos')) pos.line X.env=pure false:=by rfl)(hf:X.fn x=true\/X.env.scope.names.lookup x=some .local:=by first|exact .inl rfl|exact .inr rfl|assumption) :
  PS X (.Assign [.Name x pos'] e pos) (JJ te (lA i)):=by
 intro c_ s Z H D I h
 refine wpAny_Assign_Name (i0 (he c_ s Z H _ I h) λv s1 iH=>?_) hs
 obtain⟨y,H1,I1,r1,q1⟩:=iH
 exact D_ I1 hN hi hx r1 (λs2 I2=>⟨_,H1,I2,q1⟩) hf
def PV(c:TT)(tb:TS):TS:=λD Z H=>∃W:Nat->St->Hp->Prop,(∃m,W m Z H)/\∀m Z H,W m Z H->
 c Z H λb H1=>if b=true then ∃N:St->Hp->Prop,(∀Z' H',N Z' H'->∃m',m'<m/\W m' Z' H')/\tb {D with nx:=N,ct:=N,bk:=D.nx} Z H1 else D.nx Z H1
theorem Ec{c:Expr}{body:List Stmt}{tc:TT}{tb:TS}(hp:PassesOwn (model X.prog X.w) X.A X.env X.xe)(hc:PT X c tc)(hb:FO X body tb):PS X (.While c body [] pos) (PV tc tb):=by
 intro c_ s Z H D I h
 obtain⟨W,⟨m0,w0⟩,turn⟩:=h
 refine wpAny_While (codeAny_whileLoop (λn s'=>∃Z' H',Inv X c_ Z' H' s'/\W n Z' H') ?_ m0 ⟨Z,H,I,w0⟩)
 rintro n s1 ⟨Z1,H1,I1,w1⟩
 refine ace hp (i0 (hc c_ s1 Z1 H1 _ I1 (turn n Z1 H1 w1)) λb s2 iH=>?_)
 obtain⟨H2,I2,q2⟩:=iH
 cases b with
 | true=>
  obtain⟨N,hN,q2⟩:=q2
  rw[aay rfl]
  refine ace hp (i0 (hb c_ s2 Z1 H2 _ I2 q2) λf s3 q3=>?_)
  cases f with
  | next=>
   obtain⟨Z3,H3,I3,n3⟩:=q3
   obtain⟨m',hm,w3⟩:=hN Z3 H3 n3
   exact⟨m',hm,Z3,H3,I3,w3⟩
  | cont=>
   obtain⟨Z3,H3,I3,n3⟩:=q3
   obtain⟨m',hm,w3⟩:=hN Z3 H3 n3
   exact⟨m',hm,Z3,H3,I3,w3⟩
  | brk=>exact q3
  | ret v=>exact q3
 | false=>
  rw[aaw aax]
  exact wpAny_execs_nil ⟨Z1,H2,I2,q2⟩
end
structure It where
 go:Nat->Hp->Prop
 JK:Nat->Hp->V->Hp->Prop
 stop:Nat->Hp->Prop
def uk(X:Cx)(c_:Qqz)(H:Hp)(b:Addr):Prop:=
 H b=none/\b≠X.env.locals/\b∉X.fs/\(b∈X.ex\/X.s₀.heap.objs.size<=b)/\(∀x c,X.env.cells.lookup x=some c->c≠b)/\∀p∈X.pn++c_,p.1≠b
theorem Inv.zt{X:Cx}{c_:Qqz}{Z:St}{H H':Hp}{s:Shared}{b:Addr}(I:Inv X c_ Z H s)(hb:s.heap.objs.size<=b)(hn:H' b=none):uk X c_ H' b:=by
 refine⟨hn,Nat.ne_of_gt (aaS I.lt hb),I.SX hb,.inr (aan I.sz hb),λx c e z=>?_,λp hp z=>?_⟩
 ·obtain⟨v,q⟩:=I.cell x c e
  exact absurd (aaS q.lt (by rw[z];exact hb)) (abv _)
 ·exact absurd (aaS (aaK (I.pin p hp).1) (by rw[z];exact hb)) (abv _)
structure Turn(P:Program)(w:World)(K:Qqy)(tg:Expr)(J:It)(fp:List Addr)(it:Addr)(tn:Nat->Heap->Prop):Prop where
 mem:it∈fp
 obj:∀i h,tn i h->∀b∈fp,∃o,h.get? b=some o/\∀v,o.data≠.cell v
 keep:∀i h h',tn i h->(∀b∈fp,∀o,h.get? b=some o->h'.get? b=some o)->tn i h'
 item:∀(X:Cx),X.prog=P->X.w=w->X.K=K->X.calm=true->∀(i:Nat)(c_:Qqz)(s:Shared)(Z:St)(H:Hp)(E:Qqq),Inv X c_ Z H s->(∀b∈fp,uk X c_ H b)->tn i s.heap->J.go i H->
  wpAny (model P w) X.A (pyNext (.ref it)) (λr s1=>∃u,r=some u/\
   wpAny (model P w) X.A (letOwnedTupleGo tg (.ref it) u) (λ_ s2=>∃x H',Inv X c_ Z H' s2/\RelV x u/\J.JK i H x H'/\tn (i+1) s2.heap/\∀b∈fp,H' b=none) E s1) E s
 done:∀(X:Cx),X.prog=P->X.w=w->X.K=K->X.calm=true->∀(i:Nat)(c_:Qqz)(s:Shared)(Z:St)(H:Hp)(E:Qqq),Inv X c_ Z H s->(∀b∈fp,uk X c_ H b)->tn i s.heap->J.stop i H->
  wpAny (model P w) X.A (pyNext (.ref it)) (λr s1=>r=none/\Inv X c_ Z H s1) E s
 self:∀(A:Around)(i:Nat)(s:Shared)(Q:Qqq)(E:Qqq),tn i s.heap->Q (.ref it) s->wpAny (model P w) A (pyIter (.ref it)) Q E s
abbrev TI:=St->Hp->(It->Hp->Prop)->Prop
def Xr(X:Cx)(c_:Qqz)(Z:St)(tg:Expr)(R:It->Hp->Prop)(Wo:Value)(s2:Shared):Prop:=
 ∃(it:Addr)(fp:List Addr)(tn:Nat->Heap->Prop)(J:It)(H':Hp),Wo=.ref it/\Inv X c_ Z H' s2/\Turn X.prog X.w X.K tg J fp it tn/\tn 0 s2.heap/\(∀b∈fp,uk X c_ H' b)/\R J H'
def PI(X:Cx)(tg iter:Expr)(wi:TI):Prop:=
 ∀(c_:Qqz)(s:Shared)(Z:St)(H:Hp)(R:It->Hp->Prop),Inv X c_ Z H s->wi Z H R->
  wpAny (model X.prog X.w) X.A (eval iter X.env) (λv s1=>wpAny (model X.prog X.w) X.A (pyIter v) (Xr X c_ Z tg R) X.xe s1) X.xe s
theorem zu{M:Model}{A:Around}{E:Qqq}{s:Shared}{tg:Expr}{it:Addr}{u:Value}{o:Obj}{n:String}{vs:Array Value}{Q:Unit->Shared->Prop}(ho:s.heap.get? it=some o)(hc:o.cls=.type n)(hd:o.data=.fields vs)
  (hn:["enumerate","zip","dict_itemiterator","dict_reverseitemiterator","odict_iterator","itertools.zip_longest","itertools.pairwise"].contains n=false) (hQ:Q () s):wpAny M A (letOwnedTupleGo tg (.ref it) u) Q E s:=by
 unfold letOwnedTupleGo
 cases tg<;>first
  | exact aaz hQ
  | (cases u<;>first
   | exact aaz hQ
   | (
    refine UW (wpAny_load ho ?_)
    rw[hc,hd]
    show wpAny M A (if(["enumerate","zip","dict_itemiterator","dict_reverseitemiterator","odict_iterator","itertools.zip_longest","itertools.pairwise"].contains n&&vs[0]? ==some (rawInt _))=true then _ else _) Q E s
    rw[aaw (by intro h;rw[hn,Bool.false_and] at h;cases h)]
    exact aaz hQ))
def R4(K:Qqy)(a:Addr):It:=
 ⟨λi H=>∃xs x,gN K H a xs/\xs[i]?=some x,λi H x H'=>H'=H/\∀xs,gN K H a xs->xs[i]?=some x,λi H=>∃xs,gN K H a xs/\xs.length<=i⟩
def Ow(lo:Int)(n:Nat):It:=⟨λi _=>i<n,λi H x H'=>H'=H/\x=.int (lo+i),λi _=>n<=i⟩
theorem Ij{P:Program}{w:World}{K:Qqy}{tg:Expr}(a it:Addr):Turn P w K tg (R4 K a) [it] it (λi h=>h.IsListIter it a i) where
 mem:=by simp
 obj:=λi h st b hb=>by
  have e:b=it:=by simpa using hb
  subst e
  obtain⟨o,e,c,d⟩:=st
  exact⟨o,e,λv z=>by rw[d] at z;cases z⟩
 keep:=λi h h' st k=>st.at λo e=>k it (by simp) o e
 item:=by
  intro X hP hw hK hc i c_ s Z H E I hf st hg
  subst hP hw hK
  obtain⟨xs,x,hq,hx⟩:=hg
  obtain⟨g_,rv,p,hz⟩:=I.list hq
  obtain⟨u,hu,ru⟩:=rv.get hx
  obtain⟨f0,f1,f2,f3,f4,f5⟩:=hf it (by simp)
  refine wpAny_pyNext_list_item st p.isList (x:=u) (by simpa using hu) λh' yK sb=>?_
  have I1:Inv X c_ Z H {s with heap:=h'}:=I.turned (t':=s.toks) (λb o hb e=>(sb.2 b hb).trans e) f0 f1 f3 f4 f5
  obtain⟨o,e,c,d⟩:=id yK
  exact⟨u,rfl,zu (s:={s with heap:=h'}) e c d (by decide) ⟨x,H,I1,ru,⟨rfl,λys hy=>by rw[I.pB hy hq];exact hx⟩,yK,λb hb=>(hf b hb).1⟩⟩
 done:=by
  intro X hP hw hK hc i c_ s Z H E I hf st hg
  subst hP hw hK
  obtain⟨xs,hq,hx⟩:=hg
  obtain⟨g_,rv,p,hz⟩:=I.list hq
  obtain⟨f0,f1,f2,f3,f4,f5⟩:=hf it (by simp)
  have hl:=rv.length
  exact wpAny_pyNext_list_end (I.ok.hd hc) st p.isList (by simp;omega) λh' eb=>⟨rfl,I.turned (t':=s.toks) (λb o hb e=>eb b o hb e) f0 f1 f3 f4 f5⟩
 self:=λ_ _ _ _ _ st h=>wpAny_pyIter_listiter st h
theorem FW{P:Program}{w:World}{K:PySem.W.Frag}{tg:Expr}(it:Addr)(lo:Int)(n:Nat):Turn P w K tg (Ow lo n) [it] it (λi h=>IsRangeIter h it (lo+(i:Nat)*1) ((n:Int)-(i:Nat)) 1) where
 mem:=by simp
 obj:=λi h st b hb=>by
  have e:b=it:=by simpa using hb
  subst e
  exact⟨_,st,λv z=>by
   have z':Data.fields _=Data.cell v:=z
   cases z'⟩
 keep:=λi h h' st k=>k it (by simp) _ st
 item:=by
  intro X hP hw hK hc i c_ s Z H E I hf st hg
  subst hP hw hK
  obtain⟨f0,f1,f2,f3,f4,f5⟩:=hf it (by simp)
  have W:=Walks.range (prog:=X.prog) (w:=X.w) (I.ok.hd hc) it lo 1 n
  refine W.item i s _ _ hg st λv h' tk hv yK kk=>?_
  obtain⟨t,rfl⟩:=hv
  have I1:Inv X c_ Z H {s with heap:=h',toks:=tk}:=I.turned (λb o hb e=>kk b o (by simpa using hb) e) f0 f1 f3 f4 f5
  refine⟨_,rfl,zu (s:={s with heap:=h',toks:=tk}) (n:="range_iterator") yK rfl rfl (by decide) ⟨.int (lo+i),H,I1,⟨t,?_⟩,⟨rfl,rfl⟩,yK,λb hb=>(hf b hb).1⟩⟩
  rw[Int.mul_one]
 done:=by
  intro X hP hw hK hc i c_ s Z H E I hf st hg
  subst hP hw hK
  obtain⟨f0,f1,f2,f3,f4,f5⟩:=hf it (by simp)
  exact wpAny_pyNext_range_end (I.ok.hd hc) st (by have:n<=i:=hg;omega) λh' eb=>⟨rfl,I.turned (t':=s.toks) (λb o hb e=>eb b o hb e) f0 f1 f3 f4 f5⟩
 self:=λ_ _ _ _ _ st h=>wpAny_pyIter_rangeiter st h
section
variable{X:Cx}{tg:Expr}
inductive lK(K:Qqy)(x:V)(H:Hp)(R:It->Hp->Prop):Prop
 | mk (a:Addr) (_:x=.ref a) (_:∃xs,gN K H a xs) (_:R (R4 K a) H)
def Td(K:Qqy)(tl:TE):TI:=λZ H R=>tl Z H λx H1=>lK K x H1 R
theorem ic{l:Expr}{tl:TE}(hl:PE X l tl):PI X tg l (Td X.K tl):=by
 intro c_ s Z H R I h
 refine i0 (hl c_ s Z H _ I h) λv s1 iH=>?_
 obtain⟨x,H1,I1,r1,q1⟩:=iH
 obtain⟨a,e,⟨xs,hq⟩,q⟩:=q1
 subst e
 cases r1
 obtain⟨g_,rv,p,hz⟩:=I1.list hq
 refine wpAny_pyIter_list p.isList ?_
 refine⟨s1.heap.objs.size,[s1.heap.objs.size],_,_,H1,rfl,I1.kept (t':=s1.toks) λb o e=>aaC _ e,Ij a _,⟨_,aaO _ rfl,rfl,rfl⟩,λb hb=>?_,q⟩
 have e:b=s1.heap.objs.size:=by simpa using hb
 subst e
 exact I1.zt (XW _) (I1.iK.fresh (XW _))
theorem Ed{c_:Qqz}{Z:St}{H:Hp}{s:Shared}{R:It->Hp->Prop}{E:Qqq}{lo hi:Int}{t u v:Tok}{tk:Nat}(I:Inv X c_ Z H s)(h1:-(2 ^ 62)<=lo)(h2:lo<2 ^ 62)(h3:-(2 ^ 62)<=hi)(h4:hi<2 ^ 62)
  (q:R (Ow lo (hi-lo).toNat) H):wpAny (model X.prog X.w) X.A (pyIter (.ref s.heap.objs.size)) (Xr X c_ Z tg R) E {s with heap:=s.heap.push {cls:=.type "range",data:=.fields #[.int lo t,.int hi u,.int 1 v]},toks:=tk}:=by
 refine wpAny_pyIter_range (IsRange.new ..) (small_one h1 h2 h3 h4) ?_
 have I1:Inv X c_ Z H {s with heap:=s.heap.push {cls:=.type "range",data:=.fields #[.int lo t,.int hi u,.int 1 v]},toks:=tk}:=I.kept λb o e=>aaC _ e
 refine⟨(s.heap.push {cls:=.type "range",data:=.fields #[.int lo t,.int hi u,.int 1 v]}).objs.size,[(s.heap.push {cls:=.type "range",data:=.fields #[.int lo t,.int hi u,.int 1 v]}).objs.size],_,_,H,rfl,
  I1.kept (t':=tk) λb o e=>aaC _ e,FW _ lo (hi-lo).toNat,?_,λb hb=>?_,q⟩
 ·have e1:lo+((0:Nat):Int)*1=lo:=by simp
  have e2:(((hi-lo).toNat:Nat):Int)-((0:Nat):Int)=Builtin.Range.rangeSize lo hi 1:=by rw[rangeSize_one];split<;>omega
  show IsRangeIter _ _ (lo+((0:Nat):Int)*1) ((((hi-lo).toNat:Nat):Int)-((0:Nat):Int)) 1
  rw[e1,e2]
  exact aaO _ rfl
 ·have e:b=(s.heap.push {cls:=.type "range",data:=.fields #[.int lo t,.int hi u,.int 1 v]}).objs.size:=by simpa using hb
  subst e
  exact I1.zt (XW _) (I1.iK.fresh (XW _))
def Te(ta:TA):TI:=λZ H R=>ta Z H λvs H1=>∃j:Int,vs=[.int j]/\-(2 ^ 62)<=j/\j<2 ^ 62/\R (Ow 0 j.toNat) H1
def Tf(ta:TA):TI:=λZ H R=>ta Z H λvs H1=>∃i j:Int,vs=[.int i,.int j]/\(-(2 ^ 62)<=i/\i<2 ^ 62/\-(2 ^ 62)<=j/\j<2 ^ 62)/\R (Ow i (j-i).toNat) H1
theorem jS{a:Expr}{ta:TA}{p pos:Pos}(hg:Gl X "range")(hm:X.mg "range"=none)(ha:PA X [a] ta)(hs:starEach [a] X.env=[(false,eval a X.env)]:=by rfl):PI X tg (.Call (.Name "range" p) [a] [] pos) (Te ta):=by
 intro c_ s Z H R I h
 refine Call_ (o3 I hg hm boot_range (abh (i0 (ha pos c_ s Z H _ I h) λus s1 iH=>?_) hs rfl))
 obtain⟨vs,H1,I1,r1,q1⟩:=iH
 obtain⟨j,e,q1,q2,q⟩:=q1
 subst e
 cases r1 with
 | cons r rr=>
  cases rr
  obtain⟨t,rfl⟩:=r
  exact call_range_1 (Ed I1 (by omega) (by omega) q1 q2 (by simpa using q))
theorem BE{a b:Expr}{ta:TA}{p pos:Pos}(hg:Gl X "range")(hm:X.mg "range"=none)(ha:PA X [a,b] ta)(hs:starEach [a,b] X.env=[(false,eval a X.env),(false,eval b X.env)]:=by rfl)(Fx:starEach [b] X.env=[(false,eval b X.env)]:=by rfl) :
  PI X tg (.Call (.Name "range" p) [a,b] [] pos) (Tf ta):=by
 intro c_ s Z H R I h
 refine Call_ (o3 I hg hm boot_range (abh (i0 (ha pos c_ s Z H _ I h) λus s1 iH=>?_) (by rw[hs,Fx]) (by rw[Fx];rfl)))
 obtain⟨vs,H1,I1,r1,q1⟩:=iH
 obtain⟨i,j,e,⟨q1,q2,q3,q4⟩,q⟩:=q1
 subst e
 cases r1 with
 | cons r rr=>
  cases rr with
  | cons r' rr=>
   cases rr
   obtain⟨t,rfl⟩:=r
   obtain⟨t',rfl⟩:=r'
   exact call_range_2 (Ed I1 q1 q2 q3 q4 q)
def PX(wi:TI)(g:TG)(tb:TS):TS:=λD Z H=>wi Z H λJ H1=>∃W:Nat->Nat->St->Hp->Prop,(∃m,W 0 m Z H1)/\∀i m Z H,W i m Z H->
 (J.stop i H/\D.nx Z H)\/(J.go i H/\∃N:St->Hp->Prop,(∀Z' H',N Z' H'->∃m',m'<m/\W (i+1) m' Z' H')/\∀x H',J.JK i H x H'->g x Z H' λZ2 H2=>tb {D with nx:=N,ct:=N,bk:=D.nx} Z2 H2)
def zv(fp:List Addr)(h:Heap):Qqz:=fp.filterMap λb=>(h.get? b).map λo=>(b,o)
theorem qj{fp:List Addr}{h:Heap}{b:Addr}{o:Obj}(hb:b∈fp)(e:h.get? b=some o):(b,o)∈zv fp h:=abx.mpr ⟨b,hb,by rw[e];rfl⟩
theorem Ik{fp:List Addr}{h:Heap}{p:Addr×Obj}(hp:p∈zv fp h):p.1∈fp/\h.get? p.1=some p.2:=by
 obtain⟨b,hb,e⟩:=abx.mp hp
 cases q:h.get? b with
 | none=>rw[q] at e;cases e
 | some o=>
  rw[q] at e
  have e':(b,o)=p:=aaF e
  subst e'
  exact⟨hb,q⟩
theorem Inv.pinned{c_:Qqz}{Z:St}{H:Hp}{s:Shared}{fp:List Addr}(I:Inv X c_ Z H s)(hf:∀b∈fp,uk X c_ H b)(ho:∀b∈fp,∃o,s.heap.get? b=some o/\∀v,o.data≠.cell v):Inv X (c_++zv fp s.heap) Z H s:=
 I.y_ λp hp=>(aal.mp hp).elim (λz=>I.pin p (aaX _ z)) λz=>by
  obtain⟨hb,e⟩:=Ik z
  obtain⟨f0,f1,f2,_⟩:=hf p.1 hb
  obtain⟨o,e',d⟩:=ho p.1 hb
  rw[e] at e';cases e'
  exact⟨e,f0,f1,f2,d⟩
theorem Inv.uV{c_ pl:Qqz}{Z:St}{H:Hp}{s:Shared}(I:Inv X (c_++pl) Z H s):Inv X c_ Z H s:=I.y_ λp hp=>I.pin p (aaX _ (aaJ _ hp))
theorem iD{iter:Expr}{body:List Stmt}{wi:TI}{g:TG}{tb:TS}{pos:Pos}(hp:PassesOwn (model X.prog X.w) X.A X.env X.xe)(hc:X.calm=true)(hi:PI X tg iter wi)(hg:PG X tg g)(hb:FO X body tb)
  (hs:∀x,foldedSetIterable iter X.env x=pure x:=by intro _;rfl):PS X (.For tg iter body [] pos) (PX wi g tb):=by
 intro c_ s Z H D I h
 refine wpAny_For (i0 (hi c_ s Z H _ I h) λv s1 h1=>i0 h1 λWo s2 h2=>?_) hs
 obtain⟨it,fp,tn,J,H2,e,I2,T,Bw,f2,W,⟨m0,w0⟩,turn⟩:=h2
 subst e
 have Rc:∀{H':Hp},(∀b∈fp,H' b=none)->∀b∈fp,uk X c_ H' b:=λhn b hb=>⟨hn b hb,(f2 b hb).2⟩
 refine codeAny_forLoop_any (λn s'=>∃i Z' H',Inv X c_ Z' H' s'/\tn i s'.heap/\(∀b∈fp,H' b=none)/\W i n Z' H') ?_ m0 ⟨0,Z,H2,I2,Bw,λb hb=>(f2 b hb).1,w0⟩
 rintro n s3 ⟨i,Z3,H3,I3,rD,Uu,w3⟩
 rcases turn i n Z3 H3 w3 with⟨stop,qn⟩|⟨go,N,hN,step⟩
 ·refine ace hp (i0 (T.done X rfl rfl rfl hc i c_ s3 Z3 H3 X.xe I3 (Rc Uu) rD stop) λr s4 iH=>?_)
  obtain⟨hr,I4⟩:=iH
  subst hr
  exact wpAny_execs_nil ⟨Z3,H3,I4,qn⟩
 ·refine ace hp (i0 (T.item X rfl rfl rfl hc i c_ s3 Z3 H3 X.xe I3 (Rc Uu) rD go) λr s4 iH=>?_)
  obtain⟨u,hr,h4⟩:=iH
  subst hr
  refine ace hp (i0 h4 λ_ s5 iH=>?_)
  obtain⟨x,H5,I5,r5,y5,Rf,Yo⟩:=iH
  have Yp:=I5.pinned (Rc Yo) (T.obj _ _ Rf)
  refine ace hp (i0 (hg _ s5 Z3 H5 x u _ Yp r5 (step x H5 y5)) λ_ s6 iH=>?_)
  obtain⟨Z6,H6,I6,q6⟩:=iH
  refine ace hp (i0 (hb _ s6 Z6 H6 _ I6 q6) λf s7 q7=>?_)
  have again:∀{Z7:St} {H7:Hp},Inv X (c_++zv fp s5.heap) Z7 H7 s7->N Z7 H7->∃m,m<n/\∃i Z' H',Inv X c_ Z' H' s7/\tn i s7.heap/\(∀b∈fp,H' b=none)/\W i m Z' H':=λ{Z7 H7} I7 n7=>by
   obtain⟨m',hm,w7⟩:=hN Z7 H7 n7
   refine⟨m',hm,i+1,Z7,H7,I7.uV,T.keep _ _ _ Rf λb hb o e=>(I7.pin (b,o) (aaX _ (aaX _ (qj hb e)))).1,λb hb=>?_,w7⟩
   obtain⟨o,e,d⟩:=T.obj _ _ Rf b hb
   exact(I7.pin (b,o) (aaX _ (aaX _ (qj hb e)))).2.1
  cases f with
  | next=>obtain⟨Z7,H7,I7,n7⟩:=q7;exact again I7 n7
  | cont=>obtain⟨Z7,H7,I7,n7⟩:=q7;exact again I7 n7
  | brk=>obtain⟨Z7,H7,I7,q7⟩:=q7;exact⟨Z7,H7,I7.uV,q7⟩
  | ret v=>obtain⟨x7,Z7,H7,I7,r7,q7⟩:=q7;exact⟨x7,Z7,H7,I7.uV,r7,q7⟩
end
theorem iU{K:PySem.W.Frag}{a:Addr}{xs:List V}{g:TG}{tb:TS}{D:Ends}{Z:St}{H:Hp}(Pv:Nat->St->Hp->Prop)(h0:Pv 0 Z H)(hl:∀i Z H,i<=xs.length->Pv i Z H->gN K H a xs)
  (hs:∀i x Z H,xs[i]?=some x->Pv i Z H->g x Z H λZ2 H2=>tb {D with nx:=Pv (i+1),ct:=Pv (i+1),bk:=D.nx} Z2 H2) (hd:∀Z H,Pv xs.length Z H->D.nx Z H) :
  ∃W:Nat->Nat->St->Hp->Prop,(∃m,W 0 m Z H)/\∀i m Z H,W i m Z H->
   ((R4 K a).stop i H/\D.nx Z H)\/((R4 K a).go i H/\∃N:St->Hp->Prop,(∀Z' H',N Z' H'->∃m',m'<m/\W (i+1) m' Z' H')/\∀x H',(R4 K a).JK i H x H'->g x Z H' λZ2 H2=>tb {D with nx:=N,ct:=N,bk:=D.nx} Z2 H2):=by
 refine⟨λi m Z H=>m=xs.length-i/\i<=xs.length/\Pv i Z H,⟨xs.length,by simp,aaZ _,h0⟩,?_⟩
 rintro i m Z H ⟨rfl,hi,p⟩
 have q:=hl i Z H hi p
 by_cases j2:i<xs.length
 ·refine .inr ⟨⟨xs,xs[i],q,by simp[j2]⟩,Pv (i+1),λZ' H' p'=>⟨xs.length-(i+1),by omega,rfl,j2,p'⟩,λx H' y=>?_⟩
  obtain⟨e,y⟩:=y
  subst e
  exact hs i x Z _ (y xs q) p
 ·have e:i=xs.length:=by omega
  subst e
  exact .inl ⟨⟨xs,q,XW _⟩,hd Z H p⟩
theorem lB{lo:Int}{n:Nat}{g:TG}{tb:TS}{D:Ends}{Z:St}{H:Hp}(Pv:Nat->St->Hp->Prop)(h0:Pv 0 Z H)
  (hs:∀i Z H,i<n->Pv i Z H->g (.int (lo+i)) Z H λZ2 H2=>tb {D with nx:=Pv (i+1),ct:=Pv (i+1),bk:=D.nx} Z2 H2) (hd:∀Z H,Pv n Z H->D.nx Z H) :
  ∃W:Nat->Nat->St->Hp->Prop,(∃m,W 0 m Z H)/\∀i m Z H,W i m Z H->
   ((Ow lo n).stop i H/\D.nx Z H)\/((Ow lo n).go i H/\∃N:St->Hp->Prop,(∀Z' H',N Z' H'->∃m',m'<m/\W (i+1) m' Z' H')/\∀x H',(Ow lo n).JK i H x H'->g x Z H' λZ2 H2=>tb {D with nx:=N,ct:=N,bk:=D.nx} Z2 H2):=by
 refine⟨λi m Z H=>m=n-i/\i<=n/\Pv i Z H,⟨n,by simp,aaZ _,h0⟩,?_⟩
 rintro i m Z H ⟨rfl,hi,p⟩
 by_cases j2:i<n
 ·refine .inr ⟨j2,Pv (i+1),λZ' H' p'=>⟨n-(i+1),by omega,rfl,j2,p'⟩,λx H' y=>?_⟩
  obtain⟨e,y⟩:=y
  subst e y
  exact hs i Z _ j2 p
 ·have e:i=n:=by omega
  subst e
  exact .inl ⟨XW _,hd Z H p⟩
abbrev R2:=V->V->Hp->VK->Prop
def xO(X:Cx)(f:Value->Value->Sem Value)(r:R2):Prop:=
 ∀(c_:Qqz)(s:Shared)(Z:St)(H:Hp)(x y:V)(v u:Value)(Q:VK),Inv X c_ Z H s->RelV x v->RelV y u->r x y H Q->
  wpAny (model X.prog X.w) X.A (f v u) (EP X c_ Z Q) X.xe s
def Xs(X:Cx)(f:Value->Sem Value)(r:V->Hp->VK->Prop):Prop:=
 ∀(c_:Qqz)(s:Shared)(Z:St)(H:Hp)(x:V)(v:Value)(Q:VK),Inv X c_ Z H s->RelV x v->r x H Q->
  wpAny (model X.prog X.w) X.A (f v) (EP X c_ Z Q) X.xe s
def uW(X:Cx)(f:Value)(r:List V->Hp->VK->Prop):Prop:=
 ∀(c_:Qqz)(s:Shared)(Z:St)(H:Hp)(xs:List V)(us:List Value)(Q:VK),Inv X c_ Z H s->Vals xs us->r xs H Q->
  wpAny (model X.prog X.w) X.A (call f us) (EP X c_ Z Q) X.xe s
def Xt(X:Cx)(r:V->Hp->(Bool->Hp->Prop)->Prop):Prop:=
 ∀(c_:Qqz)(s:Shared)(Z:St)(H:Hp)(x:V)(v:Value)(Q:Bool->Hp->Prop),Inv X c_ Z H s->RelV x v->r x H Q->
  wpAny (model X.prog X.w) X.A (truthy v) (TP X c_ Z Q) X.xe s
def Wc(r:R2)(ta tb:TE):TE:=λZ H Q=>ta Z H λx H1=>tb Z H1 λy H2=>r x y H2 Q
def tUn(r:V->Hp->VK->Prop)(ta:TE):TE:=λZ H Q=>ta Z H λx H1=>r x H1 Q
inductive rI(C:Int->Int->Prop)(g:Int->Int->V)(x:V)(y:V)(H:Hp)(Q:VK):Prop
 | mk (i j) (_:x=.int i) (_:y=.int j) (_:C i j) (_:Q (g i j) H)
inductive Ox(g:Int->Int->V)(x:V)(y:V)(H:Hp)(Q:VK):Prop
 | mk (i j) (_:x=.int i) (_:y=.int j) (_:Q (g i j) H)
def rU(g:Int->V):V->Hp->VK->Prop:=λx H Q=>∃i,x=.int i/\Q (g i) H
section
variable{X:Cx}{a b c:Expr}{ta tb tc:TE}{pos:Pos}
theorem Tg(ha:PE X a ta)(hb:PE X b tb){c_:Qqz}{s:Shared}{Z:St}{H:Hp}{R:V->V->Hp->Prop}(I:Inv X c_ Z H s)
  (h:ta Z H λx H1=>tb Z H1 λy H2=>R x y H2) {Q:Qqq} {f:Value->Value->Sem Value}
  (hf:∀v u s2 x y H2,Inv X c_ Z H2 s2->RelV x v->RelV y u->R x y H2->wpAny (model X.prog X.w) X.A (f v u) Q X.xe s2) :
  wpAny (model X.prog X.w) X.A (eval a X.env) (λv s₁=>wpAny (model X.prog X.w) X.A (eval b X.env) (λu s₂=>wpAny (model X.prog X.w) X.A (f v u) Q X.xe s₂) X.xe s₁) X.xe s:=by
 refine i0 (ha c_ s Z H _ I h) λv s1 iH=>?_
 obtain⟨x,H1,I1,r1,q1⟩:=iH
 refine i0 (hb c_ s1 Z H1 _ I1 q1) λu s2 iH=>?_
 obtain⟨y,H2,I2,r2,q2⟩:=iH
 exact hf v u s2 x y H2 I2 r1 r2 q2
theorem gD{op:Operator}{r:R2}(ho:xO X (binaryOp op) r)(ha:PE X a ta)(hb:PE X b tb):PE X (.BinOp a op b pos) (Wc r ta tb):=by
 intro c_ s Z H Q I h
 exact wpAny_BinOp (Tg ha hb I h λv u s2 x y H2 I2 rx ry q=>ho c_ s2 Z H2 x y v u Q I2 rx ry q)
theorem xP{op:UnaryOp}{r:V->Hp->VK->Prop}(ho:Xs X (unaryOp op) r)(ha:PE X a ta):PE X (.UnaryOp op a pos) (tUn r ta):=by
 intro c_ s Z H Q I h
 exact UnaryOp_ (i0 (ha c_ s Z H _ I h) λv s1 ⟨x,H1,I1,r1,q1⟩=>ho c_ s1 Z H1 x v Q I1 r1 q1)
theorem Xu{f:Value->Value->Sem Value}{C:Int->Int->Prop}{g:Int->Int->Int}
  (rule:∀(i j:Int)(t u:Tok)(s:Shared)(Q:Qqq)(E:Qqq),C i j->Q (.int (g i j) s.toks) {s with toks:=s.toks+1}->wpAny (model X.prog X.w) X.A (f (.int i t) (.int j u)) Q E s) :
  xO X f (rI C λi j=>.int (g i j)):=by
 intro c_ s Z H x y v u Q I rx ry h
 obtain⟨i,j,rfl,rfl,hc,q⟩:=h
 obtain⟨t,rfl⟩:=rx
 obtain⟨t',rfl⟩:=ry
 exact rule i j t t' s _ _ hc ⟨.int (g i j),H,I.tok _,⟨_,rfl⟩,q⟩
theorem Th{f:Value->Value->Sem Value}{g:Int->Int->Int}
  (rule:∀(i j:Int)(t u:Tok)(s:Shared)(Q:Qqq)(E:Qqq),Q (.int (g i j) s.toks) {s with toks:=s.toks+1}->wpAny (model X.prog X.w) X.A (f (.int i t) (.int j u)) Q E s) :
  xO X f (Ox λi j=>.int (g i j)):=by
 intro c_ s Z H x y v u Q I rx ry h
 obtain⟨i,j,rfl,rfl,q⟩:=h
 obtain⟨t,rfl⟩:=rx
 obtain⟨t',rfl⟩:=ry
 exact rule i j t t' s _ _ ⟨.int (g i j),H,I.tok _,⟨_,rfl⟩,q⟩
theorem ME{f:Value->Value->Sem Value}{g:Int->Int->Bool}
  (rule:∀(i j:Int)(t u:Tok)(s:Shared)(Q:Qqq)(E:Qqq),Q (.bool (g i j)) s->wpAny (model X.prog X.w) X.A (f (.int i t) (.int j u)) Q E s) :
  xO X f (Ox λi j=>.bl (g i j)):=by
 intro c_ s Z H x y v u Q I rx ry h
 obtain⟨i,j,rfl,rfl,q⟩:=h
 obtain⟨t,rfl⟩:=rx
 obtain⟨t',rfl⟩:=ry
 exact rule i j t t' s _ _ ⟨.bl (g i j),H,I,rfl,q⟩
def Xv(i j:Int):Prop:=0<j/\j<1073741824
def PY(i j:Int):Prop:=(-(2 ^ 64)<i/\i<2 ^ 64)\/(-(2 ^ 64)<j/\j<2 ^ 64)
theorem PY.ok{i j:Int}(h:PY i j):IntMulOk i j:=by
 rcases h with⟨h1,h2⟩|⟨h1,h2⟩
 ·exact .of_left (intBits_le_64 h1 h2)
 ·exact .of_right (intBits_le_64 h1 h2)
theorem iy:xO X (binaryOp .Add) (Ox λi j=>.int (i+j)):=Th λ_ _ _ _ _ _ _ q=>add_int q
theorem Cu:xO X (binaryOp .Sub) (Ox λi j=>.int (i-j)):=Th λ_ _ _ _ _ _ _ q=>sub_int q
theorem rF:xO X (binaryOp .Mult) (rI PY λi j=>.int (i*j)):=Xu λ_ _ _ _ _ _ _ hc q=>mul_int q hc.ok
theorem jj:xO X (binaryOp .FloorDiv) (rI Xv λi j=>.int (i/j)):=Xu λi j _ _ _ _ _ hc q=>by
 have h1:(0:Int)<j:=hc.1
 have h2:j<1073741824:=hc.2
 exact floordiv_int (by omega) (by rw[Int.fdiv_eq_ediv_of_nonneg i (by omega)];exact q) (.inl (PyProof.noPylong_small (by omega)))
theorem iz:xO X (binaryOp .Mod) (rI (λ_ j=>0<j) λi j=>.int (i%j)):=Xu λi j _ _ _ _ _ hc q=>by
 have h1:(0:Int)<j:=hc
 exact mod_int' (by omega) (by rw[Int.fmod_eq_emod_of_nonneg i (by omega)];exact q)
theorem unI{f:Value->Sem Value}{g:Int->Int}
  (rule:∀(i:Int)(t:Tok)(s:Shared)(Q:Qqq)(E:Qqq),Q (.int (g i) s.toks) {s with toks:=s.toks+1}->wpAny (model X.prog X.w) X.A (f (.int i t)) Q E s) :
  Xs X f (rU λi=>.int (g i)):=by
 intro c_ s Z H x v Q I rx h
 obtain⟨i,rfl,q⟩:=h
 obtain⟨t,rfl⟩:=rx
 exact rule i t s _ _ ⟨.int (g i),H,I.tok _,⟨_,rfl⟩,q⟩
theorem rG:Xs X (unaryOp .USub) (rU λi=>.int (-i)):=unI λ_ _ _ _ _ q=>neg_int q
end
noncomputable def PZ:V->V->Bool
 | .jb,.jb=>true|.jb,.int _=>true|.int _,.jb=>true|.jb,.bl _=>true|.bl _,.jb=>true|.jb,.str _=>true|.str _,.jb=>true
 | .int _,.int _=>true|.bl _,.bl _=>true|.str _,.str _=>true|.D8 _,.D8 _=>true
 | .int _,.str _=>true|.str _,.int _=>true|.bl _,.str _=>true|.str _,.bl _=>true
 | _,_=>false
noncomputable def rEq:R2:=λx y H Q=>PZ x y=true/\Q (.bl (decide (x=y))) H
noncomputable def rNe:R2:=λx y H Q=>PZ x y=true/\Q (.bl (!decide (x=y))) H
theorem Hi{i j:Int}:decide (V.int i=V.int j)=(i ==j):=by
 rw[abo]
 simp
theorem JL{i j:Bool}:decide (V.bl i=V.bl j)=(i ==j):=by
 rw[abo]
 simp
theorem Hj{i j:Str}:decide (V.str i=V.str j)=(i ==j):=by
 rw[abo]
 simp
theorem Hk{i j:Array UInt8}:decide (V.D8 i=V.D8 j)=(i.toList ==j.toList):=by
 rw[abo]
 cases i
 cases j
 simp
section
variable{X:Cx}{a b c:Expr}{ta tb tc:TE}{pos:Pos}
theorem iO{c_:Qqz}{Z:St}{H:Hp}{s:Shared}{Q:VK}{k k':Bool}(I:Inv X c_ Z H s)(q:Q (.bl k) H)(e:k=k'):EP X c_ Z Q (.bool k') s:=by
 subst e
 exact⟨.bl k,H,I,rfl,q⟩
theorem mB:xO X (compareOp .Eq) rEq:=by
 intro c_ s Z H x y v u Q I rx ry h
 obtain⟨hs,q⟩:=h
 cases x with
 | jb=>
  cases rx
  cases y with
  | jb=>cases ry;exact PySem.EqNone.eq_none_none (iO I q (by simp))
  | bl j=>cases ry;exact PySem.EqNone.eq_none_bool (iO I q (by simp))
  | int j=>obtain⟨t',rfl⟩:=ry;exact PySem.EqNone.eq_none_int (iO I q (by simp))
  | str j=>obtain⟨t',rfl⟩:=ry;exact PySem.EqNone.eq_none_str (iO I q (by simp))
  | _=>exact absurd (show false=true from hs) aax
 | bl i=>
  cases rx
  cases y with
  | jb=>cases ry;exact PySem.EqNone.eq_bool_none (iO I q (by simp))
  | bl j=>cases ry;exact eq_bool (iO I q JL)
  | str j=>obtain⟨t',rfl⟩:=ry;exact PySem.EqMixed.eq_bool_str (iO I q (by simp))
  | _=>exact absurd (show false=true from hs) aax
 | int i=>
  obtain⟨t,rfl⟩:=rx
  cases y with
  | jb=>cases ry;exact PySem.EqNone.eq_int_none (iO I q (by simp))
  | int j=>obtain⟨t',rfl⟩:=ry;exact eq_int (iO I q Hi)
  | str j=>obtain⟨t',rfl⟩:=ry;exact PySem.EqMixed.eq_int_str (iO I q (by simp))
  | _=>exact absurd (show false=true from hs) aax
 | str i=>
  obtain⟨t,rfl⟩:=rx
  cases y with
  | jb=>cases ry;exact PySem.EqNone.eq_str_none (iO I q (by simp))
  | bl j=>cases ry;exact PySem.EqMixed.eq_str_bool (iO I q (by simp))
  | int j=>obtain⟨t',rfl⟩:=ry;exact PySem.EqMixed.eq_str_int (iO I q (by simp))
  | str j=>obtain⟨t',rfl⟩:=ry;exact eq_str (iO I q Hj)
  | _=>exact absurd (show false=true from hs) aax
 | D8 i=>
  obtain⟨t,rfl⟩:=rx
  cases y with
  | D8 j=>obtain⟨t',rfl⟩:=ry;exact W.eq_bytes (iO I q Hk)
  | _=>exact absurd (show false=true from hs) aax
 | _=>cases y<;>exact absurd (show false=true from hs) aax
theorem Hl:xO X (compareOp .NotEq) rNe:=by
 intro c_ s Z H x y v u Q I rx ry h
 obtain⟨hs,q⟩:=h
 cases x with
 | jb=>
  cases rx
  cases y with
  | jb=>cases ry;exact PySem.EqNone.ne_none_none (iO I q (by simp))
  | bl j=>cases ry;exact PySem.EqNone.ne_none_bool (iO I q (by simp))
  | int j=>obtain⟨t',rfl⟩:=ry;exact PySem.EqNone.ne_none_int (iO I q (by simp))
  | str j=>obtain⟨t',rfl⟩:=ry;exact PySem.EqNone.ne_none_str (iO I q (by simp))
  | _=>exact absurd (show false=true from hs) aax
 | bl i=>
  cases rx
  cases y with
  | jb=>cases ry;exact PySem.EqNone.ne_bool_none (iO I q (by simp))
  | bl j=>cases ry;exact ne_bool (iO I q (abe not JL))
  | str j=>obtain⟨t',rfl⟩:=ry;exact PySem.EqMixed.ne_bool_str (iO I q (by simp))
  | _=>exact absurd (show false=true from hs) aax
 | int i=>
  obtain⟨t,rfl⟩:=rx
  cases y with
  | jb=>cases ry;exact PySem.EqNone.ne_int_none (iO I q (by simp))
  | int j=>obtain⟨t',rfl⟩:=ry;exact ne_int (iO I q (abe not Hi))
  | str j=>obtain⟨t',rfl⟩:=ry;exact PySem.EqMixed.ne_int_str (iO I q (by simp))
  | _=>exact absurd (show false=true from hs) aax
 | str i=>
  obtain⟨t,rfl⟩:=rx
  cases y with
  | jb=>cases ry;exact PySem.EqNone.ne_str_none (iO I q (by simp))
  | bl j=>cases ry;exact PySem.EqMixed.ne_str_bool (iO I q (by simp))
  | int j=>obtain⟨t',rfl⟩:=ry;exact PySem.EqMixed.ne_str_int (iO I q (by simp))
  | str j=>obtain⟨t',rfl⟩:=ry;exact ne_str (iO I q (abe not Hj))
  | _=>exact absurd (show false=true from hs) aax
 | D8 i=>
  obtain⟨t,rfl⟩:=rx
  cases y with
  | D8 j=>obtain⟨t',rfl⟩:=ry;exact W.ne_bytes (iO I q (abe not Hk))
  | _=>exact absurd (show false=true from hs) aax
 | _=>cases y<;>exact absurd (show false=true from hs) aax
theorem Ee:xO X (compareOp .Lt) (Ox λi j=>.bl (decide (i<j))):=ME λ_ _ _ _ _ _ _ q=>lt_int q
theorem JM:xO X (compareOp .LtE) (Ox λi j=>.bl (decide (i<=j))):=ME λ_ _ _ _ _ _ _ q=>le_int q
theorem Ef:xO X (compareOp .Gt) (Ox λi j=>.bl (decide (j<i))):=ME λ_ _ _ _ _ _ _ q=>gt_int q
theorem Ti:xO X (compareOp .GtE) (Ox λi j=>.bl (decide (j<=i))):=ME λ_ _ _ _ _ _ _ q=>ge_int q
theorem Cv:xO X (compareOp .NotIn) (λx y H Q=>∃i j,x=.str i/\y=.str j/\Q (.bl (!(!(Builtin.Str.occurrences j i 0 j.length 1).isEmpty))) H):=by
 intro c_ s Z H x y v u Q I rx ry h
 obtain⟨i,j,rfl,rfl,q⟩:=h
 obtain⟨t,rfl⟩:=rx
 obtain⟨t',rfl⟩:=ry
 exact notIn_str (iO I q rfl)
theorem iA(b:Expr){op:CmpOp}(h:op≠.In:=by decide)(h2:op≠.NotIn:=by decide):behindInMarks op b=false:=by
 have e1:(op ==CmpOp.In)=false:=by cases op<;>first|rfl|exact absurd rfl h
 have e2:(op ==CmpOp.NotIn)=false:=by cases op<;>first|rfl|exact absurd rfl h2
 cases b<;>simp[behindInMarks,e1,e2]
def Oy(t:TE):TT:=λZ H Q=>t Z H λx H'=>bK x H' Q
theorem hV{op:CmpOp}{r:R2}(ho:xO X (compareOp op) r)(ha:PE X a ta)(hb:PE X b tb)(hm:behindInMarks op b=false):PT X (.Compare a [op] [b] pos) (Oy (Wc r ta tb)):=by
 intro c_ s Z H Q I h
 refine wpAny_isTrue_Compare1 (i0 (ha c_ s Z H _ I h) λv s1 ⟨x,H1,I1,r1,q1⟩=>i0 (hb c_ s1 Z H1 _ I1 q1) λu s2 ⟨y,H2,I2,r2,q2⟩=>
  i0 (ho c_ s2 Z H2 x y v u _ I2 r1 r2 q2) λc s3 ⟨z,H3,I3,r3,k,e,q3⟩=>?_) hm
 subst e
 cases r3
 exact abN ⟨H3,I3,q3⟩
def P0(r r':R2)(ta tb tc:TE):TE:=λZ H Q=>ta Z H λx H1=>tb Z H1 λy H2=>r x y H2 λz H3=>∃k,z=.bl k/\
 (if k=true then tc Z H3 λw' H4=>r' y w' H4 Q else Q (.bl false) H3)
theorem Eg{op Yq:CmpOp}{r r':R2}(ho:xO X (compareOp op) r)(qg:xO X (compareOp Yq) r')(ha:PE X a ta)(hb:PE X b tb)(hc:PE X c tc)
  (hm:lastMarks [op,Yq] [b,c]=false:=by with_unfolding_all rfl):PT X (.Compare a [op,Yq] [b,c] pos) (Oy (P0 r r' ta tb tc)):=by
 intro c_ s Z H Q I h
 refine isTrue_chain (i0 (ha c_ s Z H _ I h) λv s1 ⟨x,H1,I1,r1,q1⟩=>test_link (i0 (hb c_ s1 Z H1 _ I1 q1) λu s2 ⟨y,H2,I2,r2,q2⟩=>
  i0 (ho c_ s2 Z H2 x y v u _ I2 r1 r2 q2) λd s3 ⟨z,H3,I3,r3,k,e,q3⟩=>?_)) hm
 subst e
 cases r3
 refine abN ?_
 cases k with
 | false=>
  obtain⟨k',e',q'⟩:=q3
  cases e'
  exact ite_ff ⟨H3,I3,q'⟩
 | true=>
  refine ite_tt (test_last (i0 (hc c_ s3 Z H3 _ I3 q3) λw' s4 iH=>?_))
  obtain⟨z',H4,I4,r4,q4⟩:=iH
  refine i0 (qg c_ s4 Z H4 y z' u w' _ I4 r2 r4 q4) λd' s5 Jp=>?_
  obtain⟨z2,H5,I5,r5,k2,e2,q5⟩:=Jp
  subst e2
  cases r5
  exact abN ⟨H5,I5,q5⟩
def Tj(K:Qqy)(x:V)(H:Hp)(k:Bool):Prop:=
 match x with
 | .jb=>k=false
 | .bl b=>k=b
 | .int i=>k=(i != 0)
 | .str y=>y.length<=sizeLine/\k=((y.length:Int) != 0)
 | .D8 y=>y.size<=sizeLine/\k=((y.size:Int) != 0)
 | .ref p=>(∃xs,gN K H p xs/\k=!xs.isEmpty)\/(∃xs,oy K H p xs/\k=!xs.isEmpty)\/∃kvs,H p=some (.dK kvs)/\k=!kvs.isEmpty
 | _=>False
theorem FX{Z:Type}{kvs:List (Z×V)}{vs:List (Z×Value)}(r:KV kvs vs):(!vs.isEmpty)=!kvs.isEmpty:=by
 cases r<;>rfl
theorem zw{xs:List V}{g_:List Value}(r:Vals xs g_):(!g_.toArray.isEmpty)=!xs.isEmpty:=by
 cases r<;>simp
theorem um:(sizeLine:Nat)<2 ^ 63:=by rw[acI];decide
theorem P1:Xt X (λx H Q=>∃k,Tj X.K x H k/\Q k H):=by
 intro c_ s Z H x v Q I rx h
 obtain⟨k,e,q⟩:=h
 have hl:=um
 have hs:sizeLine=16777216:=acI
 cases x with
 | jb=>
  cases rx
  have e':k=false:=e
  subst e'
  exact truthy_none ⟨H,I,q⟩
 | bl b=>
  cases rx
  have e':k=b:=e
  subst e'
  exact abN ⟨H,I,q⟩
 | int i=>
  obtain⟨t,rfl⟩:=rx
  have e':k=(i != 0):=e
  subst e'
  exact PySem.P.truthy_int ⟨H,I,q⟩
 | str y=>
  obtain⟨t,rfl⟩:=rx
  obtain⟨hy,e'⟩:y.length<=sizeLine/\k=((y.length:Int) != 0):=e
  subst e'
  exact PySem.P.truthy_str (by omega) ⟨H,I.tok _,q⟩
 | D8 y=>
  obtain⟨t,rfl⟩:=rx
  obtain⟨hy,e'⟩:y.size<=sizeLine/\k=((y.size:Int) != 0):=e
  subst e'
  exact W.truthy_bytes (by omega) ⟨H,I.tok _,q⟩
 | ref p=>
  cases rx
  have e':(∃xs,gN X.K H p xs/\k=!xs.isEmpty)\/(∃xs,oy X.K H p xs/\k=!xs.isEmpty)\/∃kvs,H p=some (.dK kvs)/\k=!kvs.isEmpty:=e
  rcases e' with⟨xs,hx,e'⟩|⟨xs,hx,e'⟩|⟨kvs,hx,e'⟩
  ·subst e'
   obtain⟨g_,r,pl,hz⟩:=I.list hx
   have hlen:=r.length
   exact wpAny_truthy_list pl.isList (by simp only [aaA];omega) ⟨H,I.tok _,by rw[zw r];exact q⟩
  ·subst e'
   obtain⟨g_,r,pl,hz⟩:=I.tuple hx
   have hlen:=r.length
   exact truthy_tuple pl (by simp only [aaA];omega) ⟨H,I.tok _,by rw[zw r];exact q⟩
  ·subst e'
   obtain⟨hz,hS,vs,r,m⟩:kvs.length<=sizeLine/\(p ==sysModules)=false/\∃vs,KV kvs vs/\s.heap.DictOf (jc X.prog X.w) p vs:=I.iK p _ hx
   have hlen:kvs.length=vs.length:=aav r
   exact wpAny_truthy_dict hS m (by omega) ⟨H,I.tok _,by rw[FX r];exact q⟩
 | _=>exact(show False from e).elim
theorem uX(ha:PE X a ta)(he:∀whole,isTrue a X.env whole=(do let v <-whole;standAt a.pos;holding [v] (truthy v))) :
  PT X a (λZ H Q=>ta Z H λx H'=>∃k,Tj X.K x H' k/\Q k H'):=by
 intro c_ s Z H Q I h
 exact isTrue_plain (i0 (ha c_ s Z H _ I h) λv s1 ⟨x,H1,I1,r1,q1⟩=>P1 c_ s1 Z H1 x v Q I1 r1 q1) (he _)
theorem zx:xO X (binaryOp .Add) (λx y H Q=>∃i j,x=.str i/\y=.str j/\i.length+j.length<=sizeLine/\Q (.str (i++j)) H):=by
 intro c_ s Z H x y v u Q I rx ry h
 obtain⟨i,j,rfl,rfl,hz,q⟩:=h
 obtain⟨t,rfl⟩:=rx
 obtain⟨t',rfl⟩:=ry
 exact add_str (λt' tk=>⟨.str (i++j),H,I.tok _,⟨_,rfl⟩,q⟩) hz
theorem vals1{x:V}{us:List Value}(r:Vals [x] us):∃u,us=[u]/\RelV x u:=by
 cases r with
 | cons r1 r2=>cases r2;exact⟨_,rfl,r1⟩
theorem vals2{x y:V}{us:List Value}(r:Vals [x,y] us):∃u w',us=[u,w']/\RelV x u/\RelV y w':=by
 cases r with
 | cons r1 r2=>
  cases r2 with
  | cons r3 r4=>cases r4;exact⟨_,_,rfl,r1,r3⟩
theorem Il(hc:X.calm=true):uW X (.builtin "max") (λxs H Q=>∃i j,xs=[.int i,.int j]/\Q (.int (if j>i then j else i)) H):=by
 intro c_ s Z H xs us Q I r h
 obtain⟨i,j,rfl,q⟩:=h
 obtain⟨u,w',rfl,⟨t,rfl⟩,⟨t',rfl⟩⟩:=vals2 r
 refine max_two_ints (I.ok.hd hc) λh' tk k=>⟨_,H,I.kept k,?_,q⟩
 by_cases hj:j>i
 ·rw[aay hj,aay hj];exact⟨_,rfl⟩
 ·rw[aaw hj,aaw hj];exact⟨_,rfl⟩
end
structure FY(h:Heap)(x dx C:Addr)(mA:Qqx):Prop where
 obj:h.get? x=some (W.instObj C dx)
 ns:h.Ns1 dx mA
 ne:dx≠x
theorem Im{h:Heap}{dx:Addr}{mA:Qqx}(n:h.Ns1 dx mA):∃od,h.get? dx=some od/\∀name,W.lookIn name od=some (mA name):=by
 obtain⟨o,es,ep,ho,hd,hk,_,hm⟩:=n
 refine⟨o,ho,λname=>?_⟩
 have e:=hm name
 unfold nsFind findBy at e
 rw[<-Array.find?_toList] at e
 unfold W.lookIn
 rw[hd]
 dsimp only
 split
 ·rename_i y q
  rw[q] at e
  exact abe some e
 ·rename_i q
  rw[q] at e
  have a:es.toList.any (·.refKey)=false:=by
   rw[List.any_eq_false]
   intro y hy
   obtain⟨z,t,Rg⟩:=hk y (Array.mem_toList_iff.mp hy)
   simp[DictEntry.refKey,Rg]
  have a':¬es.toList.any (·.refKey)=true:=by rw[a];exact aax
  rw[aaw a']
  exact abe some e
theorem FY.look{h:Heap}{x dx C:Addr}{mA:Qqx}(I:FY h x dx C mA):∃od,W.InstAt h x (W.instObj C dx) C (some od)/\∀name,W.lookIn name od=some (mA name):=
 let ⟨od,ho,hl⟩:=Im I.ns
 ⟨od,⟨I.obj,rfl,rfl,ho⟩,hl⟩
section
variable{prog:Program}{w:World}{A:Around}{E:Qqq}{s:Shared}{K:Qqy}{x dx C f:Addr}{mA:Qqx}{name:Str}{v:Value}
theorem get_map{expr:Bool}{Q:Qqq}(X:K.In s.heap)(I:FY s.heap x dx C mA)(hg:W.plainGet K C name=true)(hh:W.hasDictIn K C=true)
  (ha:W.findIn K (.ref C) name=some none) (hv:mA name=some v) (hv':W.handedIn v=true) (h:Q v {s with toks:=s.toks+1}) :
  wpAny (model prog w) A (getAttr (.ref x) name expr) Q E s:=by
 obtain⟨od,J,hl⟩:=I.look
 exact W.get_value X J (W.plainGet_of hg).1 (W.findObj_own hh ha rfl (by rw[hl,hv])) hv' h
theorem JN{pl:Sem Bool}{Q:Value×List Value->Shared->Prop}(X:K.In s.heap)(I:FY s.heap x dx C mA)(hg:W.plainGet K C name=true)
  (hf:W.findIn K (.ref C) name=some (some (.ref f))) (ht:W.isFn K (.ref f)=true) (hv:mA name=none) (h:Q (.ref f,[.ref x]) s) :
  wpAny (model prog w) A (getMethod (.ref x) name pl) Q E s:=by
 obtain⟨od,J,hl⟩:=I.look
 exact W.method_fn X J (W.plainGet_of hg).1 (W.plainGet_of hg).2 hf (acp.mp ht) (by show(W.lookIn name od).map (·.isSome)=some false;rw[hl,hv];rfl) h
theorem MF{ns:List Str}{Q:Unit->Shared->Prop}(X:K.In s.heap)(I:FY s.heap x dx C mA)
  (hs:W.findIn K (.ref C) "__setattr__"=some (some (.builtin "object.__setattr__"))) (hp:W.plainOver K C=true) (ht:W.takerIn K C name=some none) (hh:W.hasDictIn K C=true)
  (hw:PySem.Within mA ns) (hsz:ns.length<=sizeLine)
  (h:∀h',FY h' x dx C (λy=>if y=name then some v else mA y)->Heap.SameBut dx s.heap h'->Q () {s with heap:=h',toks:=s.toks+2}) :
  wpAny (model prog w) A (setAttr (.ref x) name v) Q E s:=by
 obtain⟨od,J,hl⟩:=I.look
 refine W.set_plain X J hs (W.osa_open (s:={s with toks:=s.toks+1}) (r:=none) X J hp ht λb=>?_)
 obtain⟨cd,hc,Us⟩:=W.any_some hh
 have hx:s.heap.get? x=some ⟨.ref C,some dx,.plain,#[]⟩:=I.obj
 refine UW (aaz (UW (UW (wpAny_loadPart hx (UW (W.Looks.here (s:={s with toks:=s.toks+1}) (W.looks_clsIn X hc) ?_))))))
 rw[Us]
 refine aaz (a:=some dx) (UW (aaz (UW ?_)))
 refine wpAny_nsSet1 (s:={s with toks:=s.toks+1}) I.ns λh' Rh Fx=>?_
 obtain⟨oD,esD,epD,hoD,hdD,hcD⟩:=Rh.count (PySem.Within.cons name v hw)
 refine UW (wpAny_lookBehind hoD (by rw[hdD];exact pastItsLine_dict (aan hcD (by rw[aai];omega))) ?_)
 exact aaz (h _ ⟨(Fx.2 _ (ab1 I.ne)).trans I.obj,Rh,I.ne⟩ Fx)
theorem JO{R:Result->Shared->Prop}{vs:List Value}{kw:List (Str×Value)}(X:K.In s.heap)(hm:W.makesIn K C=true)
  (hi:W.findIn K (.ref C) "__init__"=some (some (.ref f))) (hf:W.typeIn K (.ref f)=some (.type "function"))
  (h:codeAny (model prog w) (A.under (.builtin "type.__call__" ⟨.ref C::vs,kw⟩)) (.call (.ref f) ⟨.ref (s.heap.objs.size+1)::vs,kw⟩) (W.InitBack (s.heap.objs.size+1) R)
   {s with heap:=(s.heap.push W.emptyDict).push (W.instObj C s.heap.objs.size)}) :
  codeAny (model prog w) A (.call (.ref C) ⟨vs,kw⟩) R s:=by
 obtain⟨hh,g,d,t,os⟩:=s
 exact W.make_core (W.makes_of X hm) (W.looks_findIn X hi) (λself=>W.bind_fn X self hf) (.inl rfl) h
end
noncomputable def jC(f:Str)(v:V):List (Str×V)->List (Str×V)
 | []=>[(f,v)]
 | (g,x)::r=>if g=f then(g,v)::r else(g,x)::jC f v r
theorem xQ(f g:Str)(v:V):∀fs:List (Str×V),(jC f v fs).lookup g=if g=f then some v else fs.lookup g
 | []=>by
  show List.lookup g [(f,v)]=_
  by_cases h:g=f
  ·have hb:(g ==f)=true:=acp.mpr h
   simp only [List.lookup,hb,aay h]
  ·have hb:(g ==f)=false:=ab5.mpr h
   simp only [List.lookup,hb,aaw h]
 | (k,x)::r=>by
  have ih:=xQ f g v r
  rw[show jC f v ((k,x)::r)=(if k=f then(k,v)::r else(k,x)::jC f v r) from rfl]
  by_cases hk:k=f
  ·rw[aay hk]
   by_cases h:g=k
   ·have hb:(g ==k)=true:=acp.mpr h
    simp only [List.lookup,hb,aay (h.trans hk)]
   ·have hb:(g ==k)=false:=ab5.mpr h
    simp only [List.lookup,hb,aaw (λe:g=f=>h (e.trans hk.symm))]
  ·rw[aaw hk]
   by_cases h:g=k
   ·have hb:(g ==k)=true:=acp.mpr h
    simp only [List.lookup,hb,aaw (λe:g=f=>hk (h.symm.trans e))]
   ·have hb:(g ==k)=false:=ab5.mpr h
    simp only [List.lookup,hb]
    exact ih
theorem wD(f:Str)(v:V):∀fs:List (Str×V),f∈(jC f v fs).map (·.1)/\∀g,g∈fs.map (·.1)->g∈(jC f v fs).map (·.1)
 | []=>⟨by simp[jC],λg h=>by simp at h⟩
 | (k,x)::r=>by
  obtain⟨i1,i2⟩:=wD f v r
  rw[show jC f v ((k,x)::r)=(if k=f then(k,v)::r else(k,x)::jC f v r) from rfl]
  by_cases hk:k=f
  ·rw[aay hk]
   subst hk
   exact⟨by simp,λg h=>by simpa using h⟩
  ·rw[aaw hk]
   refine⟨?_,λg h=>?_⟩
   ·rw[aaL]
    exact aam _ i1
   ·rw[aaL] at h ⊢
    rcases aah.mp h with e|e
    ·exact aah.mpr (.inl e)
    ·exact aam _ (i2 g e)
theorem xR(f:Str)(v:V):∀fs:List (Str×V),(jC f v fs).length<=fs.length+1
 | []=>by simp[jC]
 | (k,x)::r=>by
  have ih:=xR f v r
  rw[show jC f v ((k,x)::r)=(if k=f then(k,v)::r else(k,x)::jC f v r) from rfl]
  by_cases hk:k=f
  ·rw[aay hk,aai,aai];omega
  ·rw[aaw hk,aai,aai];omega
theorem pz.some_of{v:V}{o:Option Value}(r:pz (some v) o):∃u,o=some u/\RelV v u:=by
 cases o with
 | none=>exact(show False from r).elim
 | some u=>exact⟨u,rfl,r⟩
theorem pz.none_of{o:Option Value}(r:pz none o):o=none:=by
 cases o with
 | none=>rfl
 | some u=>exact(show False from r).elim
theorem Io{v:V}{u:Value}(r:RelV v u):W.handedIn u=true:=by
 cases v with
 | jb=>cases (show u=Value.none from r);rfl
 | bl b=>cases (show u=Value.bool b from r);rfl
 | int i=>obtain⟨t,e⟩:=(show ∃t,u=Value.int i t from r);cases e;rfl
 | str x=>obtain⟨t,e⟩:=(show ∃t,u=Value.str x t from r);cases e;rfl
 | D8 b=>obtain⟨t,e⟩:=(show ∃t,u=Value.bytes b t from r);cases e;rfl
 | Ml b=>obtain⟨t,e⟩:=(show ∃t,u=Value.float b t from r);cases e;rfl
 | ref a=>cases (show u=Value.ref a from r);rfl
 | ty n=>cases (show u=Value.type n from r);rfl
section
variable{P:Program}{w:World}{H H':Hp}{h h':Heap}{a C dx:Addr}{fs fs':List (Str×V)}
theorem za(iK:rA P w H h)(e:H a=some (.ins C dx fs)):∃mA,FY h a dx C mA/\(∀f,pz (fs.lookup f) (mA f))/\PySem.Within mA (fs.map (·.1))/\fs.length<=1000/\H dx=some (.own a):=by
 obtain⟨d,z,ne,ob,mA,n,r,q⟩:=(show iZ P w H h a (.ins C dx fs) from iK a _ e)
 exact⟨mA,⟨ob,n,ne⟩,r,q,z,d⟩
end
structure FP(K:Qqy)(C:Addr):Prop where
 pg:W.plainGet K C Str.empty=true
 hd:W.hasDictIn K C=true
 po:W.plainOver K C=true
 sa:W.findIn K (.ref C) "__setattr__"=some (some (.builtin "object.__setattr__"))
theorem FP.get{K:Qqy}{C:Addr}(c:FP K C)(f:Str):W.plainGet K C f=true:=c.pg
def jT(K:Qqy)(C:Addr)(f:Str):Prop:=W.findIn K (.ref C) f=some none
theorem jT.Tn{K:Qqy}{C:Addr}{f:Str}(n:jT K C f):W.takerIn K C f=some none:=by
 unfold W.takerIn
 rw[show W.findIn K (.ref C) f=some none from n]
 rfl
structure Meth(K:Qqy)(C:Addr)(m:Str)(f:Addr):Prop where
 at_:W.findIn K (.ref C) m=some (some (.ref f))
 fn:W.isFn K (.ref f)=true
 kp:W.keepIn K (.ref f)=true
section
variable{X:Cx}{c_:Qqz}{Z:St}{H:Hp}{s:Shared}{a C dx:Addr}{fs:List (Str×V)}{f:Str}{v:V}{A:Around}{E:Qqq}
theorem FZ{b:Bool}{Q:Qqq}(I:Inv X c_ Z H s)(e:H a=some (.ins C dx fs))(c:FP X.K C)(n:jT X.K C f)(l:fs.lookup f=some v)
  (h:∀u s',Inv X c_ Z H s'->RelV v u->Q u s'):wpAny (model X.prog X.w) A (getAttr (.ref a) f b) Q E s:=by
 obtain⟨mA,O,r,_,_,_⟩:=za I.iK e
 obtain⟨u,hu,ru⟩:=pz.some_of (v:=v) (o:=mA f) (by rw[<-l];exact r f)
 exact get_map I.xN O (c.get f) c.hd n hu (Io ru) (h u _ (I.tok _) ru)
theorem zy{m:Str}{g:Addr}{pl:Sem Bool}{Q:Value×List Value->Shared->Prop}(I:Inv X c_ Z H s)(e:H a=some (.ins C dx fs))(c:FP X.K C)(k:Meth X.K C m g)(l:fs.lookup m=none)
  (h:Q (.ref g,[.ref a]) s):wpAny (model X.prog X.w) A (getMethod (.ref a) m pl) Q E s:=by
 obtain⟨mA,O,r,_,_,_⟩:=za I.iK e
 have hn:mA m=none:=pz.none_of (by rw[<-l];exact r m)
 exact JN I.xN O (c.get m) k.at_ k.fn hn h
theorem F_{y:V}{u:Value}{Q:Unit->Shared->Prop}(I:Inv X c_ Z H s)(e:H a=some (.ins C dx fs))(c:FP X.K C)(n:jT X.K C f)(hl:fs.length<1000)(ry:RelV y u)
  (h:∀s',Inv X c_ Z (upd H a (.ins C dx (jC f y fs))) s'->Q () s'):wpAny (model X.prog X.w) A (setAttr (.ref a) f u) Q E s:=by
 obtain⟨mA,O,r,wi,_,ho⟩:=za I.iK e
 have hz:(fs.map (·.1)).length<=sizeLine:=by rw[O7,acI];omega
 refine MF I.xN O c.sa c.po n.Tn c.hd wi hz λh' O' sb=>h _ ?_
 have hd:∃o,h'.get? dx=some o:=let ⟨o,_,_,e',_⟩:=O'.ns;⟨o,e'⟩
 refine I.write (x:=a) (e:=dx) (by rw[e];exact True.intro) (.inr ho) (λb q hb z=>(sb.2 b hb).trans z) hd ?_
 refine⟨by rw[d_ O.ne];exact ho,?_,O.ne,O'.obj,_,O'.ns,λg=>?_,λg hg=>?_⟩
 ·have:=xR f y fs;omega
 ·show pz ((jC f y fs).lookup g) (if g=f then some u else mA g)
  rw[xQ]
  by_cases q:g=f
  ·rw[aay q,aay q];exact ry
  ·rw[aaw q,aaw q];exact r g
 ·by_cases q:g=f
  ·rw[q];exact(wD f y fs).1
  ·refine(wD f y fs).2 g (wi g λz=>hg ?_)
   show(if g=f then some u else mA g)=none
   rw[aaw q];exact z
theorem Inv.made(I:Inv X c_ Z H s):Inv X c_ Z (upd (upd H s.heap.objs.size (.own (s.heap.objs.size+1))) (s.heap.objs.size+1) (.ins C s.heap.objs.size []))
  {s with heap:=(s.heap.push W.emptyDict).push (W.instObj C s.heap.objs.size)}:=by
 have e1:(s.heap.push W.emptyDict).get? s.heap.objs.size=some W.emptyDict:=aaO s.heap rfl
 have e2:((s.heap.push W.emptyDict).push (W.instObj C s.heap.objs.size)).get? (s.heap.objs.size+1)=some (W.instObj C s.heap.objs.size):=by
  have:=aaO (s.heap.push W.emptyDict) (o:=W.instObj C s.heap.objs.size) rfl
  rwa [Heap.size_push] at this
 have e3:(s.heap.push W.emptyDict).Ns s.heap.objs.size (λ_=>none):=⟨W.emptyDict,#[],_,e1,rfl,(λe he=>absurd he (by simp)),λ_=>rfl⟩
 have I1:=I.laid (a:=s.heap.objs.size) (o:=.own (s.heap.objs.size+1)) (h':=s.heap.push W.emptyDict) (t':=s.toks) (λb u q=>aaC _ q) (XW _) ⟨_,e1⟩
 refine I1.laid (a:=s.heap.objs.size+1) (o:=.ins C s.heap.objs.size []) (t':=s.toks) (λb u q=>aaC _ q) (Nat.le_of_eq (Heap.size_push _ _)) ?_
 have ne:s.heap.objs.size≠s.heap.objs.size+1:=aa1 (acE _)
 refine⟨by rw[d_ ne,b_],aaZ _,ne,e2,λ_=>none,(Heap.Ns1.of_empty e3).at λo q=>aaC _ q,λ_=>True.intro,λy hy=>absurd rfl hy⟩
theorem MG{prog:Program}{w:World}{env:Env}{e:Expr}{f:Str}{pos:Pos}{s:Shared}{Q:Qqq}(hb:attributeBase e f env (eval e env)=eval e env)
  (h:wpAny (model prog w) A (eval e env) (λo s1=>wpAny (model prog w) A (getAttr o f true) Q E s1) E s):wpAny (model prog w) A (eval (.Attribute e f pos) env) Q E s:=
 Attribute_any_ h (by rw[arm_eval_Attribute,hb])
end
inductive fK(K:Qqy)(f:Str)(x:V)(H:Hp)(Q:VK):Prop
 | mk (a C dx:Addr) (fs:List (Str×V)) (v:V) (_:x=.ref a) (_:H a=some (.ins C dx fs)) (_:FP K C) (_:jT K C f) (_:fs.lookup f=some v) (_:Q v H)
def Xw(K:Qqy)(ta:TE)(f:Str):TE:=λZ H Q=>ta Z H λx H1=>fK K f x H1 Q
def Xx(K:Qqy)(ta tv:TE)(f:Str):TS:=λD Z H=>tv Z H λy H1=>ta Z H1 λx H2=>∃a C dx fs,x=.ref a/\H2 a=some (.ins C dx fs)/\FP K C/\jT K C f/\fs.length<1000/\
 D.nx Z (upd H2 a (.ins C dx (jC f y fs)))
section
variable{X:Cx}{o e value:Expr}{f:Str}{pos pos' Ri:Pos}{ta tv:TE}
theorem gL(he:PE X e ta)(hb:attributeBase e f X.env (eval e X.env)=eval e X.env):PE X (.Attribute e f pos) (Xw X.K ta f):=by
 intro c_ s Z H Q I h
 refine MG hb (i0 (he c_ s Z H _ I h) λu s1 iH=>?_)
 obtain⟨x,H1,I1,rx,a,C,dx,fs,v,ex,ea,c,n,l,q⟩:=iH
 subst ex
 obtain rfl:u=Value.ref a:=rx
 exact FZ I1 ea c n l λu' s2 I2 ru=>⟨v,H1,I2,ru,q⟩
theorem lJ(ha:PE X o ta)(hv:PE X value tv)(hs:swapsWith value (some (.Attribute o f pos')) pos.line X.env=pure false):PS X (.Assign [.Attribute o f pos'] value pos) (Xx X.K ta tv f):=by
 intro c_ s Z H D I h
 refine plainObj_wpAny_Assign_Attribute (i0 (hv c_ s Z H _ I h) λu s1 iH=>?_) hs
 obtain⟨y,H1,I1,ry,q⟩:=iH
 refine i0 (ha c_ s1 Z H1 _ I1 q) λov s2 Jp=>?_
 obtain⟨x,H2,I2,rx,a,C,dx,fs,ex,ea,c,n,l,q2⟩:=Jp
 subst ex
 obtain rfl:ov=Value.ref a:=rx
 exact F_ I2 ea c n l ry λs3 I3=>⟨Z,_,I3,q2⟩
end
section
variable{X:Cx}{c_:Qqz}{Z:St}{H:Hp}{s:Shared}{A:Around}{E:Qqq}{Q:Qqq}{c:Value}{b:Bool}
inductive wF(K:Qqy)(H:Hp):V->Value->Prop where
 | jb:wF K H .jb (.type "NoneType")
 | bl (x:Bool):wF K H (.bl x) (.type "bool")
 | int (i:Int):wF K H (.int i) (.type "int")
 | str (x:Str):wF K H (.str x) (.type "str")
 | Ml (x:UInt64):wF K H (.Ml x) (.type "float")
 | lst {a:Addr} {xs:List V} (e:H a=some (.lst xs)):wF K H (.ref a) (.type "list")
 | nj {a:Addr} {o:Obj} {xs:List V} (e:H a=some (.nj o (.lst xs))):wF K H (.ref a) (.type "list")
 | tup {a:Addr} {xs:List V} (e:H a=some (.tup xs)):wF K H (.ref a) (.type "tuple")
 | dK {a:Addr} {kvs:List (Key×V)} (e:H a=some (.dK kvs)):wF K H (.ref a) (.type "dict")
 | dT {a:Addr} {kvs:List (List Key×V)} (e:H a=some (.dT kvs)):wF K H (.ref a) (.type "dict")
 | ins {a C dx:Addr} {fs:List (Str×V)} (e:H a=some (.ins C dx fs)) (cl:FP K C) (ha:W.findIn K (.ref C) "__class__"=some (some (.builtin "object.__class__")))
  (hn:W.specialIn K (.builtin "object.__class__") "__get__"=some (some (.builtin "getset_descriptor.__get__"))) (htk:W.takesIn K (.builtin "object.__class__")=some true)
  (hm:W.mroIn K C (.type "object")=some true):wF K H (.ref a) (.ref C)
theorem Ip{x:V}{u t:Value}(I:Inv X c_ Z H s)(rx:RelV x u)(ty:wF X.K H x t)(e:W.kitOne X.K t c=some b)(h:∀tk,Q (.bool b) {s with toks:=tk}) :
  wpAny (model X.prog X.w) A (call (.builtin "isinstance") [u,c]) Q E s:=by
 cases ty with
 | jb=>cases (show u=Value.none from rx);exact abC W.kitx_none I.xN True.intro e (λz=>nomatch z) h
 | bl y=>cases (show u=Value.bool y from rx);exact abC W.kitx_bool I.xN True.intro e (λz=>nomatch z) h
 | int i=>obtain⟨t,q⟩:=(show ∃t,u=Value.int i t from rx);cases q;exact abC W.kitx_int I.xN True.intro e (λz=>nomatch z) h
 | str y=>obtain⟨t,q⟩:=(show ∃t,u=Value.str y t from rx);cases q;exact abC W.kitx_str I.xN True.intro e (λz=>nomatch z) h
 | Ml y=>obtain⟨t,q⟩:=(show ∃t,u=Value.float y t from rx);cases q;exact abC W.kitx_float I.xN True.intro e (λz=>nomatch z) h
 | @lst a xs ea=>
  cases (show u=Value.ref a from rx)
  obtain⟨_,_,n,_,h1⟩:=(show iZ X.prog X.w H s.heap a (.lst xs) from I.iK a _ ea)
  exact abC W.kitx_list I.xN ⟨_,h1,rfl⟩ e (λz=>nomatch z) h
 | @nj a ob xs ea=>
  cases (show u=Value.ref a from rx)
  obtain⟨_,_,_,n,_,h1⟩:=(show iZ X.prog X.w H s.heap a (.nj ob (.lst xs)) from I.iK a _ ea)
  exact abC W.kitx_list I.xN ⟨_,h1,rfl⟩ e (λz=>nomatch z) h
 | @tup a xs ea=>
  cases (show u=Value.ref a from rx)
  obtain⟨_,_,_,p⟩:=(show iZ X.prog X.w H s.heap a (.tup xs) from I.iK a _ ea)
  obtain⟨o,h1,h2,_⟩:=p
  exact abC W.kitx_tuple I.xN ⟨o,h1,h2⟩ e (λz=>nomatch z) h
 | @dK a kvs ea=>
  cases (show u=Value.ref a from rx)
  obtain⟨_,_,vs,_,p⟩:=(show iZ X.prog X.w H s.heap a (.dK kvs) from I.iK a _ ea)
  obtain⟨o,es,ep,h1,h2,_⟩:=p
  exact abC W.kitx_dict I.xN ⟨o,h1,h2.1⟩ e (λz=>nomatch z) h
 | @dT a kvs ea=>
  cases (show u=Value.ref a from rx)
  obtain⟨_,_,xs,_,o,es,ep,h1,h2,_⟩:=(show iZ X.prog X.w H s.heap a (.dT kvs) from I.iK a _ ea)
  exact abC W.kitx_dict I.xN ⟨o,h1,h2.1⟩ e (λz=>nomatch z) h
 | @ins a C dx fs ea cl ha hn htk hm=>
  cases (show u=Value.ref a from rx)
  obtain⟨mA,O,_⟩:=za I.iK ea
  obtain⟨od,J,_⟩:=O.look
  exact abC (W.kitx_own (cl.get _) cl.hd ha hn htk hm) I.xN J e (λz=>nomatch z) h
end
structure kC(k:Nat)(A:Around):Prop where
 hd:A.handled=none
 dp:A.depth+3*k+5<recursionLimit
 un:A.units+16*k+200<cLine
theorem kC.mono{j k:Nat}{A:Around}(r:kC k A)(h:j<=k):kC j A:=⟨r.hd,by have:=r.dp;omega,by have:=r.un;omega⟩
theorem kC.deeper{k:Nat}{A:Around}(r:kC (k+1) A)(env:Env):kC k (A.deeper env):=
 ⟨r.hd,by have:=r.dp;show A.depth+1+3*k+5<_;omega,by have:=r.un;show A.units+3+16*k+200<_;omega⟩
theorem Ga{A:Around}{C:Addr}{us:List Value}{kw:List (Str×Value)}:(A.under (.builtin "type.__call__" ⟨.ref C::us,kw⟩)).depth=A.depth+1:=by
 first|rfl|simp[Around.under,Code.weight,Code.isCreation,Code.isGuard,Code.isCaller,Code.frames,Code.isFrame,guardIds]
theorem Gb{A:Around}{C:Addr}{us:List Value}{kw:List (Str×Value)}:(A.under (.builtin "type.__call__" ⟨.ref C::us,kw⟩)).units=A.units+1:=by
 first|rfl|simp[Around.under,Code.cUnits,Code.frames,Code.isFrame]
theorem kC.make{k:Nat}{A:Around}(r:kC (k+1) A)(C:Addr)(us:List Value)(kw:List (Str×Value)):kC k (A.under (.builtin "type.__call__" ⟨.ref C::us,kw⟩)):=
 ⟨r.hd,by have:=r.dp;rw[Ga];omega,by have:=r.un;rw[Gb];omega⟩
theorem kC.depth{k:Nat}{A:Around}(r:kC k A):A.depth<recursionLimit:=by have:=r.dp;omega
theorem kC.units{k:Nat}{A:Around}(r:kC k A):A.units+64<cLine:=by have:=r.un;omega
def P2:TA:=λ_ H Q=>Q [] H
def To(ta:TE)(tr:TA):TA:=λZ H Q=>ta Z H λx H1=>tr Z H1 λxs H2=>Q (x::xs) H2
section
variable{X:Cx}{e:Expr}{es:List Expr}{te:TE}{t:TA}{pos:Pos}
theorem e_:PA X [] P2:=λ_ _ _ _ H Q I h=>abO ⟨[],H,I,.nil,h⟩
theorem a_(ha:PE X e te)(hr:PA X es t)(hs:starEach (e::es) X.env=(false,eval e X.env)::starEach es X.env:=by rfl):PA X (e::es) (To te t):=by
 intro pos c_ s Z H Q I h
 rw[hs]
 show wpAny _ _ (spliced ((false,eval e X.env)::backTo pos (starEach es X.env))) _ _ s
 refine aby (i0 (ha c_ s Z H _ I h) λu s1 iH=>?_)
 obtain⟨x,H1,I1,r1,q1⟩:=iH
 exact i0 (hr pos c_ s1 Z H1 _ I1 q1) λus s2 ⟨xs,H2,I2,r2,q2⟩=>⟨x::xs,H2,I2,.cons r1 r2,q2⟩
def Xy(t:TA):TE:=λZ H Q=>t Z H λxs H1=>xs.length<=sizeLine/\∀p,H1 p=none->Q (.ref p) (upd H1 p (.tup xs))
def Xz(t:TA):TE:=λZ H Q=>t Z H λxs H1=>xs.length<=sizeLine/\∀p,H1 p=none->Q (.ref p) (upd H1 p (.lst xs))
theorem Cw{x1}(h:PA X es t):PE X (.Tuple es x1 pos) (Xy t):=by
 intro c_ s Z H Q I hq
 refine wpAny_Tuple_spliced (i0 (h pos c_ s Z H _ I hq) λus s1 iH=>?_)
 obtain⟨xs,H1,I1,r,z,q⟩:=iH
 refine⟨by rw[<-r.length];exact z,?_⟩
 have hf:H1 s1.heap.objs.size=none:=I1.iK.fresh (XW _)
 refine⟨.ref s1.heap.objs.size,upd H1 s1.heap.objs.size (.tup xs),I1.laid (t':=s1.toks) (λb u e=>aaC _ e) (XW _) ?_,rfl,q _ hf⟩
 exact⟨z,us,r,⟨_,aaO _ rfl,rfl,_,rfl⟩⟩
theorem iB(h:PA X es t):PE X (.List es pos) (Xz t):=by
 intro c_ s Z H Q I hq
 refine wpAny_List_spliced (i0 (h pos c_ s Z H _ I hq) λus s1 iH=>?_)
 obtain⟨xs,H1,I1,r,z,q⟩:=iH
 refine⟨by rw[<-r.length];exact z,?_⟩
 have hf:H1 s1.heap.objs.size=none:=I1.iK.fresh (XW _)
 refine⟨.ref s1.heap.objs.size,upd H1 s1.heap.objs.size (.lst xs),I1.laid (t':=s1.toks) (λb u e=>aaC _ e) (XW _) ?_,rfl,q _ hf⟩
 exact⟨z,us,0,r,aaO _ rfl⟩
end
abbrev Sp:=List V->Hp->VK->XK->Prop
abbrev Hm:=List Env->Hp->Shared->XK->Qqq
structure Ge(P:Program)(w:World)(K:Qqy)(mg:Qqx)(base:Heap)(A:Around)(outer:List Env)(s:Shared)(H:Hp):Prop where
 frames:A.frames=some outer
 mod:Mod K mg base
 bs:∀b o,base.get? b=some o->s.heap.get? b=some o/\H b=none
 MC:base.objs.size<=s.heap.objs.size
 uS:s.heap.FunFrames base outer
 Ov:∀b∈ui outer,H b=none
 iK:rA P w H s.heap
 bare:AllBare s.gens
def CE(outer:List Env)(P:Program)(w:World)(H:Hp)(s:Shared)(Q:VK)(u:Value)(s':Shared):Prop:=
 ∃v H',s'.os=s.os/\AllBare s'.gens/\Un (ui outer) [] H H' s.heap s'.heap/\rA P w H' s'.heap/\RelV v u/\Q v H'
def CR(CX:Hm)(outer:List Env)(P:Program)(w:World)(H:Hp)(s:Shared)(Q:VK)(E:XK)(r:Result)(s':Shared):Prop:=
 match r with
 | .ok (.ret u)=>CE outer P w H s Q u s'
 | .ok _=>False
 | .error e=>CX outer H s E e s'
structure ie(P:Program)(w:World)(K:Qqy)(mg:Qqx)(base:Heap)(CX:Hm)(k:Nat)(f:Addr)(fd:FuncData)(ps:List Str)(sp:Sp):Prop where
 len:∀vs H Q E,sp vs H Q E->vs.length=ps.length
 run:∀(A:Around)(outer:List Env)(s:Shared)(H:Hp)(args:Args)(us:List Value)(vs:List V)(Q:VK)(E:XK),kC k A->Ge P w K mg base A outer s H->BindsTo s fd args (ps.zip us)->Vals vs us->sp vs H Q E->
  codeAny (model P w) A (.call (.ref f) args) (CR CX outer P w H s Q E) s
theorem ie.mono{P:Program}{w:World}{K:Qqy}{mg:Qqx}{base:Heap}{CX:Hm}{j k:Nat}{f:Addr}{fd:FuncData}{ps:List Str}{sp:Sp}(F:ie P w K mg base CX j f fd ps sp)(h:j<=k) :
 ie P w K mg base CX k f fd ps sp:=⟨F.len,λA outer s H args us vs Q E hr=>F.run A outer s H args us vs Q E (hr.mono h)⟩
theorem Ge.make{P:Program}{w:World}{K:Qqy}{mg:Qqx}{base:Heap}{A:Around}{outer:List Env}{s:Shared}{H:Hp}(e:Ge P w K mg base A outer s H)(C:Addr)(us:List Value)(kw:List (Str×Value)) :
 Ge P w K mg base (A.under (.builtin "type.__call__" ⟨.ref C::us,kw⟩)) outer s H:=⟨by first|exact e.frames|(simpa[Around.under,Code.envs,Code.isFrame,pushEnvs] using e.frames),e.mod,e.bs,e.MC,e.uS,e.Ov,e.iK,e.bare⟩
section
variable{X:Cx}{c_:Qqz}{Z:St}{H:Hp}{s s':Shared}
theorem Inv.Tp(I:Inv X c_ Z H s):Ge X.prog X.w X.K X.mg X.base X.A X.stack s H:=
 ⟨I.ok.frames,I.ok.mod,I.bs,aan I.ok.MC I.sz,I.stack,I.Cs,I.iK,I.bare⟩
theorem Inv.after{Q:VK}{u:Value}(I:Inv X c_ Z H s)(h:CE X.stack X.prog X.w H s Q u s'):EP X c_ Z Q u s':=by
 obtain⟨v,H',os,bare,un,iK,r,q⟩:=h
 obtain⟨hh,g,d,t,os'⟩:=s'
 obtain rfl:os'=s.os:=os
 exact⟨v,H',I.call (h':=hh) (g':=g) (d':=d) (t':=t) (ch:=[]) un iK bare (λb z=>absurd z (by simp)),r,q⟩
end
def JP(sp:Sp)(zo:List V)(E:XK)(t:TA):TE:=λZ H Q=>t Z H λvs H1=>sp (vs++zo) H1 Q E
inductive mK(C:Addr)(m:Str)(x:V)(H:Hp)(R:Prop):Prop
 | mk (a dx:Addr) (fs:List (Str×V)) (_:x=.ref a) (_:H a=some (.ins C dx fs)) (_:fs.lookup m=none) (_:R)
def Hn(C:Addr)(m:Str)(sp:Sp)(zo:List V)(E:XK)(ta:TE)(t:TA):TE:=λZ H Q=>ta Z H λx H1=>mK C m x H1 (t Z H1 λvs H2=>sp (x::(vs++zo)) H2 Q E)
def Oz(C:Addr)(sp:Sp)(zo:List V)(E:XK)(t:TA):TE:=λZ H Q=>t Z H λvs H1=>∀x dx,H1 x=none->H1 dx=none->dx≠x->
 sp (.ref x::(vs++zo)) (upd (upd H1 dx (.own x)) x (.ins C dx [])) (λv H2=>v=.jb/\Q (.ref x) H2) E
def Binds(K:Qqy)(fd:FuncData)(ps:List Str)(ds:List Value):Prop:=
 ∀(s:Shared)(us:List Value),K.In s.heap->(us++ds).length=ps.length->BindsTo s fd ⟨us,[]⟩ (ps.zip (us++ds))
theorem Binds.all{K:Qqy}{fd:FuncData}{ps:List Str}(h:∀us:List Value,us.length=ps.length->bindArgs fd ⟨us,[]⟩=pure (ps.zip us)):Binds K fd ps []:=λs us _ hl=>by
 rw[aa0] at hl ⊢
 exact .of_eq (h us hl)
def Passes(CX:Hm)(X:Cx)(E:XK):Prop:=∀(c_:Qqz)(Z:St)(H:Hp)(s:Shared)(e:Value)(s':Shared),Inv X c_ Z H s->CX X.stack H s E e s'->X.xe e s'
section
variable{X:Cx}{CX:Hm}{k:Nat}{f C:Addr}{fd:FuncData}{ps:List Str}{sp:Sp}{zo:List V}{ds:List Value}{E:XK}{x m:Str}{p pos apos:Pos}{e o:Expr}{es:List Expr}{ta:TE}{t:TA}
theorem Gf{c_:Qqz}{Z:St}{H:Hp}{s:Shared}{Q:VK}{us:List Value}{vs:List V}(F:ie X.prog X.w X.K X.mg X.base CX k f fd ps sp)(hr:kC k X.A)(hb:Binds X.K fd ps ds)(hd:Vals zo ds)(hx:Passes CX X E)
  (I:Inv X c_ Z H s) (r:Vals vs us) (h:sp (vs++zo) H Q E):wpAny (model X.prog X.w) X.A (call (.ref f) us) (EP X c_ Z Q) X.xe s:=by
 have r2:Vals (vs++zo) (us++ds):=r.append hd
 have hl:(us++ds).length=ps.length:=by rw[<-r2.length];exact F.len _ _ _ _ h
 refine wpAny_call (codeAny_mono (F.run X.A X.stack s H ⟨us,[]⟩ (us++ds) (vs++zo) Q E hr I.Tp (hb s us I.xN hl) r2 h) λr s' hq=>?_)
 cases r with
 | error e=>exact hx c_ Z H s e s' I hq
 | ok fl=>
  cases fl with
  | ret u=>exact I.after hq
  | next=>exact False.elim hq
  | brk=>exact False.elim hq
  | cont=>exact False.elim hq
theorem uY(F:ie X.prog X.w X.K X.mg X.base CX k f fd ps sp)(hr:kC k X.A)(hg:Gl X x)(hm:X.mg x=some (.ref f))(hk:W.keepIn X.K (.ref f)=true)(hb:Binds X.K fd ps ds)(hd:Vals zo ds)(hx:Passes CX X E)
  (ha:PA X (e::es) t) (G2:(x ==("__debug__":Str))=false:=by decide) (he:starEach (e::es) X.env=(false,eval e X.env)::starEach es X.env:=by rfl) (nK:(backTo pos (starEach es X.env)).any (·.1)=false:=by rfl) :
  PE X (.Call (.Name x p) (e::es) [] pos) (JP sp zo E t):=by
 intro c_ s Z H Q I h
 refine wpAny_Call_Name_kw (uT I hg hm ?_ G2)
 refine W.callWith_K (h₀:=X.base) I.ok.mod.R1 hk (i0 (ha pos c_ s Z H _ I h) λus s1 iH=>?_) he nK
 obtain⟨vs,H1,I1,r,q⟩:=iH
 refine⟨I1.xN,?_⟩
 exact Gf F hr hb hd hx I1 r q
theorem Ho{pl:Sem Bool}(he:PE X o ta)(c:FP X.K C)(hm:Meth X.K C m f)(F:ie X.prog X.w X.K X.mg X.base CX k f fd ps sp)(hr:kC k X.A)(hb:Binds X.K fd ps ds)(hd:Vals zo ds)(hx:Passes CX X E)(ha:PA X (e::es) t)
  (uH:starEach (e::es) X.env=(false,eval e X.env)::starEach es X.env:=by rfl) (nK:(backTo pos (starEach es X.env)).any (·.1)=false:=by rfl)
  (ht:eval (.Call (.Attribute o m apos) (e::es) [] pos) X.env=(do
   let ov <-eval o X.env
   standAt apos.atName
   let (f,first) <-holding [ov] (getMethod ov m pl)
   callWith pos f first (backTo pos (starEach (e::es) X.env)) (backToKw pos (keywordEach [] X.env))):=by rfl) :
  PE X (.Call (.Attribute o m apos) (e::es) [] pos) (Hn C m sp zo E ta t):=by
 intro c_ s Z H Q I h
 refine W.methodCall_KW (pl:=pl) (i0 (he c_ s Z H _ I h) λu s1 iH=>?_) ht
 obtain⟨x,H1,I1,rx,a,dx,fs,ex,ea,l,q⟩:=iH
 subst ex
 obtain rfl:u=Value.ref a:=rx
 refine zy I1 ea c hm l ?_
 refine W.callWith_K (first:=[.ref a]) (h₀:=X.base) I.ok.mod.R1 hm.kp (i0 (ha pos c_ s1 Z H1 _ I1 q) λus s2 iH=>?_) uH nK
 obtain⟨vs,H2,I2,r,q2⟩:=iH
 refine⟨I2.xN,?_⟩
 exact Gf (us:=.ref a::us) (vs:=.ref a::vs) F hr hb hd hx I2 (.cons rfl r) q2
theorem Eh{pl:Sem Bool}(he:PE X o ta)(c:FP X.K C)(hm:Meth X.K C m f)(F:ie X.prog X.w X.K X.mg X.base CX k f fd ps sp)(hr:kC k X.A)(hb:Binds X.K fd ps ds)(hd:Vals zo ds)(hx:Passes CX X E)
  (ht:eval (.Call (.Attribute o m apos) [] [] pos) X.env=(do
   let ov <-eval o X.env
   standAt apos.atName
   let (f,first) <-holding [ov] (getMethod ov m pl)
   callWith pos f first (backTo pos (starEach [] X.env)) (backToKw pos (keywordEach [] X.env))):=by rfl) :
  PE X (.Call (.Attribute o m apos) [] [] pos) (Hn C m sp zo E ta P2):=by
 intro c_ s Z H Q I h
 refine W.methodCall_KW (pl:=pl) (i0 (he c_ s Z H _ I h) λu s1 iH=>?_) ht
 obtain⟨x,H1,I1,rx,a,dx,fs,ex,ea,l,q⟩:=iH
 subst ex
 obtain rfl:u=Value.ref a:=rx
 refine zy I1 ea c hm l ?_
 exact W.callWith_K0 (first:=[.ref a]) I1.xN hm.kp (Gf (us:=[.ref a]) (vs:=[.ref a]) F hr hb hd hx I1 (.cons rfl .nil) q)
structure Mk(K:Qqy)(C f:Addr):Prop where
 makes:W.makesIn K C=true
 init:W.findIn K (.ref C) "__init__"=some (some (.ref f))
 fn:W.isFn K (.ref f)=true
 kp:W.keepIn K (.ref C)=true
theorem Ei{c_:Qqz}{Z:St}{H:Hp}{s:Shared}{Q:VK}{us:List Value}{vs:List V}(M:Mk X.K C f)(F:ie X.prog X.w X.K X.mg X.base CX k f fd ps sp)(hr:kC (k+1) X.A)(hb:Binds X.K fd ps ds)(hd:Vals zo ds)
  (hx:Passes CX X E) (I:Inv X c_ Z H s) (r:Vals vs us)
  (h:∀x dx,H x=none->H dx=none->dx≠x->sp (.ref x::(vs++zo)) (upd (upd H dx (.own x)) x (.ins C dx [])) (λv H2=>v=.jb/\Q (.ref x) H2) E) :
  wpAny (model X.prog X.w) X.A (call (.ref C) us) (EP X c_ Z Q) X.xe s:=by
 have hq:=h (s.heap.objs.size+1) s.heap.objs.size (I.iK.fresh (Nat.le_succ _)) (I.iK.fresh (XW _)) (aa1 (acE _))
 have I2:=Inv.made (C:=C) I
 have r2:Vals (V.ref (s.heap.objs.size+1)::(vs++zo)) (Value.ref (s.heap.objs.size+1)::(us++ds)):=.cons rfl (r.append hd)
 have hl:(Value.ref (s.heap.objs.size+1)::us++ds).length=ps.length:=by
  have e:=r2.length
  rw[F.len _ _ _ _ hq] at e
  exact e.symm
 refine wpAny_call (JO (f:=f) I.xN M.makes M.init (acp.mp M.fn) (codeAny_mono (F.run _ X.stack _ _ ⟨Value.ref (s.heap.objs.size+1)::us,[]⟩ (Value.ref (s.heap.objs.size+1)::(us++ds)) _ _ E (hr.make C us [])
  (I2.Tp.make C us []) (hb _ (Value.ref (s.heap.objs.size+1)::us) I2.xN hl) r2 hq) λr s' Uv=>?_))
 cases r with
 | error e=>exact hx c_ Z _ _ e s' I2 Uv
 | ok fl=>
  cases fl with
  | ret u=>
   obtain⟨v,H',I3,rv,ev,q3⟩:=I2.after Uv
   subst ev
   exact⟨rv,⟨V.ref (s.heap.objs.size+1),H',I3,rfl,q3⟩⟩
  | next=>exact False.elim Uv
  | brk=>exact False.elim Uv
  | cont=>exact False.elim Uv
theorem uZ(M:Mk X.K C f)(F:ie X.prog X.w X.K X.mg X.base CX k f fd ps sp)(hr:kC (k+1) X.A)(hg:Gl X x)(hm:X.mg x=some (.ref C))(hb:Binds X.K fd ps ds)(hd:Vals zo ds)(hx:Passes CX X E)
  (ha:PA X (e::es) t) (G2:(x ==("__debug__":Str))=false:=by decide) (he:starEach (e::es) X.env=(false,eval e X.env)::starEach es X.env:=by rfl) (nK:(backTo pos (starEach es X.env)).any (·.1)=false:=by rfl) :
  PE X (.Call (.Name x p) (e::es) [] pos) (Oz C sp zo E t):=by
 intro c_ s Z H Q I h
 refine wpAny_Call_Name_kw (uT I hg hm ?_ G2)
 refine W.callWith_K (h₀:=X.base) I.ok.mod.R1 M.kp (i0 (ha pos c_ s Z H _ I h) λus s1 iH=>?_) he nK
 obtain⟨vs,H1,I1,r,q⟩:=iH
 refine⟨I1.xN,?_⟩
 exact Ei M F hr hb hd hx I1 r q
theorem JQ(M:Mk X.K C f)(F:ie X.prog X.w X.K X.mg X.base CX k f fd ps sp)(hr:kC (k+1) X.A)(hg:Gl X x)(hm:X.mg x=some (.ref C))(hb:Binds X.K fd ps ds)(hd:Vals zo ds)(hx:Passes CX X E)
  (G2:(x ==("__debug__":Str))=false:=by decide):PE X (.Call (.Name x p) [] [] pos) (Oz C sp zo E P2):=by
 intro c_ s Z H Q I h
 refine wpAny_Call_Name_kw (uT I hg hm ?_ G2)
 exact W.callWith_K0 I.xN M.kp (Ei (us:=[]) M F hr hb hd hx I .nil h)
end
def PK(X:Cx)(kws:List Keyword)(t:TA):Prop:=
 ∀(pos:Pos)(c_:Qqz)(s:Shared)(Z:St)(H:Hp)(Q:List V->Hp->Prop),Inv X c_ Z H s->t Z H Q->wpAny (model X.prog X.w) X.A (evalAll ((backToKw pos (keywordEach kws X.env)).map (·.2))) (AP X c_ Z Q) X.xe s
section
variable{X:Cx}{CX:Hm}{k:Nat}{f C:Addr}{fd:FuncData}{ps ks:List Str}{sp:Sp}{E:XK}{x m:Str}{p pos apos kpos:Pos}{e o:Expr}{es:List Expr}{kws:List Keyword}{te ta:TE}{t tk:TA}{nm:Option Str}
variable{g:List Value->List Value->List Value}{gV:List V->List V->List V}
end
structure gH(N P:List Str)(sc:Scope):Prop where
 kind:sc.kind=.function
 co:sc.isCoroutine=false
 gen:sc.isGenerator=false
 nd:N.Nodup
 pre:N.take P.length=P
 par:∀x∈P,sc.names.lookup x=some .local\/sc.names.lookup x=some .cell
 P4:∀y∈sc.names,y.2≠.free
theorem BF{kindOf:Str->Option NameKind}{x:Str}:∀{binds:List (Str×Value)} {m:Qqx},(∀v,(x,v)∉binds)->bindL kindOf binds m x=m x
 | [],_,_=>rfl
 | (n,v)::r,m,h=>by
  unfold bindL
  rw[BF λw hw=>h w (aam _ hw)]
  split
  ·have:x≠n:=by rintro rfl;exact h v aaD
   simp[this]
  ·rfl
theorem BG{kindOf:Str->Option NameKind}{x:Str}:∀{binds:List (Str×Value)} {m:Qqx},(∀v,(x,v)∉binds)->bindC kindOf binds m x=m x
 | [],_,_=>rfl
 | (n,v)::r,m,h=>by
  unfold bindC
  rw[BG λw hw=>h w (aam _ hw)]
  split
  ·rfl
  ·have:x≠n:=by rintro rfl;exact h v aaD
   simp[this]
theorem BH{kindOf:Str->Option NameKind}{x:Str}{v:Value}:∀{P:List Str} {vs:List Value} {i:Nat} {m:Qqx},P.Nodup->P[i]?=some x->vs[i]?=some v->kindOf x=some .local->
  bindL kindOf (P.zip vs) m x=some v
 | [],_,_,_,_,h,_,_=>by simp at h
 | _::_,[],_,_,_,_,h,_=>by simp at h
 | p::P,w::vs,0,m,nd,h1,h2,hk=>by
  simp at h1 h2;subst h1;subst h2
  show bindL kindOf ((p,w)::P.zip vs) m p=_
  unfold bindL
  rw[BF λv hv=>(aa9.mp nd).1 (List.of_mem_zip hv).1,aay hk]
  simp
 | p::P,w::vs,i+1,m,nd,h1,h2,hk=>by
  show bindL kindOf ((p,w)::P.zip vs) m x=_
  unfold bindL
  exact BH (i:=i) (aa9.mp nd).2 (by simpa using h1) (by simpa using h2) hk
theorem BI{kindOf:Str->Option NameKind}{x:Str}{v:Value}:∀{P:List Str} {vs:List Value} {i:Nat} {m:Qqx},P.Nodup->P[i]?=some x->vs[i]?=some v->kindOf x≠some .local->
  bindC kindOf (P.zip vs) m x=some v
 | [],_,_,_,_,h,_,_=>by simp at h
 | _::_,[],_,_,_,_,h,_=>by simp at h
 | p::P,w::vs,0,m,nd,h1,h2,hk=>by
  simp at h1 h2;subst h1;subst h2
  show bindC kindOf ((p,w)::P.zip vs) m p=_
  unfold bindC
  rw[BG λv hv=>(aa9.mp nd).1 (List.of_mem_zip hv).1,aaw hk]
  simp
 | p::P,w::vs,i+1,m,nd,h1,h2,hk=>by
  show bindC kindOf ((p,w)::P.zip vs) m x=_
  unfold bindC
  exact BI (i:=i) (aa9.mp nd).2 (by simpa using h1) (by simpa using h2) hk
def start(N:List Str)(vs:List V):St:=vs.map some++List.replicate (N.length-vs.length) none
def wG(CX:Hm)(P:Program)(w:World)(K:Qqy)(mg:Qqx)(base:Heap)(N:List Str)(qual:Str)(scope:Scope)(f:Addr)(cd:Value)(A:Around)(outer:List Env)(s:Shared)(H:Hp)(E:XK):Cx where
 prog:=P
 w:=w
 K:=K
 mg:=mg
 base:=base
 A:=A.deeper (envOfC qual scope s.heap.objs.size f cd)
 N:=N
 s₀:=s
 H₀:=H
 env:=envOfC qual scope s.heap.objs.size f cd
 outer:=outer
 stack:=envOfC qual scope s.heap.objs.size f cd::outer
 ex:=[]
 calm:=true
 fn:=λ_=>true
 pn:=[]
 xe:=λe s'=>wpAny (model P w) (A.deeper (envOfC qual scope s.heap.objs.size f cd)) (leaving (envOfC qual scope s.heap.objs.size f cd) e) (λ_ Jq=>CX outer H s E e Jq) (λe' Jq=>CX outer H s E e' Jq) s'
theorem Ej{sc:Scope}{n:Nat}{x:Str}(h:sc.names.lookup x=some .cell):∃c,(cellsFrom n sc.names []).lookup x=some c:=by
 have q:=W.cellsFrom_some sc.names n [] (.inl h)
 exact Option.isSome_iff_exists.mp q
theorem Iq{CX:Hm}{P:Program}{w:World}{K:Qqy}{mg:Qqx}{base:Heap}{N ps:List Str}{qual:Str}{scope:Scope}{f:Addr}{cd:Value}{A:Around}{outer:List Env}{s s1:Shared}{H:Hp}{E:XK}{us:List Value}{vs:List V}
  (S:gH N ps scope) (hd:A.handled=none) (e0:Ge P w K mg base A outer s H) (hl:vs.length=ps.length) (r:Vals vs us)
  (x:InCallC s s.heap.objs.size (bindL (envOfC qual scope s.heap.objs.size f cd).kindOf (ps.zip us) λ_=>none) (cellsFrom (s.heap.objs.size+1) scope.names []) (bindC (envOfC qual scope s.heap.objs.size f cd).kindOf (ps.zip us) λ_=>none) s1) :
  Inv (wG CX P w K mg base N qual scope f cd A outer s H E) [] (start N vs) H s1:=by
 have nK:ps.length<=N.length:=by have:=abe List.length S.pre;rw[aaP] at this;omega
 obtain⟨h1,tk,rfl,hk⟩:=x.done
 have OZ:∀b:Addr,b∉(wG CX P w K mg base N qual scope f cd A outer s H E).ex:=λb z=>absurd (show b∈([]:List Addr) from z) (by simp)
 refine⟨⟨e0.mod,S.kind,rfl,rfl,XW _,λy z c h1 h2=>?_,λy hy=>?_,λy c _ h=>?_,λ_=>hd,Around.frames_deeper e0.frames,.inr ⟨rfl,rfl⟩,λb z=>absurd z (OZ b),e0.bs,e0.MC,λb _ _=>OZ b,λb z=>absurd z (OZ b),e0.uS,e0.Ov⟩,
  rfl,e0.bare,Un.kept hk,⟨_,x.toInCall.ns,λi y v h1 h2 h3=>?_⟩,λy c h=>⟨_,x.cell y c h⟩,e0.iK.fresh (XW _),λy c h=>?_,λp hp=>absurd (show p∈([]:Qqz) from hp) (by simp),e0.iK.kept hk,?_⟩
 ·exact name_of_addr x.apart (abP h1) (abP h2)
 ·have hy:scope.names.lookup y=some .cell\/scope.names.lookup y=some .free:=hy
  rcases hy with hy|hy
  ·exact Ej hy
  ·exact absurd rfl (S.P4 _ (abP hy))
 ·exact acK (x.above y c (abP h))
 ·have hi:i<vs.length:=by
   unfold start at h2
   by_cases hi:i<vs.length
   ·exact hi
   ·rw[abl (by simpa using hi)] at h2
    rw[List.getElem?_replicate] at h2
    split at h2<;>cases h2
  have ha:vs[i]?=some v:=by
   unfold start at h2
   rw[abU (by simpa using hi),aao] at h2
   cases e:vs[i]? with
   | none=>rw[e] at h2;cases h2
   | some a=>rw[e] at h2;cases h2;rfl
  obtain⟨u,hu,rv⟩:=r.get ha
  have hp:ps[i]?=some y:=by
   rw[<-S.pre,List.getElem?_take_of_lt (by omega)];exact h1
  have ndP:ps.Nodup:=by rw[<-S.pre];exact S.nd.sublist (acA _ _)
  refine⟨u,rv,?_⟩
  rcases S.par y (XZ hp) with k|k
  ·exact .inl ⟨k,BH ndP hp hu k⟩
  ·obtain⟨c,e⟩:=Ej (n:=s.heap.objs.size+1) k
   refine .inr ⟨.inl k,c,e,?_⟩
   have q:=x.cell y c e
   rw[BI ndP hp hu (by show scope.names.lookup y≠_;rw[k];decide)] at q
   exact q
 ·exact e0.iK.fresh (acK (x.above y c (abP h)))
 ·unfold start
  show _=N.length
  rw[YO,O7,List.length_replicate]
  omega
theorem OA{CX:Hm}{P:Program}{w:World}{K:Qqy}{mg:Qqx}{base:Heap}{k:Nat}{f:Addr}{name qual:Str}{params:Arguments}{body:List Stmt}{scope:Scope}{dV kV doc pm jt ct oc:Value}{an od:Option Addr}
  {JB:Array (Option Value)} {N ps:List Str} {sp:Sp} (lk:K.lookup f=some ⟨oc,od,.func (W.fnOf name qual params body scope dV kV doc pm an jt ct),JB⟩) (Co:W.codeIn K jt qual=true) (S:gH N ps scope)
  (len:∀vs H Q E,sp vs H Q E->vs.length=ps.length)
  (wo:∀(A:Around)(outer:List Env)(s:Shared)(H:Hp)(vs:List V)(Q:VK)(E:XK),kC k (A.deeper (envOfC qual scope s.heap.objs.size f jt))->sp vs H Q E->
   ∃t,FO (wG CX P w K mg base N qual scope f jt A outer s H E) body t/\t {nx:=λ_ H'=>Q .jb H',rt:=Q} (start N vs) H) :
  ie P w K mg base CX (k+1) f (W.fnOf name qual params body scope dV kV doc pm an jt ct) ps sp:=by
 refine⟨len,λA outer s H args us vs Q E hr e0 hb r Mq=>?_⟩
 have hl:=len _ _ _ _ Mq
 have KX:K.In s.heap:=e0.mod.R1.keeps λb o e=>(e0.bs b o e).1
 have lim:s.heap.NoLimit:=e0.mod.nolimit.keeps λb o e=>(e0.bs b o e).1
 have Uw:∀y∈ps.zip us,scope.names.lookup y.1=some .local\/(scope.names.lookup y.1=some .cell/\((cellsFrom (s.heap.objs.size+1) scope.names []).lookup y.1).isSome=true):=λ⟨n,v⟩ hy=>by
  rcases S.par n (List.of_mem_zip hy).1 with q|q
  ·exact .inl q
  ·exact .inr ⟨q,W.cellsFrom_some _ _ _ (.inl q)⟩
 refine codeAny_call_function hr.depth (KX _ _ lk) rfl S.co S.gen rfl (W.codeRec_of KX Co) (hb _ _ _ _ ?_)
 refine wpAny_newFunctionEnv_cells S.kind Uw λenv he s1 x=>?_
 subst he
 refine⟨lim.keeps x.toInCall.keep,codeAny_func ?_⟩
 obtain⟨t,ht,hq⟩:=wo A outer s H vs Q E (hr.deeper _) Mq
 have I:Inv (wG CX P w K mg base N qual scope f jt A outer s H E) [] (start N vs) H s1:=Iq S hr.hd e0 hl r x
 refine abK (ht [] s1 (start N vs) H _ I hq) (λfl s' hs=>?_) λe s' hs=>hs
 have fin:∀{Z':St} {H':Hp} {v:V} {u:Value},Inv (wG CX P w K mg base N qual scope f jt A outer s H E) [] Z' H' s'->RelV v u->Q v H'->CE outer P w H s Q u s':=
  λ{Z' H' v u} J rv q=>⟨v,H',J.os,J.bare,J.base,J.iK,rv,q⟩
 cases fl with
 | ret u=>
  obtain⟨v,Z',H',J,rv,q⟩:=hs
  exact fin J rv q
 | next=>
  obtain⟨Z',H',J,q⟩:=hs
  exact fin (v:=V.jb) (u:=Value.none) J rfl q
 | brk=>
  obtain⟨_,_,_,q⟩:=hs
  exact False.elim q
 | cont=>
  obtain⟨_,_,_,q⟩:=hs
  exact False.elim q
section
variable{X:Cx}{x:Str}{p pos:Pos}{e:Expr}{es:List Expr}{t:TA}{id T:String}{r:List V->Hp->VK->Prop}
def tCB(r:List V->Hp->VK->Prop)(t:TA):TE:=λZ H Q=>t Z H λvs H1=>r vs H1 Q
theorem gK(hc:uW X (.builtin id) r)(hg:Gl X x)(hm:X.mg x=none)(hv:bootBuiltins x=some (.builtin id))(ha:PA X (e::es) t)(hn:x≠"__name__":=by decide)(G2:(x ==("__debug__":Str))=false:=by decide)
  (he:starEach (e::es) X.env=(false,eval e X.env)::starEach es X.env:=by rfl) (nK:(backTo pos (starEach es X.env)).any (·.1)=false:=by rfl):PE X (.Call (.Name x p) (e::es) [] pos) (tCB r t):=by
 intro c_ s Z H Q I h
 refine wpAny_Call_Name_kw (o3 I hg hm hv ?_ hn G2)
 exact PyProof.Rows.callWith_builtin1 (i0 (ha pos c_ s Z H _ I h) λus s1 ⟨vs,H1,I1,r1,q1⟩=>hc c_ s1 Z H1 vs us Q I1 r1 q1) he nK
theorem wH(hc:uW X (.type T) r)(hg:Gl X x)(hm:X.mg x=none)(hv:bootBuiltins x=some (.type T))(ha:PA X (e::es) t)(hn:x≠"__name__":=by decide)(G2:(x ==("__debug__":Str))=false:=by decide)
  (he:starEach (e::es) X.env=(false,eval e X.env)::starEach es X.env:=by rfl) (nK:(backTo pos (starEach es X.env)).any (·.1)=false:=by rfl):PE X (.Call (.Name x p) (e::es) [] pos) (tCB r t):=by
 intro c_ s Z H Q I h
 refine wpAny_Call_Name_kw (o3 I hg hm hv ?_ hn G2)
 exact abh (i0 (ha pos c_ s Z H _ I h) λus s1 ⟨vs,H1,I1,r1,q1⟩=>hc c_ s1 Z H1 vs us Q I1 r1 q1) he nK
end
end L2
namespace HT
open PySem PyProof.Rows
section
open PySem.SeqAt
open PySem.AutoSeq1 (wpAny_loadPart')
open PySem.MeetsSeq PySem.MeetsSeq2 PySem.MeetsSeq3
end
section
variable{prog:Program}{w:World}{A:Around}{E:Qqq}{s:Shared}
def Ek(n d:Nat):Option Int->Nat
 | none=>d
 | some v=>if v<0 then(v+(n:Int)).toNat else min v.toNat n
theorem Em(n d:Nat):Ek n d none=d:=rfl
theorem Hq(n d k:Nat):Ek n d (some (k:Int))=min k n:=by
 show(if(k:Int)<0 then((k:Int)+(n:Int)).toNat else min (k:Int).toNat n)=min k n
 rw[aaw (by omega),abQ]
end
end HT
namespace L2
open PySem PySem.Spec PyProof.Rows
abbrev TO:=St->Hp->(Option Int->Hp->Prop)->Prop
def PO(X:Cx)(e:Option Expr)(t:TO):Prop:=
 ∀(c_:Qqz)(s:Shared)(Z:St)(H:Hp)(Q:Option Int->Hp->Prop),Inv X c_ Z H s->t Z H Q->
  wpAny (model X.prog X.w) X.A (evalPart e X.env) (λu s'=>∃o H',Inv X c_ Z H' s'/\IsPart u o/\Q o H') X.xe s
def MH:TO:=λ_ H Q=>Q none H
def Tq(t:TE):TO:=λZ H Q=>t Z H λx H1=>∃i,x=.int i/\Q (some i) H1
section
variable{X:Cx}{e:Expr}{te:TE}{lo hi:Option Expr}{tl th:TO}{pos p2:Pos}
theorem oz:PO X none MH:=by
 intro c_ s Z H Q I h
 rw[evalPart_none]
 exact aaz ⟨none,H,I,.none,h⟩
theorem oA(h:PE X e te):PO X (some e) (Tq te):=by
 intro c_ s Z H Q I hw
 rw[evalPart_some]
 refine i0 (h c_ s Z H _ I hw) λu s1 iH=>?_
 obtain⟨x,H1,I1,r1,q1⟩:=iH
 obtain⟨i,rfl,q⟩:=q1
 obtain⟨t,rfl⟩:=r1
 exact⟨some i,H1,I1,.int i t,q⟩
def SlR(X:Cx)(r:V->Option Int->Option Int->Hp->VK->Prop):Prop:=
 ∀(c_:Qqz)(s:Shared)(Z:St)(H:Hp)(x:V)(v vl vu:Value)(lo hi:Option Int)(sl:Addr)(Q:VK),Inv X c_ Z H s->RelV x v->s.heap.IsSliceOf sl vl vu .none->IsPart vl lo->IsPart vu hi->r x lo hi H Q->
  ∃T id,typeLookup (.type T) "__getitem__"=pure (some (.builtin id))/\s.TypeIs v T/\wpAny (model X.prog X.w) X.A (getItem v (.ref sl)) (EP X c_ Z Q) X.xe s
def tSl(r:V->Option Int->Option Int->Hp->VK->Prop)(te:TE)(tl th:TO):TE:=λZ H Q=>te Z H λx H1=>tl Z H1 λl H2=>th Z H2 λu H3=>r x l u H3 Q
theorem mD{r:V->Option Int->Option Int->Hp->VK->Prop}(hr:SlR X r)(he:PE X e te)(hl:PO X lo tl)(hu:PO X hi th):PE X (.Subscript e (.Slice lo hi none p2) pos) (tSl r te tl th):=by
 intro c_ s Z H Q I h
 refine Subscript_ (i0 (he c_ s Z H _ I h) λv s1 iH=>?_)
 obtain⟨x,H1,I1,r1,q1⟩:=iH
 refine wpAny_Slice (i0 (hl c_ s1 Z H1 _ I1 q1) λvl s2 iH=>?_)
 obtain⟨l,H2,I2,pl,q2⟩:=iH
 refine i0 (hu c_ s2 Z H2 _ I2 q2) λvu s3 Jp=>?_
 obtain⟨u,H3,I3,pu,q3⟩:=Jp
 rw[evalPart_none]
 refine aaz ?_
 have I4:Inv X c_ Z H3 {s3 with heap:=s3.heap.push {cls:=.type "slice",data:=.fields #[vl,vu,.none]}}:=I3.kept (t':=s3.toks) λb ob q=>aaC _ q
 obtain⟨T,id,hT,ht,hg⟩:=hr c_ {s3 with heap:=s3.heap.push {cls:=.type "slice",data:=.fields #[vl,vu,.none]}} Z H3 x v vl vu l u s3.heap.objs.size Q I4 r1 (Heap.IsSliceOf.new ..) pl pu q3
 show wpAny (model X.prog X.w) X.A (subscriptTail e (.Slice lo hi none p2) v (.ref s3.heap.objs.size)) (EP X c_ Z Q) X.xe {s3 with heap:=s3.heap.push {cls:=.type "slice",data:=.fields #[vl,vu,.none]}}
 exact tail_any (ops:=[.ref s3.heap.objs.size,v]) ht hT hg (by with_unfolding_all rfl)
def u_(xs:List V)(lo hi:Option Int):List V:=(xs.drop (HT.Ek xs.length 0 lo)).take (HT.Ek xs.length xs.length hi-HT.Ek xs.length 0 lo)
theorem En(xs:List V)(lo hi:Option Int):(u_ xs lo hi).length<=xs.length:=by
 unfold u_
 rw[aaP,List.length_drop]
 omega
end
noncomputable def JR(n:Nat)(i:Int):Option Nat:=if 0<=i then(if i<n then some i.toNat else none) else if -(n:Int)<=i then some (i+n).toNat else none
noncomputable def Gg{Z:Type}(xs:List Z)(i:Int):Option Z:=(JR xs.length i).bind λj=>xs[j]?
theorem Hr{n:Nat}{i:Int}{j:Nat}(h:JR n i=some j):seqIndex? i n=some j/\j<n/\-(n:Int)<=i/\i<n:=by
 unfold JR at h
 by_cases h0:0<=i
 ·rw[aay h0] at h
  by_cases h1:i<n
  ·rw[aay h1] at h
   have e:i.toNat=j:=aaF h
   exact⟨by rw[seqIndex_of h0 h1,e],by omega,by omega,h1⟩
  ·rw[aaw h1] at h;cases h
 ·rw[aaw h0] at h
  by_cases h1:-(n:Int)<=i
  ·rw[aay h1] at h
   have e:(i+n).toNat=j:=aaF h
   exact⟨by rw[seqIndex_neg (by omega) h1,e],by omega,h1,by omega⟩
  ·rw[aaw h1] at h;cases h
theorem Cy{Z:Type}{xs:List Z}{i:Int}{v:Z}(h:Gg xs i=some v):∃j,seqIndex? i xs.length=some j/\xs[j]?=some v/\j<xs.length/\-(xs.length:Int)<=i/\i<xs.length:=by
 unfold Gg at h
 cases e:JR xs.length i with
 | none=>rw[e] at h;cases h
 | some j=>
  rw[e] at h
  obtain⟨h1,h2,h3,h4⟩:=Hr e
  exact⟨j,h1,h,h2,h3,h4⟩
theorem MJ{Z:Type}{xs:List Z}{j:Nat}{v:Z}(h:xs[j]?=some v):Gg xs (j:Int)=some v:=by
 have hj:j<xs.length:=(List.getElem?_eq_some_iff.mp h).1
 have e:JR xs.length (j:Int)=some j:=by
  unfold JR
  rw[aay (by omega),aay (by omega)];simp
 unfold Gg;rw[e];exact h
theorem Eo{Z:Type}(xs:List Z)(v:Z):Gg (xs++[v]) (-1)=some v:=by
 have hl:(xs++[v]).length=xs.length+1:=by simp
 have e:JR (xs++[v]).length (-1)=some xs.length:=by
  unfold JR
  rw[hl,aaw (by decide),aay (by omega)]
  congr 1
  omega
 unfold Gg
 rw[e]
 show(xs++[v])[xs.length]?=some v
 simp
def Hs(b:Expr):Prop:=∀o i,subscripted b false o i=operate [o,i] (getItem o i)
def Wd(X:Cx)(r:R2):Prop:=
 ∀(value slice:Expr)(c_:Qqz)(s:Shared)(Z:St)(H:Hp)(x y:V)(v u:Value)(Q:VK),Inv X c_ Z H s->RelV x v->RelV y u->r x y H Q->
  subscripted slice false v u=operate [v,u] (getItem v u)->wpAny (model X.prog X.w) X.A (subscriptTail value slice v u) (EP X c_ Z Q) X.xe s
def XA(X:Cx)(id:String)(r:V->List V->Hp->VK->Prop):Prop:=
 ∀(c_:Qqz)(s:Shared)(Z:St)(H:Hp)(x:V)(xs:List V)(v:Value)(us:List Value)(Q:VK),Inv X c_ Z H s->RelV x v->Vals xs us->r x xs H Q->
  wpAny (model X.prog X.w) X.A (call (.builtin id) (v::us)) (EP X c_ Z Q) X.xe s
section
variable{X:Cx}{a b:Expr}{ta tb:TE}{pos:Pos}
theorem jo{r:R2}(hr:Wd X r)(ha:PE X a ta)(hb:PE X b tb)(hs:Hs b):PE X (.Subscript a b pos) (Wc r ta tb):=by
 intro c_ s Z H Q I h
 exact Subscript_ (Tg ha hb I h λv u s2 x y H2 I2 rx ry q=>hr a b c_ s2 Z H2 x y v u Q I2 rx ry q (hs _ _))
inductive Tr(K:Qqy)(x:V)(y:V)(H:Hp)(Q:VK):Prop
 | mk (p xs i v) (_:x=.ref p) (_:y=.int i) (_:gN K H p xs) (_:Gg xs i=some v) (_:Q v H)
inductive XC(K:Qqy)(x:V)(y:V)(H:Hp)(Q:VK):Prop
 | mk (p xs i v) (_:x=.ref p) (_:y=.int i) (_:oy K H p xs) (_:Gg xs i=some v) (_:Q v H)
noncomputable def XD:R2:=λx y H Q=>∃z i c,x=.str z/\y=.int i/\z.length<=sizeLine/\Gg z.cps.toList i=some c/\Q (.str ⟨#[c]⟩) H
theorem kK:Wd X (Tr X.K):=by
 intro value slice c_ s Z H x y v u Q I rx ry h hs
 obtain⟨p,xs,i,z,rfl,rfl,hq,he,q⟩:=h
 cases rx
 obtain⟨t,rfl⟩:=ry
 obtain⟨g_,r,pl,hz⟩:=I.list hq
 obtain⟨j,h1,h2,h3,h4,h5⟩:=Cy he
 obtain⟨w,ew,By⟩:=r.get h2
 have hl:=r.length
 have hn:=um
 have fin:EP X c_ Z Q w s:=⟨z,H,I,By,q⟩
 by_cases h0:0<=i
 ·have hj:i.toNat=j:=by
   rw[seqIndex_of h0 h5] at h1
   exact aaF h1
  exact item_listR pl.isList h0 (by omega) (by rw[hj];simpa using ew) fin hs
 ·have hj:(i+(g_.toArray.size:Int)).toNat=j:=by
   rw[seqIndex_neg (by omega) h4] at h1
   rw[aaA,<-hl]
   exact aaF h1
  exact subscriptTail_builtinR (x:=w) pl.isList.typeIs slot_list_getitem.lookup
   (wpAny_getItem_list_neg (Q:=λr s'=>r=w/\EP X c_ Z Q r s') pl.isList (by omega) (by rw[aaA]<;>omega) (by omega) (by rw[hj];simpa using ew) ⟨rfl,fin⟩) hs
theorem kS:Wd X (XC X.K):=by
 intro value slice c_ s Z H x y v u Q I rx ry h hs
 obtain⟨p,xs,i,z,rfl,rfl,hq,he,q⟩:=h
 cases rx
 obtain⟨t,rfl⟩:=ry
 obtain⟨g_,r,pl,hz⟩:=I.tuple hq
 obtain⟨j,h1,h2,h3,h4,h5⟩:=Cy he
 obtain⟨w,ew,By⟩:=r.get h2
 have hl:=r.length
 have hn:=um
 have fin:EP X c_ Z Q w s:=⟨z,H,I,By,q⟩
 exact subscriptTail_builtinR (x:=w) pl.typeIs slot_tuple_getitem.lookup
  (getItem_tuple (j:=j) (Q:=λr s'=>r=w/\EP X c_ Z Q r s') pl (by omega) (by omega) (by rw[aaA,<-hl];exact h1) (by simpa using ew) ⟨rfl,fin⟩) hs
theorem Gh:Wd X XD:=by
 intro value slice c_ s Z H x y v u Q I rx ry h hs
 obtain⟨z,i,c,rfl,rfl,hz,he,q⟩:=h
 obtain⟨t,rfl⟩:=rx
 obtain⟨t',rfl⟩:=ry
 obtain⟨j,h1,h2,h3,h4,h5⟩:=Cy he
 have hl:z.cps.toList.length=z.length:=by simp[Str.length]
 rw[hl] at h1 h4 h5
 have hn:=um
 exact tail_any (typeIs_str s z t) slot_str_getitem.lookup (getItem_str (c:=c) (by
  have e1:decide (i < -(2 ^ 63:Int))=false:=aaq (by omega)
  have e2:decide (i>=2 ^ 63)=false:=aaq (by omega)
  rw[e1,e2,Bool.or_false]) (by rw[h1];simpa using h2) ⟨.str ⟨#[c]⟩,H,I.tok _,⟨_,rfl⟩,q⟩) hs
theorem Gi(g_:List Value)(n j:Nat)(u:Value):Obj.mapSeq (·.setIfInBounds j u) {cls:=.type "list",data:=.seq g_.toArray n}={cls:=.type "list",data:=.seq (g_.set j u).toArray n}:=by
 simp[Obj.mapSeq]
theorem Inv.lst{c_:Qqz}{Z:St}{H:Hp}{s:Shared}{p:Addr}{xs:List V}(I:Inv X c_ Z H s)(h:H p=some (.lst xs)) :
  ∃(g_:List Value)(n:Nat),Vals xs g_/\s.heap.get? p=some {cls:=.type "list",data:=.seq g_.toArray n}/\xs.length<=sizeLine:=by
 obtain⟨z,g_,n,r,e⟩:=I.iK p _ h
 exact⟨g_,n,r,e,z⟩
theorem Inv.P5{c_:Qqz}{Z:St}{H:Hp}{s:Shared}{p:Addr}{xs ys:List V}{g_ its':List Value}{n n':Nat}{f:Obj->Obj}(I:Inv X c_ Z H s)(h:H p=some (.lst xs))
  (ho:s.heap.get? p=some {cls:=.type "list",data:=.seq g_.toArray n}) (hf:f {cls:=.type "list",data:=.seq g_.toArray n}={cls:=.type "list",data:=.seq its'.toArray n'}) (r:Vals ys its') (hz:ys.length<=sizeLine) (t:Nat) :
  Inv X c_ Z (upd H p (.lst ys)) {s with heap:=s.heap.update p f,toks:=t}:=by
 have e:(s.heap.update p f).get? p=some {cls:=.type "list",data:=.seq its'.toArray n'}:=by
  rw[abp f ho (by rw[hf]<;>rfl),hf]
 refine I.write (x:=p) (e:=p) (by rw[h];trivial) (.inl rfl) (λb u hb q=>(ab8 _ _ (ab1 hb)).trans q) ⟨_,e⟩ ?_
 exact⟨hz,its',n',r,e⟩
inductive Ts(o:V)(i:V)(v:V)(H:Hp)(Q:Hp->Prop):Prop
 | mk (p xs k j) (_:o=.ref p) (_:i=.int k) (_:H p=some (.lst xs)) (_:JR xs.length k=some j) (_:Q (upd H p (.lst (xs.set j v))))
theorem set_list:Ta X Ts:=by
 intro c_ s Z H o i v ov iv u Q I ro ri rv h
 obtain⟨p,xs,k,j,rfl,rfl,hp,hj,q⟩:=h
 cases ro
 obtain⟨t,rfl⟩:=ri
 obtain⟨g_,n,r,ho,hz⟩:=I.lst hp
 obtain⟨h1,h2,h3,h4⟩:=Hr hj
 have hl:=r.length
 have hn:=um
 have I':Inv X c_ Z (upd H p (.lst (xs.set j v))) {s with heap:=s.heap.update p (Obj.mapSeq (·.setIfInBounds j u))}:=
  I.P5 hp ho (Gi g_ n j u) (r.set rv j) (by rw[acs];exact hz) s.toks
 by_cases h0:0<=k
 ·have hk:k.toNat=j:=by
   rw[seqIndex_of h0 h4] at h1
   exact aaF h1
  exact W.ki_setAt ho h0 (by omega) (by rw[aaA,<-hl];exact h4) (by rw[hk];exact⟨_,I',q⟩)
 ·have hk:(k+(g_.toArray.size:Int)).toNat=j:=by
   rw[seqIndex_neg (by omega) h3] at h1
   rw[aaA,<-hl]
   exact aaF h1
  exact W.ki_setBack ho (by omega) (by rw[aaA,<-hl];exact h3) (by omega) (by rw[hk];exact⟨_,I',q⟩)
theorem Cz(lo hi:Option Int)(n:Nat):(sliceBounds lo hi none n).1=((HT.Ek n 0 lo:Nat):Int)/\(sliceBounds lo hi none n).2.1=((HT.Ek n n hi:Nat):Int)/\(sliceBounds lo hi none n).2.2=1:=by
 refine⟨?_,?_,rfl⟩
 ·cases lo with
  | none=>simp[sliceBounds,HT.Ek]
  | some i=>
   simp only [sliceBounds,HT.Ek,Option.getD_none,show(1:Int)>0 by decide,if_true]
   by_cases h:i<0
   ·simp only [h,if_true]<;>omega
   ·simp only [h,acd]<;>omega
 ·cases hi with
  | none=>simp[sliceBounds,HT.Ek]
  | some i=>
   simp only [sliceBounds,HT.Ek,Option.getD_none,show(1:Int)>0 by decide,if_true]
   by_cases h:i<0
   ·simp only [h,if_true]<;>omega
   ·simp only [h,acd]<;>omega
theorem A_(g_:List Value)(lo hi:Option Int):slicePick g_.toArray lo hi none=((g_.drop (HT.Ek g_.length 0 lo)).take (HT.Ek g_.length g_.length hi-HT.Ek g_.length 0 lo)).toArray:=by
 obtain⟨h1,h2,h3⟩:=Cz lo hi g_.toArray.size
 unfold slicePick
 rw[h1,h2,h3]
 simp only [sliceRange_one,pick_run,aaA]<;>rfl
def XE(K:Qqy):V->Option Int->Option Int->Hp->VK->Prop:=λx lo hi H Q=>∃a xs,x=.ref a/\gN K H a xs/\∀p,H p=none->Q (.ref p) (upd H p (.lst (u_ xs lo hi)))
theorem oB:SlR X (XE X.K):=by
 intro c_ s Z H x v vl vu lo hi sl Q I rx hs pl pu h
 obtain⟨a,xs,rfl,hx,q⟩:=h
 cases rx
 obtain⟨g_,r,ht,hz⟩:=I.list hx
 have hlen:=r.length
 refine⟨"list",_,slot_list_getitem.lookup,ht.isList.typeIs,?_⟩
 refine wpAny_getItem_list_slice ht.isList hs pl pu .none (by simp) ?_ (by rw[aaA]<;>omega)
 rw[A_,<-hlen]
 refine⟨.ref s.heap.objs.size,_,I.laid (t':=s.toks) (o:=.lst (u_ xs lo hi)) (λb ob q=>aaC _ q) (XW _) ?_,rfl,q _ (I.iK.fresh (XW _))⟩
 exact⟨aan (En xs lo hi) hz,_,0,(r.drop (HT.Ek xs.length 0 lo)).take (HT.Ek xs.length xs.length hi-HT.Ek xs.length 0 lo),aaO _ rfl⟩
def l8:V->Bool
 | .jb=>true
 | .bl _=>true
 | .int _=>true
 | .str _=>true
 | _=>false
noncomputable def Ir:V->V->Bool
 | .jb,.jb=>true
 | .bl a,.bl b=>a ==b
 | .bl a,.int b=>(if a then 1 else 0) ==b
 | .int a,.bl b=>a ==(if b then 1 else 0)
 | .int a,.int b=>a ==b
 | .str a,.str b=>a ==b
 | _,_=>false
theorem JS{A:Around}{s:Shared}{y x:V}{u v:Value}(ry:RelV y u)(rx:RelV x v)(fy:l8 y=true)(fx:l8 x=true):SeqAt.EqAt A s u v (Ir y x):=by
 cases y with
 | jb=>
  cases ry
  cases x with
  | jb=>cases rx;exact SeqAt.EqAt.same _
  | bl b=>cases rx;exact SeqAt.EqAt.none_bool b
  | int b=>obtain⟨t,rfl⟩:=rx;exact SeqAt.EqAt.none_int b t
  | str b=>obtain⟨t,rfl⟩:=rx;exact SeqAt.EqAt.none_str b t
  | _=>exact absurd (show false=true from fx) aax
 | bl a=>
  cases ry
  cases x with
  | jb=>cases rx;exact SeqAt.EqAt.bool_none a
  | bl b=>cases rx;exact SeqAt.EqAt.bool_bool a b
  | int b=>obtain⟨t,rfl⟩:=rx;exact SeqAt.EqAt.bool_int a b t
  | str b=>obtain⟨t,rfl⟩:=rx;exact SeqAt.EqAt.bool_str a b t
  | _=>exact absurd (show false=true from fx) aax
 | int a=>
  obtain⟨t',rfl⟩:=ry
  cases x with
  | jb=>cases rx;exact SeqAt.EqAt.int_none a t'
  | bl b=>cases rx;exact SeqAt.EqAt.int_bool a t' b
  | int b=>obtain⟨t,rfl⟩:=rx;exact SeqAt.EqAt.int_int a t' b t
  | str b=>obtain⟨t,rfl⟩:=rx;exact SeqAt.EqAt.int_str a t' b t
  | _=>exact absurd (show false=true from fx) aax
 | str a=>
  obtain⟨t',rfl⟩:=ry
  cases x with
  | jb=>cases rx;exact SeqAt.EqAt.str_none a t'
  | bl b=>cases rx;exact SeqAt.EqAt.str_bool a t' b
  | int b=>obtain⟨t,rfl⟩:=rx;exact SeqAt.EqAt.str_int a t' b t
  | str b=>obtain⟨t,rfl⟩:=rx;exact SeqAt.EqAt.str_str a t' b t
  | _=>exact absurd (show false=true from fx) aax
 | _=>exact absurd (show false=true from fy) aax
noncomputable def MK(x:V)(u:Value):Bool:=match u with
 | .none=>Ir .jb x
 | .bool b=>Ir (.bl b) x
 | .int i _=>Ir (.int i) x
 | .str z _=>Ir (.str z) x
 | _=>false
theorem JT{x y:V}{u:Value}(r:RelV y u)(f:l8 y=true):MK x u=Ir y x:=by
 cases y with
 | jb=>cases r;rfl
 | bl b=>cases r;rfl
 | int i=>obtain⟨t,rfl⟩:=r;rfl
 | str z=>obtain⟨t,rfl⟩:=r;rfl
 | _=>exact absurd (show false=true from f) aax
theorem CA{x:V}:∀{xs:List V} {us:List Value},Vals xs us->xs.all l8=true->us.any (MK x)=xs.any λy=>Ir y x
 | _,_,.nil,_=>rfl
 | y::xs,u::us,.cons r t,f=>by
  rw[List.all_cons,abn] at f
  rw[acB,acB,JT r f.1,CA t f.2]
theorem zz{A:Around}{s:Shared}{x:V}{v:Value}(rx:RelV x v)(fx:l8 x=true):∀{xs:List V} {us:List Value},Vals xs us->xs.all l8=true->∀u∈us,SeqAt.EqAt A s u v (MK x u)
 | _,_,.nil,_=>λu hu=>by cases hu
 | y::xs,u::us,.cons r t,f=>λu' hu=>by
  rw[List.all_cons,abn] at f
  rcases aah.mp hu with rfl|hu
  ·rw[JT r f.1];exact JS r rx f.1 fx
  ·exact zz rx fx t f.2 u' hu
noncomputable def R5(x:V)(xs:List V):Bool:=xs.any λy=>Ir y x
inductive rIn(K:Qqy)(neg:Bool)(x:V)(y:V)(H:Hp)(Q:VK):Prop
 | mk (p xs) (_:y=.ref p) (_:(gN K H p xs\/oy K H p xs)) (_:l8 x=true) (_:xs.all l8=true) (_:Q (.bl (if neg then !R5 x xs else R5 x xs)) H)
theorem CB:xO X (compareOp .NotIn) (rIn X.K true):=by
 intro c_ s Z H x y v u Q I rx ry h
 obtain⟨p,xs,rfl,hq,fx,fs,q⟩:=h
 cases ry
 rcases hq with hq|hq
 ·obtain⟨g_,r,pl,hz⟩:=I.list hq
  refine SeqAt.notIn_listAt (MK x) pl.isList (λw hw=>zz rx fx r fs w (by simpa using hw)) ⟨.bl _,H,I,rfl,?_⟩
  rw[show g_.toArray.any (MK x)=g_.any (MK x) by simp,CA r fs]
  exact q
 ·obtain⟨g_,r,pl,hz⟩:=I.tuple hq
  refine SeqAt.notIn_tupleAt (MK x) pl (λw hw=>zz rx fx r fs w (by simpa using hw)) ⟨.bl _,H,I,rfl,?_⟩
  rw[show g_.toArray.any (MK x)=g_.any (MK x) by simp,CA r fs]
  exact q
theorem gE:uW X (.builtin "len") (λxs H Q=>∃p ys,xs=[.ref p]/\(gN X.K H p ys\/oy X.K H p ys)/\Q (.int ys.length) H):=by
 intro c_ s Z H xs us Q I r h
 obtain⟨p,ys,rfl,hq,q⟩:=h
 obtain⟨u,rfl,rx⟩:=vals1 r
 cases rx
 have hn:=um
 rcases hq with hq|hq
 ·obtain⟨g_,r',pl,hz⟩:=I.list hq
  have hlen:=r'.length
  exact Calls.call_len_list pl.isList (by simp only [aaA]<;>omega) ⟨.int ys.length,H,I.tok _,⟨s.toks+1,by rw[aaA,hlen]⟩,q⟩
 ·obtain⟨g_,r',pl,hz⟩:=I.tuple hq
  have hlen:=r'.length
  exact len_tuple pl (by simp only [aaA]<;>omega) ⟨.int ys.length,H,I.tok _,⟨s.toks+1,by rw[aaA,hlen]⟩,q⟩
theorem va:uW X (.builtin "len") (λxs H Q=>∃z,xs=[.str z]/\z.length<=sizeLine/\Q (.int z.length) H):=by
 intro c_ s Z H xs us Q I r h
 obtain⟨z,rfl,hz,q⟩:=h
 obtain⟨u,rfl,t,rfl⟩:=vals1 r
 have hn:=um
 exact len_str (by omega) ⟨.int z.length,H,I.tok _,⟨_,rfl⟩,q⟩
theorem vb:uW X (.type "list") (λxs H Q=>∃p ys,xs=[.ref p]/\(gN X.K H p ys\/oy X.K H p ys)/\∀l,H l=none->Q (.ref l) (upd H l (.lst ys))):=by
 intro c_ s Z H xs us Q I r h
 obtain⟨p,ys,rfl,hq,q⟩:=h
 obtain⟨u,rfl,rx⟩:=vals1 r
 cases rx
 have fin:∀(g_:List Value),Vals ys g_->ys.length<=sizeLine->∀(h':Heap)(c':Nat),(∀b o',s.heap.get? b=some o'->h'.get? b=some o')->
   h'.get? s.heap.objs.size=some {cls:=.type "list",dict:=none,data:=.seq g_.toArray c',slots:=#[]}->EP X c_ Z Q (.ref s.heap.objs.size) {s with heap:=h'}:=λg_ r' hz h' c' kp e=>
  ⟨.ref s.heap.objs.size,_,I.laid (t':=s.toks) kp (XW _) (show iZ X.prog X.w _ h' _ (.lst ys) from ⟨hz,g_,c',r',e⟩),rfl,q _ (I.iK.fresh (XW _))⟩
 rcases hq with hq|hq
 ·obtain⟨g_,r',pl,hz⟩:=I.list hq
  have hlen:=r'.length
  obtain⟨o,ho,hc,n,hd⟩:=pl.isList
  exact call_list_seq p (.inl rfl) ho hc hd (λh' c' kp e=>fin g_ r' hz h' c' kp e) (by simp only [aaA]<;>omega)
 ·obtain⟨g_,r',pl,hz⟩:=I.tuple hq
  have hlen:=r'.length
  obtain⟨o,ho,hc,n,hd⟩:=pl
  exact call_list_seq p (.inr rfl) ho hc hd (λh' c' kp e=>fin g_ r' hz h' c' kp e) (by simp only [aaA]<;>omega)
def XF(K:Qqy)(T:String)(x:V)(H:Hp):Prop:=match x with
 | .str _=>T="str"
 | .int _=>T="int"
 | .ref p=>(T="list"/\∃xs,gN K H p xs)\/(T="tuple"/\∃o,K.lookup p=some o/\o.cls=.type "tuple"/\o.dict=none)\/
  (T="dict"/\((∃kvs,H p=some (.dK kvs))\/∃kvs,H p=some (.dT kvs)))\/(T="set"/\∃S n,H p=some (.set S n))
 | _=>False
theorem JU{c_:Qqz}{Z:St}{H:Hp}{s:Shared}{T:String}{x:V}{v:Value}(I:Inv X c_ Z H s)(r:RelV x v)(ty:XF X.K T x H) :
  s.TypeIs v T/\∀a,v=.ref a->∃ob,s.heap.get? a=some ob/\ob.dict=none:=by
 cases x with
 | str z=>
  obtain⟨t,rfl⟩:=r
  cases (show T="str" from ty)
  exact⟨typeIs_str s z t,λ_ e=>nomatch e⟩
 | int i=>
  obtain⟨t,rfl⟩:=r
  cases (show T="int" from ty)
  exact⟨typeIs_int s i t,λ_ e=>nomatch e⟩
 | ref p=>
  cases r
  rcases ty with⟨rfl,xs,hq⟩|⟨rfl,o,hk,hc,hd⟩|⟨rfl,hk⟩|⟨rfl,S,n,hk⟩
  ·obtain⟨g_,_,pl,_⟩:=I.list hq
   refine⟨pl.isList.typeIs,λa e=>?_⟩
   cases e
   obtain⟨o,n,e,c,hd,_⟩:=pl
   exact⟨o,e,hd⟩
  ·refine⟨⟨o,I.xN p o hk,hc⟩,λa e=>?_⟩
   cases e
   exact⟨o,I.xN _ o hk,hd⟩
  ·have z:∃o,s.heap.get? p=some o/\o.ExactDict:=by
    rcases hk with⟨kvs,hk⟩|⟨kvs,hk⟩
    ·obtain⟨_,_,_,_,o,_,_,e,ex,_⟩:=I.iK p _ hk
     exact⟨o,e,ex⟩
    ·obtain⟨_,_,_,_,o,_,_,e,ex,_⟩:=I.iK p _ hk
     exact⟨o,e,ex⟩
   obtain⟨o,e,ex⟩:=z
   refine⟨⟨o,e,ex.1⟩,λa e2=>?_⟩
   cases e2
   exact⟨o,e,ex.2.1⟩
  ·obtain⟨o,_,_,_,e,ex,_⟩:=I.iK p _ hk
   refine⟨⟨o,e,ex.1⟩,λa e2=>?_⟩
   cases e2
   exact⟨o,e,ex.2.1⟩
 | _=>exact False.elim ty
def XG(K:Qqy)(T:String)(r:V->List V->Hp->VK->Prop)(to:TE):TE:=λZ H Q=>to Z H λx H1=>XF K T x H1/\r x [] H1 Q
def tBM(K:Qqy)(T:String)(r:V->List V->Hp->VK->Prop)(to:TE)(t:TA):TE:=λZ H Q=>to Z H λx H1=>XF K T x H1/\t Z H1 λxs H2=>r x xs H2 Q
variable{o e:Expr}{es:List Expr}{to:TE}{t:TA}{name:Str}{apos kW:Pos}{T id:String}{r:V->List V->Hp->VK->Prop}
theorem P6(pa:PlainAttrs T)(slot:Slot T name id)(Ux:typeOf (.builtin id)=pure (.type "method_descriptor"))(hm:XA X id r)(ho:PE X o to)
  (LL:attributeBase o name X.env (eval o X.env)=eval o X.env:=by rfl) (LM:(apos.endLine ==kW.line)=true:=by rfl):PE X (.Call (.Attribute o name apos) [] [] kW) (XG X.K T r to):=by
 intro c_ s Z H Q I h
 refine wpAny_Call_method0_late LL LM (i0 (ho c_ s Z H _ I h) λv s1 iH=>?_)
 obtain⟨x,H1,I1,r1,ty,q1⟩:=iH
 obtain⟨h1,h2⟩:=JU I1 r1 ty
 exact⟨T,id,pa,slot,Ux,h1,h2,abB rfl (PySem.evalArgs_none (hm c_ s1 Z H1 x [] v [] Q I1 r1 .nil q1))⟩
theorem pC(pa:PlainAttrs T)(slot:Slot T name id)(Ux:typeOf (.builtin id)=pure (.type "method_descriptor"))(hm:XA X id r)(ho:PE X o to)(ha:PA X (e::es) t)
  (LL:attributeBase o name X.env (eval o X.env)=eval o X.env:=by rfl)
  (Yr:((backTo kW (starEach (e::es) X.env)).all (λx=>!x.1)&&(backToKw kW (keywordEach [] X.env)).all (λx=>x.1.isSome)
   &&decide ((e::es).length+([]:List Keyword).length+(if([]:List Keyword).isEmpty then 0 else 1)<30))=true:=by rfl)
  (LM:(apos.endLine ==kW.line)=true:=by rfl) (hs:starEach (e::es) X.env=(false,eval e X.env)::starEach es X.env:=by rfl) (Rj:(backTo kW (starEach es X.env)).any (·.1)=false:=by rfl) :
  PE X (.Call (.Attribute o name apos) (e::es) [] kW) (tBM X.K T r to t):=by
 intro c_ s Z H Q I h
 refine wpAny_Call_method_late LL Yr LM rfl (i0 (ho c_ s Z H _ I h) λv s1 iH=>?_)
 obtain⟨x,H1,I1,r1,ty,q1⟩:=iH
 obtain⟨h1,h2⟩:=JU I1 r1 ty
 refine⟨T,id,pa,slot,Ux,h1,h2,?_⟩
 have hA:=ha kW c_ s1 Z H1 _ I1 q1
 rw[hs] at hA ⊢
 refine abB (by show(false||(backTo kW (starEach es X.env)).any (·.1))=false;rw[Rj]<;>rfl) (abL ?_)
 exact i0 hA λus s2 ⟨vs,H2,I2,r2,q2⟩=>hm c_ s2 Z H2 x vs v us Q I2 r1 r2 q2
end
def XH(X:Cx)(id:String)(r:V->List V->Hp->VK->Prop):Prop:=
 ∀(c_:Qqz)(s:Shared)(Z:St)(H:Hp)(x:V)(xs:List V)(v:Value)(us:List Value)(Q:VK),Inv X c_ Z H s->RelV x v->Vals xs us->r x xs H Q->
  wpAny (model X.prog X.w) X.A (call (.builtin id) (v::us)) (EP X c_ Z Q) X.xe s
theorem Vals.one:∀{x:V} {us:List Value},Vals [x] us->∃u,us=[u]/\RelV x u
 | _,_,.cons r .nil=>⟨_,rfl,r⟩
theorem Vals.zero:∀{us:List Value},Vals [] us->us=[]
 | _,.nil=>rfl
theorem Vals.dropLast{xs:List V}{us:List Value}(h:Vals xs us):Vals xs.dropLast us.dropLast:=by
 induction h with
 | nil=>exact .nil
 | cons r t ih=>
  cases t with
  | nil=>exact .nil
  | cons q t'=>exact .cons r ih
theorem Vals.rep{xs:List V}{us:List Value}(h:Vals xs us):∀k:Nat,Vals (List.replicate k xs).flatten (List.replicate k us).flatten
 | 0=>.nil
 | k+1=>by
  rw[abq,abq,acf,acf]
  exact Vals.append h (Vals.rep h k)
theorem Gj{Z:Type}(l:List Z):l.eraseIdx (l.length-1)=l.dropLast:=by
 induction l with
 | nil=>rfl
 | cons a r ih=>
  cases r with
  | nil=>rfl
  | cons b r=>
   have e:(a::b::r).length-1=((b::r).length-1)+1:=by
    have h1:(a::b::r).length=r.length+2:=rfl
    have h2:(b::r).length=r.length+1:=rfl
    omega
   rw[e,List.eraseIdx_cons_succ,ih]
   all_goals rfl
theorem foldl_rep(g_:List Value):∀(k:Nat)(acc:List Value),
  List.foldl (λx1 x2=>x1++x2) acc.toArray (List.replicate k g_.toArray)=(acc++(List.replicate k g_).flatten).toArray
 | 0,acc=>by simp
 | k+1,acc=>by
  have e:acc.toArray++g_.toArray=(acc++g_).toArray:=by simp
  have e2:(acc++g_)++(List.replicate k g_).flatten=acc++(List.replicate (k+1) g_).flatten:=by
   rw[abq,acf,aa5]
  rw[<-e2,<-foldl_rep g_ k (acc++g_),<-e,abq,List.foldl_cons]
section
variable{X:Cx}{c_:Qqz}{Z:St}{H:Hp}{s:Shared}{l b:Addr}{xs ys zs:List V}
theorem Inv.P7{g_ its':List Value}{n:Nat}{f:Array Value->Array Value}{t':Nat}(I:Inv X c_ Z H s)(hH:H l=some (.lst xs))
  (e:s.heap.get? l=some {cls:=.type "list",data:=.seq g_.toArray n}) (hf:f g_.toArray=its'.toArray) (hv:Vals ys its') (hz:ys.length<=sizeLine) :
  Inv X c_ Z (upd H l (.lst ys)) {s with heap:=s.heap.update l (Obj.mapSeq f),toks:=t'}:=by
 have q:=PySem.IsL.update e f
 rw[hf] at q
 refine I.write (x:=l) (e:=l) (by rw[hH];exact trivial) (.inl rfl) (λb' u hb hu=>(ab8 s.heap (Obj.mapSeq f) (ab1 hb)).trans hu) ⟨_,q⟩ ?_
 exact⟨hz,its',_,hv,q⟩
theorem Inv.ML{g_:List Value}{t':Nat}(I:Inv X c_ Z H s)(hv:Vals ys g_)(hz:ys.length<=sizeLine) :
  Inv X c_ Z (upd H s.heap.objs.size (.lst ys)) {s with heap:=s.heap.push {cls:=.type "list",data:=.seq g_.toArray},toks:=t'}:=
 I.laid (λ_ _ q=>aaC _ q) (XW _) ⟨hz,g_,0,hv,aaO _ rfl⟩
theorem Inv.fresh(I:Inv X c_ Z H s):H s.heap.objs.size=none:=I.iK.fresh (XW _)
theorem Inv.Gk(I:Inv X c_ Z H s)(hH:H l=some (.lst xs)):xs.length<=sizeLine/\∃(g_:List Value)(n:Nat),Vals xs g_/\xs.length=g_.length/\s.heap.get? l=some {cls:=.type "list",data:=.seq g_.toArray n}:=by
 obtain⟨z,g_,n,r,e⟩:=I.iK l _ hH
 exact⟨z,g_,n,r,r.length,e⟩
theorem Ep{n:Nat}(h:n<=sizeLine):Builtin.List.listTooLong n=false:=by
 unfold Builtin.List.listTooLong
 exact aaq (by omega)
end
section
variable{X:Cx}
inductive MM(x:V)(vs:List V)(H:Hp)(Q:VK):Prop
 | mk (l xs y) (_:x=.ref l) (_:vs=[y]) (_:H l=some (.lst xs)) (_:xs.length<sizeLine) (_:Q .jb (upd H l (.lst (xs++[y]))))
theorem kl:XH X "list.append" MM:=by
 intro c_ s Z H x vs v us Q I rx rv h
 obtain⟨l,xs,y,rfl,rfl,hH,hz,q⟩:=h
 cases rx
 obtain⟨u,rfl,ru⟩:=rv.one
 obtain⟨z,g_,n,r,hl,e⟩:=I.Gk hH
 refine call_meets F.slot_list_append ⟨_,e,rfl⟩ F.entry_list_append (F.args_list_append_2 _ _) (PySem.list_append l g_.toArray n u (by rw[aaA];omega)) ⟨e,?_⟩
 refine⟨.jb,_,I.P7 (its':=g_++[u]) hH e (by simp) (r.append (.cons ru .nil)) ?_,rfl,q⟩
 rw[YO,List.length_singleton]
 omega
def MN:V->List V->Hp->VK->Prop:=λx vs H Q=>∃l b xs zs,x=.ref l/\vs=[.ref b]/\H l=some (.lst xs)/\H b=some (.lst zs)/\xs.length+zs.length<=sizeLine/\Q .jb (upd H l (.lst (xs++zs)))
theorem BJ:XH X "list.extend" MN:=by
 intro c_ s Z H x vs v us Q I rx rv h
 obtain⟨l,b,xs,zs,rfl,rfl,hH,hB,hz,q⟩:=h
 cases rx
 obtain⟨u,rfl,ru⟩:=rv.one
 cases ru
 obtain⟨z,g_,n,r,hl,e⟩:=I.Gk hH
 obtain⟨z2,l5,n2,r2,FR,e2⟩:=I.Gk hB
 have hsz:g_.toArray.size+l5.toArray.size<=sizeLine:=by rw[aaA,aaA];omega
 have LO:¬(!g_.toArray.isEmpty&&Builtin.List.listTooLong (g_.toArray.size+l5.toArray.size))=true:=by
  rw[Ep hsz,Bool.and_false]
  exact aax
 refine call_meets F.slot_list_extend ⟨_,e,rfl⟩ F.entry_list_extend (F.args_list_extend_2 _ _)
  (AutoSeq1.list_extend_list_list_0 l g_.toArray n b l5.toArray n2 LO (by rw[aaA];omega) (by omega)) ⟨e,e2,?_⟩
 refine⟨.jb,_,I.P7 (its':=g_++l5) hH e (by simp) (r.append r2) ?_,rfl,q⟩
 rw[YO]
 omega
def XI:V->List V->Hp->VK->Prop:=λx vs H Q=>∃l xs y,x=.ref l/\vs=[]/\H l=some (.lst xs)/\xs[xs.length-1]?=some y/\Q y (upd H l (.lst xs.dropLast))
theorem P8:XH X "list.pop" XI:=by
 intro c_ s Z H x vs v us Q I rx rv h
 obtain⟨l,xs,y,rfl,rfl,hH,hy,q⟩:=h
 cases rx
 have hus:=rv.zero
 subst hus
 obtain⟨z,g_,n,r,hl,e⟩:=I.Gk hH
 obtain⟨u,hu,ru⟩:=r.get hy
 have Wq:g_.toArray[g_.toArray.size-1]?=some u:=by
  show g_.toArray[g_.length-1]?=some u
  rw[<-abr,<-hl]
  exact hu
 refine call_meets F.slot_list_pop ⟨_,e,rfl⟩ F.entry_list_pop (F.args_list_pop_1 _) (MeetsSeq.list_pop_last l g_.toArray n u Wq (by rw[aaA];omega)) ⟨e,?_⟩
 refine⟨y,_,I.P7 (its':=g_.dropLast) hH e ?_ r.dropLast ?_,ru,q⟩
 ·show g_.toArray.eraseIdxIfInBounds (g_.toArray.size-1)=g_.dropLast.toArray
  rw[aaA,List.eraseIdxIfInBounds_toArray,Gj]
 ·rw[List.length_dropLast]
  omega
inductive XJ(x:V)(y:V)(H:Hp)(Q:VK):Prop
 | mk (l b xs zs) (_:x=.ref l) (_:y=.ref b) (_:H l=some (.lst xs)) (_:H b=some (.lst zs)) (_:xs.length+zs.length<=sizeLine) (_:∀p,H p=none->Q (.ref p) (upd H p (.lst (xs++zs))))
theorem mQ:xO X (binaryOp .Add) XJ:=by
 intro c_ s Z H x y v u Q I rx ry h
 obtain⟨l,b,xs,zs,rfl,rfl,hH,hB,hz,q⟩:=h
 cases rx
 cases ry
 obtain⟨z,g_,n,r,hl,e⟩:=I.Gk hH
 obtain⟨z2,l5,n2,r2,FR,e2⟩:=I.Gk hB
 refine PySem.P.add_list e e2 ?_ (by rw[aaA,aaA];omega)
 have ea:g_.toArray++l5.toArray=(g_++l5).toArray:=by simp
 rw[ea]
 exact⟨.ref _,_,I.ML (t':=s.toks) (r.append r2) (by rw[YO];omega),rfl,q _ I.fresh⟩
def XM:R2:=λx y H Q=>∃l k xs,x=.ref l/\y=.int k/\H l=some (.lst xs)/\-(2 ^ 63)<=k/\k<2 ^ 63/\xs.length*k.toNat<=sizeLine/\
 ∀p,H p=none->Q (.ref p) (upd H p (.lst (List.replicate k.toNat xs).flatten))
theorem len_rep{Z:Type}(xs:List Z)(k:Nat):(List.replicate k xs).flatten.length=k*xs.length:=by
 induction k with
 | zero=>simp
 | succ k ih=>rw[abq,acf,YO,ih,Nat.succ_mul,Nat.add_comm]
theorem Gm:xO X (binaryOp .Mult) XM:=by
 intro c_ s Z H x y v u Q I rx ry h
 obtain⟨l,k,xs,rfl,rfl,hH,h1,h2,hz,q⟩:=h
 cases rx
 obtain⟨t,rfl⟩:=ry
 obtain⟨z,g_,n,r,hl,e⟩:=I.Gk hH
 have hlen:g_.toArray.size*k.toNat<=sizeLine:=by rw[aaA,<-hl];exact hz
 have Ys:¬g_.toArray.size*k.toNat>(2 ^ 63-1)/8:=by
  have:(sizeLine:Nat)<=(2 ^ 63-1)/8:=by decide
  omega
 have Yt:¬(!Builtin.List.listFitsIndex k)=true:=by
  rw[fitsIndex_both h1 h2]
  exact aax
 have LO:¬Builtin.List.listTooLong (g_.toArray.size*k.toNat)=true:=by
  rw[Ep hlen]
  exact aax
 have Yu:List.foldl (λx1 x2=>x1++x2) #[] (List.replicate (if g_.toArray.isEmpty=true then 0 else k.toNat) g_.toArray)=(List.replicate k.toNat g_).flatten.toArray:=by
  have f0:∀m:Nat,List.foldl (λx1 x2=>x1++x2) #[] (List.replicate m g_.toArray)=(List.replicate m g_).flatten.toArray:=λm=>by
   have:=foldl_rep g_ m []
   rw[List.nil_append] at this
   exact this
  rw[f0]
  cases g_ with
  | nil=>simp
  | cons a r'=>rw[aaw (by simp)]
 refine wpAny_binaryOp_repeat_ref (T:="list") (U:="int") (by decide) ⟨_,e,rfl⟩ (λs'=>typeIs_int s' k t) noFill_list_mul F.fills_int_mul F.slot_int_rmul repeat_list F.slot_int_index.lookup
  (call_meets F.slot_int_rmul (typeIs_int s k t) F.entry_int_rmul (F.args_int_rmul_2 _ _) (int___rmul___int_list k t l g_.toArray n)
   ⟨e,rfl,⟨_,e,rfl⟩,call_meets F.slot_list_mul ⟨_,e,rfl⟩ F.entry_list_mul (F.args_list_mul_2 _ _) (AutoListH.list___mul___list_int_3 l g_.toArray n k t Yt Ys LO) ⟨e,?_⟩⟩)
 rw[Yu]
 exact⟨.ref _,_,I.ML (t':=s.toks) (r.rep k.toNat) (by rw[len_rep,Nat.mul_comm];exact hz),rfl,q _ I.fresh⟩
end
section
variable{prog:Program}{w:World}{A:Around}{E:Qqq}{s:Shared}
end
section
variable{X:Cx}
end
section
variable{Z:Type}[DecidableEq Z]
def iN(kvs:List (Z×V))(k:Z):Option V:=(kvs.find? λkv=>decide (kv.1=k)).map (·.2)
def putK(kvs:List (Z×V))(k:Z)(v:V):List (Z×V):=
 if(kvs.any λkv=>decide (kv.1=k))=true then kvs.map (λkv=>if kv.1=k then(kv.1,v) else kv) else kvs++[(k,v)]
def jU(kvs:List (Z×V))(k:Z):List (Z×V):=kvs.filter λkv=>decide (kv.1≠k)
theorem jh{p:Z×V}{r:List (Z×V)}{k:Z}(e:p.1=k):iN (p::r) k=some p.2:=by simp[iN,acu,e]
theorem i_{p:Z×V}{r:List (Z×V)}{k:Z}(e:¬p.1=k):iN (p::r) k=iN r k:=by simp[iN,acu,e]
theorem rH(k:Z):∀kvs:List (Z×V),(kvs.any λkv=>decide (kv.1=k))=(iN kvs k).isSome
 | []=>rfl
 | p::r=>by
  rw[acB]
  by_cases e:p.1=k
  ·simp only [jh e,X0 e,Bool.true_or,Option.isSome_some]
  ·rw[i_ e,aaq e,Bool.false_or];exact rH k r
theorem Er(k j:Z)(y:V):∀kvs:List (Z×V),iN (kvs.map λkv=>if kv.1=k then(kv.1,y) else kv) j=(iN kvs j).map λx=>if j=k then y else x
 | []=>rfl
 | p::r=>by
  have ih:=Er k j y r
  rw[aaL]
  by_cases h:p.1=k
  ·rw[aay h]
   by_cases e:p.1=j
   ·rw[jh (p:=(p.1,y)) e,jh e,ab6,aay (e.symm.trans h)]
   ·rw[i_ (p:=(p.1,y)) e,i_ e,ih]
  ·rw[aaw h]
   by_cases e:p.1=j
   ·rw[jh (p:=p) e,jh e,ab6,aaw (λz=>h (e.trans z))]
   ·rw[i_ (p:=p) e,i_ e,ih]
theorem BK(k j:Z)(y:V):∀kvs:List (Z×V),iN kvs k=none->iN (kvs++[(k,y)]) j=if j=k then some y else iN kvs j
 | [],_=>by
  by_cases e:k=j
  ·rw[aay e.symm];exact jh (p:=(k,y)) e
  ·rw[aaw (λz=>e z.symm)];exact i_ (p:=(k,y)) e
 | p::r,hn=>by
  rw[List.cons_append]
  have hk:¬p.1=k:=λz=>by rw[jh z] at hn;cases hn
  rw[i_ hk] at hn
  have ih:=BK k j y r hn
  by_cases e:p.1=j
  ·rw[jh e,jh e,aaw (λz=>hk (e.trans z))]
  ·rw[i_ e,i_ e,ih]
theorem kc(kvs:List (Z×V))(k j:Z)(y:V):iN (putK kvs k y) j=if j=k then some y else iN kvs j:=by
 unfold putK
 by_cases a:(kvs.any λkv=>decide (kv.1=k))=true
 ·rw[aay a,Er]
  rw[rH] at a
  by_cases e:j=k
  ·obtain⟨x,hx⟩:=Option.isSome_iff_exists.mp a
   rw[aay e,e,hx,ab6,aay rfl]
  ·rw[aaw e]
   cases iN kvs j with
   | none=>rfl
   | some x=>rw[ab6,aaw e]
 ·rw[aaw a]
  refine BK k j y kvs ?_
  rw[rH] at a
  cases q:iN kvs k with
  | none=>rfl
  | some x=>rw[q] at a;exact(a rfl).elim
theorem jq(kvs:List (Z×V))(k:Z)(v:V):(putK kvs k v).length<=kvs.length+1:=by
 unfold putK
 split
 ·rw[O7];omega
 ·rw[YO,aai,List.length_nil];omega
theorem Es{kvs:List (Z×V)}{k:Z}(v:V)(h:iN kvs k=none):putK kvs k v=kvs++[(k,v)]:=by
 unfold putK
 rw[rH,h]
 exact aaw (by decide)
theorem pz.pE{o:Option V}{u:Option Value}(r:pz o u):o.isSome=u.isSome:=by
 cases o with
 | none=>cases u with
  | none=>rfl
  | some _=>exact(show False from r).elim
 | some _=>cases u with
  | none=>exact(show False from r).elim
  | some _=>rfl
theorem pz.getD{o:Option V}{u:Option Value}{d:V}{d':Value}(r:pz o u)(rd:RelV d d'):RelV (o.getD d) (u.getD d'):=by
 cases o with
 | none=>cases u with
  | none=>exact rd
  | some _=>exact(show False from r).elim
 | some _=>cases u with
  | none=>exact(show False from r).elim
  | some _=>exact r
theorem KV.val{kvs:List (Z×V)}{vs:List (Z×Value)}(r:KV kvs vs)(k:Z):pz (iN kvs k) (valueAt vs k):=by
 unfold KV at r
 induction r with
 | nil=>exact True.intro
 | @cons p q ps qs h t ih=>
  obtain⟨h1,h2⟩:=h
  by_cases e:p.1=k
  ·have e':q.1=k:=h1.symm.trans e
   have b:valueAt (q::qs) k=some q.2:=by simp[valueAt,acu,e']
   rw[jh e,b];exact h2
  ·have e':¬q.1=k:=λz=>e (h1.trans z)
   have b:valueAt (q::qs) k=valueAt qs k:=by simp[valueAt,acu,e']
   rw[i_ e,b];exact ih
theorem KV.any{kvs:List (Z×V)}{vs:List (Z×Value)}(r:KV kvs vs)(k:Z):(kvs.any λkv=>decide (kv.1=k))=vs.any λkv=>decide (kv.1=k):=by
 unfold KV at r
 induction r with
 | nil=>rfl
 | cons h t ih=>rw[acB,acB,ih,h.1]
theorem KV.P9{kvs:List (Z×V)}{vs:List (Z×Value)}(r:KV kvs vs)(k:Z){y:V}{u:Value}(ry:RelV y u) :
  KV (kvs.map λkv=>if kv.1=k then(kv.1,y) else kv) (vs.map λkv=>if kv.1=k then(kv.1,u) else kv):=by
 unfold KV at r ⊢
 induction r with
 | nil=>exact .nil
 | @cons p q ps qs h t ih=>
  rw[aaL,aaL]
  refine .cons ?_ ih
  obtain⟨h1,h2⟩:=h
  by_cases e:p.1=k
  ·rw[aay e,aay (h1.symm.trans e)];exact⟨h1,ry⟩
  ·rw[aaw e,aaw (λz=>e (h1.trans z))];exact⟨h1,h2⟩
theorem KV.put{kvs:List (Z×V)}{vs:List (Z×Value)}(r:KV kvs vs)(k:Z){y:V}{u:Value}(ry:RelV y u):KV (putK kvs k y) (stored vs k u):=by
 unfold putK stored
 rw[r.any k]
 by_cases e:(vs.any λkv=>decide (kv.1=k))=true
 ·rw[aay e,aay e];exact r.P9 k ry
 ·rw[aaw e,aaw e];exact Paired.snoc r ⟨rfl,ry⟩
theorem KV.drop{kvs:List (Z×V)}{vs:List (Z×Value)}(r:KV kvs vs)(k:Z):KV (jU kvs k) (without vs k):=by
 unfold KV at r ⊢
 unfold jU without
 induction r with
 | nil=>exact .nil
 | @cons p q ps qs h t ih=>
  obtain⟨h1,h2⟩:=h
  rw[ab_,ab_]
  by_cases e:p.1=k
  ·have a:¬decide (p.1≠k)=true:=by simp[e]
   have b:¬decide (q.1≠k)=true:=by simp[h1.symm.trans e]
   rw[aaw a,aaw b];exact ih
  ·have e':¬q.1=k:=λz=>e (h1.trans z)
   have a:decide (p.1≠k)=true:=by simp[e]
   have b:decide (q.1≠k)=true:=by simp[e']
   rw[aay a,aay b];exact .cons ⟨h1,h2⟩ ih
theorem KV.length{kvs:List (Z×V)}{vs:List (Z×Value)}(r:KV kvs vs):kvs.length=vs.length:=aav r
theorem Et(kvs:List (Z×V))(k:Z):(jU kvs k).length<=kvs.length:=aaY _ _
end
theorem zA{P:Program}{w:World}{k:Key}{u:Value}(r:RelV (kV k) u):(jc P w).is k u=true:=by
 cases k with
 | inl i=>obtain⟨t,e⟩:=(show ∃t,u=Value.int i t from r);subst e;exact D6 P w i t
 | inr x=>obtain⟨t,e⟩:=(show ∃t,u=Value.str x t from r);subst e;exact D7 P w x t
theorem BL{P:Program}{w:World}:∀{ks:List Key} {us:List Value},Vals (ks.map kV) us->ItemsAre (jc P w) ks us
 | [],_,r=>by rw[List.map_nil] at r;cases r;exact .nil
 | k::ks,_,r=>by
  rw[aaL] at r
  cases r with
  | cons h t=>exact .cons (zA h) (BL t)
abbrev KT(H:Hp):List (List Key×V)->List (List Key×Addr×Value)->Prop:=Paired λp q=>p.1=q.1/\H q.2.1=some (.tup (p.1.map kV))/\RelV p.2 q.2.2
theorem KT.val{H:Hp}{kvs:List (List Key×V)}{xs:List (List Key×Addr×Value)}(r:KT H kvs xs)(k:List Key):pz (iN kvs k) ((atKey xs k).map (·.2)):=by
 induction r with
 | nil=>exact True.intro
 | @cons p q ps qs h t ih=>
  obtain⟨h1,_,h2⟩:=h
  by_cases e:p.1=k
  ·have e':q.1=k:=h1.symm.trans e
   have b:atKey (q::qs) k=some q.2:=by simp[atKey,acu,e']
   rw[jh e,b];exact h2
  ·have e':¬q.1=k:=λz=>e (h1.trans z)
   have b:atKey (q::qs) k=atKey qs k:=by simp[atKey,acu,e']
   rw[i_ e,b];exact ih
theorem KT.P9{H:Hp}{kvs:List (List Key×V)}{xs:List (List Key×Addr×Value)}(r:KT H kvs xs)(k:List Key){y:V}{u:Value}(ry:RelV y u) :
  KT H (kvs.map λkv=>if kv.1=k then(kv.1,y) else kv) (xs.map (putAt k u)):=by
 induction r with
 | nil=>exact .nil
 | @cons p q ps qs h t ih=>
  rw[aaL,aaL]
  refine .cons ?_ ih
  obtain⟨h1,h2,h3⟩:=h
  unfold putAt
  by_cases e:p.1=k
  ·rw[aay e,aay (h1.symm.trans e)];exact⟨h1,h2,ry⟩
  ·rw[aaw e,aaw (λz=>e (h1.trans z))];exact⟨h1,h2,h3⟩
theorem KT.put{H:Hp}{kvs:List (List Key×V)}{xs:List (List Key×Addr×Value)}(r:KT H kvs xs)(k:List Key){b:Addr}{y:V}{u:Value}(hb:H b=some (.tup (k.map kV)))(ry:RelV y u) :
  KT H (putK kvs k y) (storedH xs k b u):=by
 have e:(kvs.any λkv=>decide (kv.1=k))=(atKey xs k).isSome:=by
  rw[rH,(r.val k).pE,Option.isSome_map]
 unfold putK storedH
 rw[e]
 by_cases q:(atKey xs k).isSome=true
 ·rw[aay q,aay q];exact r.P9 k ry
 ·rw[aaw q,aaw q];exact Paired.snoc r ⟨rfl,hb,ry⟩
theorem KT.keeps{H H':Hp}{kvs:List (List Key×V)}{xs:List (List Key×Addr×Value)}(r:KT H kvs xs)(ht:∀b ys,H b=some (.tup ys)->H' b=some (.tup ys)):KT H' kvs xs:=
 Paired.i3 r λ_ _ z=>⟨z.1,ht _ _ z.2.1,z.2.2⟩
section
variable{P:Program}{w:World}{H:Hp}{h:Heap}{a:Addr}
theorem OB{u:HO}(ok:rA P w H h)(e:Rd H a u):iZ P w H h a u:=e.ok ok
theorem xS{kvs:List (Key×V)}(ok:rA P w H h)(e:Rd H a (.dK kvs)):kvs.length<=sizeLine/\(a ==sysModules)=false/\∃vs,KV kvs vs/\h.DictOf (jc P w) a vs:=
 show iZ P w H h a (.dK kvs) from OB ok e
theorem JV{kvs:List (Key×V)}(ok:rA P w H h)(e:H a=some (.dK kvs)):kvs.length<=sizeLine/\(a ==sysModules)=false/\∃vs,KV kvs vs/\h.DictOf (jc P w) a vs:=xS ok (.inl e)
theorem uo{ks:List Key}(ok:rA P w H h)(e:H a=some (.tup (ks.map kV))):(tupleKind (jc P w)).is h ks a:=by
 obtain⟨_,g_,r,o,h1,h2,n,h3⟩:=(show iZ P w H h a (.tup (ks.map kV)) from ok a _ e)
 exact⟨o,g_.toArray,n,h1,h2,h3,by simpa using BL r⟩
theorem xT{kvs:List (List Key×V)}(ok:rA P w H h)(e:Rd H a (.dT kvs)):kvs.length<=sizeLine/\(a ==sysModules)=false/\
  ∃xs,KT H kvs xs/\h.DictOfH (tupleKind (jc P w)) a xs:=by
 obtain⟨z,y,xs,r,o,es,ep,h1,h2,h3,h4,h5⟩:=(show iZ P w H h a (.dT kvs) from OB ok e)
 refine⟨z,y,xs,r,o,es,ep,h1,h2,h3,h4,λx hx=>?_,h5⟩
 have all:∀{l:List (List Key×V)} {m:List (List Key×Addr×Value)},KT H l m->∀x∈m,(tupleKind (jc P w)).is h x.1 x.2.1:=by
  intro l m q
  induction q with
  | nil=>intro x hx;exact nomatch hx
  | @cons p q ps qs hq t ih=>
   intro x hx
   rcases aah.mp hx with e|hx
   ·subst e
    exact uo ok (by rw[<-hq.1];exact hq.2.1)
   ·exact ih x hx
 exact all r x hx
theorem JW{kvs:List (List Key×V)}(ok:rA P w H h)(e:H a=some (.dT kvs)):kvs.length<=sizeLine/\(a ==sysModules)=false/\
 ∃xs,KT H kvs xs/\h.DictOfH (tupleKind (jc P w)) a xs:=xT ok (.inl e)
end
def i5(H:Hp)(a:Addr)(y:V)(r:Option V):Prop:=
 (∃kvs k,Rd H a (.dK kvs)/\y=kV k/\r=iN kvs k)\/∃kvs k b,Rd H a (.dT kvs)/\y=.ref b/\H b=some (.tup (k.map kV))/\r=iN kvs k
def nF(H:Hp)(a:Addr)(y v:V)(H':Hp):Prop:=
 (∃kvs k,H a=some (.dK kvs)/\y=kV k/\kvs.length<sizeLine/\H'=upd H a (.dK (putK kvs k v)))\/
 ∃kvs k b,H a=some (.dT kvs)/\y=.ref b/\H b=some (.tup (k.map kV))/\kvs.length<sizeLine/\H'=upd H a (.dT (putK kvs k v))
theorem i5.k{H:Hp}{a:Addr}{kvs:List (Key×V)}{k:Key}(e:H a=some (.dK kvs)):i5 H a (kV k) (iN kvs k):=.inl ⟨kvs,k,.inl e,rfl,rfl⟩
theorem i5.t{H:Hp}{a b:Addr}{kvs:List (List Key×V)}{k:List Key}(e:H a=some (.dT kvs))(eb:H b=some (.tup (k.map kV))):i5 H a (.ref b) (iN kvs k):=.inr ⟨kvs,k,b,.inl e,rfl,eb,rfl⟩
theorem nF.k{H:Hp}{a:Addr}{kvs:List (Key×V)}{k:Key}{v:V}(e:H a=some (.dK kvs))(hl:kvs.length<sizeLine):nF H a (kV k) v (upd H a (.dK (putK kvs k v))):=.inl ⟨kvs,k,e,rfl,hl,rfl⟩
theorem nF.t{H:Hp}{a b:Addr}{kvs:List (List Key×V)}{k:List Key}{v:V}(e:H a=some (.dT kvs))(eb:H b=some (.tup (k.map kV)))(hl:kvs.length<sizeLine) :
 nF H a (.ref b) v (upd H a (.dT (putK kvs k v))):=.inr ⟨kvs,k,b,e,rfl,eb,hl,rfl⟩
section
variable{X:Cx}{c_:Qqz}{Z:St}{H:Hp}{s:Shared}{a:Addr}{y v:V}{u r:Value}{o:Option V}{A:Around}{E:Qqq}
theorem Inv.big(I:Inv X c_ Z H s):sysModules<s.heap.objs.size:=by
 have h:mainGlobals<s.heap.objs.size:=(I.mod.glob.keeps I.bk).lt
 exact Nat.lt_trans (by decide) h
theorem Iu{Q:Qqq}(hu:A.units+1<cLine)(I:Inv X c_ Z H s)(g:i5 H a y (some v))(ry:RelV y u)(h:∀w' s',Inv X c_ Z H s'->RelV v w'->Q w' s') :
  wpAny (model X.prog X.w) A (getItem (.ref a) u) Q E s:=by
 rcases g with⟨kvs,k,e,ey,l⟩|⟨kvs,k,b,e,ey,eb,l⟩
 ·subst ey
  obtain⟨z,hd,vs,rel,dd⟩:=xS I.iK e
  obtain⟨w',hw,By⟩:=pz.some_of (v:=v) (o:=valueAt vs k) (by rw[l];exact rel.val k)
  exact wpAny_getItem_of (zA ry) dd.mapOf hw (h w' _ (I.tok _) By)
 ·subst ey
  cases (show u=Value.ref b from ry)
  obtain⟨z,hd,xs,rel,dd⟩:=xT I.iK e
  obtain⟨w',hw,By⟩:=pz.some_of (v:=v) (o:=(atKey xs k).map (·.2)) (by rw[l];exact rel.val k)
  obtain⟨p,hp,A8⟩:=Option.map_eq_some_iff.mp hw
  refine wpAny_getItem_heap (abY hu) (uo I.iK eb) dd hp ?_
  rw[A8]
  exact h w' _ (I.tok _) By
theorem XN{Q:Qqq}(hu:A.units+1<cLine)(I:Inv X c_ Z H s)(g:i5 H a y o)(ry:RelV y u)(h:∀s',Inv X c_ Z H s'->Q (.bool o.isSome) s') :
  wpAny (model X.prog X.w) A (compareOp .In u (.ref a)) Q E s:=by
 rcases g with⟨kvs,k,e,ey,l⟩|⟨kvs,k,b,e,ey,eb,l⟩
 ·subst ey
  obtain⟨z,hd,vs,rel,dd⟩:=xS I.iK e
  refine wpAny_in_of (zA ry) hd dd.mapOf ?_
  rw[<-(rel.val k).pE,<-l]
  exact h _ (I.tok _)
 ·subst ey
  cases (show u=Value.ref b from ry)
  obtain⟨z,hd,xs,rel,dd⟩:=xT I.iK e
  refine wpAny_in_heap (abY hu) (uo I.iK eb) hd dd ?_
  have q:=(rel.val k).pE
  rw[Option.isSome_map] at q
  rw[<-q,<-l]
  exact h _ (I.tok _)
theorem MO{Q:Qqq}(hu:A.units+1<cLine)(I:Inv X c_ Z H s)(g:i5 H a y o)(ry:RelV y u)(h:∀s',Inv X c_ Z H s'->Q (.bool (!o.isSome)) s') :
  wpAny (model X.prog X.w) A (compareOp .NotIn u (.ref a)) Q E s:=by
 rcases g with⟨kvs,k,e,ey,l⟩|⟨kvs,k,b,e,ey,eb,l⟩
 ·subst ey
  obtain⟨z,hd,vs,rel,dd⟩:=xS I.iK e
  refine wpAny_notIn_of (zA ry) hd dd.mapOf ?_
  rw[<-(rel.val k).pE,<-l]
  exact h _ (I.tok _)
 ·subst ey
  cases (show u=Value.ref b from ry)
  obtain⟨z,hd,xs,rel,dd⟩:=xT I.iK e
  refine wpAny_notIn_heap (abY hu) (uo I.iK eb) hd dd ?_
  have q:=(rel.val k).pE
  rw[Option.isSome_map] at q
  rw[<-q,<-l]
  exact h _ (I.tok _)
theorem tj{h':Heap}{t':Nat}{ob:HO}(I:Inv X c_ Z H s)(mu:Ou (H a))(hs:Heap.SameBut a s.heap h')(he:∃q,h'.get? a=some q)(new:iZ X.prog X.w (upd H a ob) h' a ob) :
  Inv X c_ Z (upd H a ob) {s with heap:=h',toks:=t'}:=
 I.write (x:=a) (e:=a) mu (.inl rfl) (λb q hb z=>(hs.2 b hb).trans z) he new
theorem Gn{P:Program}{w:World}{H':Hp}{h':Heap}{kvs:List (Key×V)}{vs:List (Key×Value)}(z:kvs.length<=sizeLine)(hd:(a ==sysModules)=false)(rel:KV kvs vs)(dd:h'.DictOf (jc P w) a vs) :
 iZ P w H' h' a (.dK kvs):=⟨z,hd,vs,rel,dd⟩
theorem Iv{H':Hp}{Q:Unit->Shared->Prop}(hu:A.units+1<cLine)(I:Inv X c_ Z H s)(g:nF H a y v H')(ry:RelV y u)(rv:RelV v r)(h:∀s',Inv X c_ Z H' s'->Q () s') :
  wpAny (model X.prog X.w) A (setItem (.ref a) u r) Q E s:=by
 rcases g with⟨kvs,k,e,ey,l,eH⟩|⟨kvs,k,b,e,ey,eb,l,eH⟩
 ·subst ey eH
  obtain⟨z,hd,vs,rel,dd⟩:=JV I.iK e
  have hz:vs.length<=sizeLine:=by rw[<-rel.length];exact z
  have hl:(putK kvs k v).length<=sizeLine:=by have:=jq kvs k v;omega
  refine wpAny_setItem_pairs (hsz:=hz) (zA ry) dd λh' Mr hs=>h _ ?_
  have he:∃q,h'.get? a=some q:=let ⟨q,_,_,hq,_⟩:=Mr;⟨q,hq⟩
  exact tj I (by rw[e];exact True.intro) hs he (Gn hl hd (rel.put k rv) Mr)
 ·subst ey eH
  cases (show u=Value.ref b from ry)
  obtain⟨z,hd,xs,rel,dd⟩:=JW I.iK e
  have hz:xs.length<=sizeLine:=by rw[<-aav rel];exact z
  have hl:(putK kvs k v).length<=sizeLine:=by have:=jq kvs k v;omega
  refine wpAny_setItem_heap (hsz:=hz) (abY hu) (uo I.iK eb) dd λh' Mr hs=>h _ ?_
  obtain⟨q,es,ep,hq,h2,h3,h4,_,h5⟩:=Mr
  refine tj I (by rw[e];exact True.intro) hs ⟨q,hq⟩ ⟨hl,hd,_,(rel.put k eb rv).keeps λc ys ec=>?_,q,es,ep,hq,h2,h3,h4,h5⟩
  rw[d_ (iR ec e (λz=>nomatch z))]
  exact ec
end
section
variable{X:Cx}{c_:Qqz}{Z:St}{H:Hp}{s:Shared}{a:Addr}{kvs:List (Key×V)}{k:Key}{u:Value}{A:Around}{E:Qqq}
theorem Tt{v:V}{more:List Value}{Q:Qqq}(I:Inv X c_ Z H s)(e:H a=some (.dK kvs))(ry:RelV (kV k) u)(l:iN kvs k=some v)(hm:more=[]\/∃x,more=[x])
  (h:∀w' s',Inv X c_ Z (upd H a (.dK (jU kvs k))) s'->RelV v w'->Q w' s'):wpAny (model X.prog X.w) A (call (.builtin "dict.pop") (.ref a::u::more)) Q E s:=by
 obtain⟨z,hd,vs,rel,dd⟩:=JV I.iK e
 obtain⟨w',hw,By⟩:=pz.some_of (v:=v) (o:=valueAt vs k) (by rw[<-l];exact rel.val k)
 have hp:(keyPart u).isSome=true:=by
  cases k with
  | inl i=>obtain⟨t,q⟩:=(show ∃t,u=Value.int i t from ry);subst q;rfl
  | inr x=>obtain⟨t,q⟩:=(show ∃t,u=Value.str x t from ry);subst q;rfl
 have ha:argsOk "dict.pop" ⟨.ref a::u::more,[]⟩:=by
  rcases hm with q|⟨x,q⟩
  ·subst q;exact PySem.F.args_dict_pop_2 _ _
  ·subst q;exact PySem.F.args_dict_pop_3 _ _ _
 refine call_meetsIn acv dd.typeIs PySem.F.entry_dict_pop ha (meets_dict_pop_there (jc X.prog X.w) a (zA ry) more hm hp)
  ⟨vs,w',dd,by rw[<-rel.length];exact z,hw,λh' Mr hs=>h w' _ ?_ By⟩
 have he:∃q,h'.get? a=some q:=let ⟨q,_,_,hq,_⟩:=Mr;⟨q,hq⟩
 exact tj I (by rw[e];exact True.intro) hs he (Gn (aan (Et kvs k) z) hd (rel.drop k) Mr)
end
def P_(i:Expr):Prop:=∀ov iv,subscripted i false ov iv=operate [ov,iv] (getItem ov iv)
theorem MP{prog:Program}{w:World}{A:Around}{E:Qqq}{s:Shared}{env:Env}{value slice:Expr}{pos:Pos}{T id:String}{Q:Qqq}
  (hl:typeLookup (.type T) "__getitem__"=pure (some (.builtin id))) (hs:P_ slice)
  (h:wpAny (model prog w) A (eval value env) (λo s1=>wpAny (model prog w) A (eval slice env) (λi s2=>s2.TypeIs o T/\wpAny (model prog w) A (getItem o i) Q E s2) E s1) E s) :
  wpAny (model prog w) A (eval (.Subscript value slice pos) env) Q E s:=by
 refine Subscript_ (abK h (λo s1 h1=>abK h1 (λi s2 h2=>?_) λ_ _ x=>x) λ_ _ x=>x)
 obtain⟨hT,h2⟩:=h2
 unfold subscriptTail
 refine UW ?_
 rw[getitemInPython_of_ne hT.not_modules]
 refine UW (acw hT hl ?_)
 have fin:wpAny (model prog w) A (subscripted slice false o i) (λr s3=>wpAny (model prog w) A (letTemporaryGo value o r >>= λ_=>pure r) Q E s3) E s2:=by
  rw[hs o i]
  exact wpAny_operating (abK h2 (λr s3 h3=>UW (wpAny_letTemporaryGo (aaz h3))) λ_ _ x=>x)
 first
  | exact aaz (UW fin)
  | exact UW (aaz (UW fin))
  | exact UW fin
theorem Eu{X:Cx}{c_:Qqz}{Z:St}{H:Hp}{s:Shared}{a:Addr}{y:V}{o:Option V}(I:Inv X c_ Z H s)(g:i5 H a y o):s.TypeIs (.ref a) "dict":=by
 rcases g with⟨kvs,k,e,_,_⟩|⟨kvs,k,b,e,_,_,_⟩
 ·obtain⟨_,_,vs,_,dd⟩:=xS I.iK e
  exact dd.typeIs
 ·obtain⟨_,_,xs,_,dd⟩:=xT I.iK e
  exact dd.typeIs
def OC(td ty:TE):TE:=λZ H Q=>td Z H λx H1=>ty Z H1 λy H2=>∃a v,x=.ref a/\i5 H2 a y (some v)/\Q v H2
def XO(ty td:TE):TE:=λZ H Q=>ty Z H λy H1=>td Z H1 λx H2=>∃a o,x=.ref a/\i5 H2 a y o/\Q (.bl o.isSome) H2
def MQ(ty td:TE):TE:=λZ H Q=>ty Z H λy H1=>td Z H1 λx H2=>∃a o,x=.ref a/\i5 H2 a y o/\Q (.bl (!o.isSome)) H2
def Tu(td ty tv:TE):TS:=λD Z H=>tv Z H λv H1=>td Z H1 λx H2=>ty Z H2 λy H3=>∃a H4,x=.ref a/\nF H3 a y v H4/\D.nx Z H4
section
variable{X:Cx}{o i e value:Expr}{pos pos' Ri:Pos}{td ty tv:TE}
theorem MR(hu:X.A.units+1<cLine)(ho:PE X o td)(hi:PE X i ty)(hs:P_ i):PE X (.Subscript o i pos) (OC td ty):=by
 intro c_ s Z H Q I h
 refine MP PySem.F.slot_dict_getitem.lookup hs (i0 (ho c_ s Z H _ I h) λu s1 iH=>?_)
 obtain⟨x,H1,I1,rx,q1⟩:=iH
 refine i0 (hi c_ s1 Z H1 _ I1 q1) λiv s2 Jp=>?_
 obtain⟨y,H2,I2,ry,a,v,ex,g,q2⟩:=Jp
 subst ex
 obtain rfl:u=Value.ref a:=rx
 exact⟨Eu I2 g,Iu hu I2 g ry λw' s3 I3 By=>⟨v,H2,I3,By,q2⟩⟩
theorem o4(hu:X.A.units+1<cLine)(hi:PE X i ty)(ho:PE X o td):PC X .In i o (XO ty td):=by
 intro c_ s Z H Q I h
 refine i0 (hi c_ s Z H _ I h) λiv s1 iH=>?_
 obtain⟨y,H1,I1,ry,q1⟩:=iH
 refine i0 (ho c_ s1 Z H1 _ I1 q1) λu s2 Jp=>?_
 obtain⟨x,H2,I2,rx,a,ov,ex,g,q2⟩:=Jp
 subst ex
 obtain rfl:u=Value.ref a:=rx
 exact XN hu I2 g ry λs3 I3=>⟨.bl ov.isSome,H2,I3,rfl,q2⟩
theorem lC(hu:X.A.units+1<cLine)(hi:PE X i ty)(ho:PE X o td):PC X .NotIn i o (MQ ty td):=by
 intro c_ s Z H Q I h
 refine i0 (hi c_ s Z H _ I h) λiv s1 iH=>?_
 obtain⟨y,H1,I1,ry,q1⟩:=iH
 refine i0 (ho c_ s1 Z H1 _ I1 q1) λu s2 Jp=>?_
 obtain⟨x,H2,I2,rx,a,ov,ex,g,q2⟩:=Jp
 subst ex
 obtain rfl:u=Value.ref a:=rx
 exact MO hu I2 g ry λs3 I3=>⟨.bl (!ov.isSome),H2,I3,rfl,q2⟩
theorem jA(hu:X.A.units+1<cLine)(ho:PE X o td)(hi:PE X i ty)(hv:PE X value tv)(hs:swapsWith value (some (.Subscript o i pos')) pos.line X.env=pure false) :
  PS X (.Assign [.Subscript o i pos'] value pos) (Tu td ty tv):=by
 intro c_ s Z H D I h
 refine wpAny_Assign_Subscript (i0 (hv c_ s Z H _ I h) λr s1 iH=>?_) hs
 obtain⟨v,H1,I1,rv,q1⟩:=iH
 refine i0 (ho c_ s1 Z H1 _ I1 q1) λu s2 Jp=>?_
 obtain⟨x,H2,I2,rx,q2⟩:=Jp
 refine i0 (hi c_ s2 Z H2 _ I2 q2) λiv s3 zz2=>?_
 obtain⟨y,H3,I3,ry,a,H4,ex,g,q3⟩:=zz2
 subst ex
 obtain rfl:u=Value.ref a:=rx
 exact Iv hu I3 g ry rv λs4 I4=>⟨Z,H4,I4,q3⟩
end
theorem JX{P:Program}{w:World}{H:Hp}(h:Heap)(hb:sysModules<h.objs.size):iZ P w H (h.push {cls:=.type "dict",data:=.dict #[]}) h.objs.size (.dK []):=
 ⟨aaZ _,ab5.mpr (ab1 (aa1 hb)),[],.nil,Heap.DictOf.new h⟩
theorem JY{P:Program}{w:World}{H:Hp}(h:Heap)(hb:sysModules<h.objs.size):iZ P w H (h.push {cls:=.type "dict",data:=.dict #[]}) h.objs.size (.dT []):=
 ⟨aaZ _,ab5.mpr (ab1 (aa1 hb)),[],.nil,_,#[],0,aaO _ rfl,⟨rfl,rfl,rfl⟩,rfl,rfl,abu⟩
def Qb:TE:=λ_ H Q=>∀p,H p=none->Q (.ref p) (upd H p (.dK []))
def Qc:TE:=λ_ H Q=>∀p,H p=none->Q (.ref p) (upd H p (.dT []))
section
variable{X:Cx}{pos:Pos}
theorem nM:PE X (.Dict [] [] pos) Qb:=λc_ s Z H Q I h=>
 wpAny_Dict_empty ⟨.ref s.heap.objs.size,_,I.laid (a:=s.heap.objs.size) (o:=.dK []) (t':=s.toks) (λ_ _ q=>aaC _ q) (XW _) (JX s.heap I.big),rfl,h _ (I.iK.fresh (XW _))⟩
theorem mE:PE X (.Dict [] [] pos) Qc:=λc_ s Z H Q I h=>
 wpAny_Dict_empty ⟨.ref s.heap.objs.size,_,I.laid (a:=s.heap.objs.size) (o:=.dT []) (t':=s.toks) (λ_ _ q=>aaC _ q) (XW _) (JY s.heap I.big),rfl,h _ (I.iK.fresh (XW _))⟩
end
structure M1(X:Cx)(o:Expr)(m:Str)(apos:Pos)(e:Expr)(kW:Pos):Prop where
 base:attributeBase o m X.env (eval o X.env)=eval o X.env
 jL:((backTo kW (starEach [e] X.env)).all (λx=>!x.1)&&(backToKw kW (keywordEach [] X.env)).all (λx=>x.1.isSome)
  &&decide (([e]:List Expr).length+([]:List Keyword).length+(if([]:List Keyword).isEmpty then 0 else 1)<30))=true
 line:(apos.endLine ==kW.line)=true
 trees:backTo kW (starEach [e] X.env)=[(false,eval e X.env)]
structure M2(X:Cx)(o:Expr)(m:Str)(apos:Pos)(e f:Expr)(kW:Pos):Prop where
 base:attributeBase o m X.env (eval o X.env)=eval o X.env
 jL:((backTo kW (starEach [e,f] X.env)).all (λx=>!x.1)&&(backToKw kW (keywordEach [] X.env)).all (λx=>x.1.isSome)
  &&decide (([e,f]:List Expr).length+([]:List Keyword).length+(if([]:List Keyword).isEmpty then 0 else 1)<30))=true
 line:(apos.endLine ==kW.line)=true
 trees:backTo kW (starEach [e,f] X.env)=[(false,eval e X.env),(false,eval f X.env)]
def R6(H:Hp)(a:Addr):Prop:=(∃kvs,Rd H a (.dK kvs))\/∃kvs,Rd H a (.dT kvs)
theorem zB{X:Cx}{c_:Qqz}{Z:St}{H:Hp}{s:Shared}{a:Addr}(I:Inv X c_ Z H s)(d:R6 H a) :
  s.TypeIs (.ref a) "dict"/\(∀b,Value.ref a=.ref b->∃ob,s.heap.get? b=some ob/\ob.dict=none)/\(a ==sysModules)=false:=by
 rcases d with⟨kvs,e⟩|⟨kvs,e⟩
 ·obtain⟨_,hd,vs,_,dd⟩:=xS I.iK e
  refine⟨dd.typeIs,λb q=>?_,hd⟩
  cases q
  obtain⟨ob,_,_,h1,h2,_⟩:=dd
  exact⟨ob,h1,h2.2.1⟩
 ·obtain⟨_,hd,xs,_,dd⟩:=xT I.iK e
  refine⟨dd.typeIs,λb q=>?_,hd⟩
  cases q
  obtain⟨ob,_,_,h1,h2,_⟩:=dd
  exact⟨ob,h1,h2.2.1⟩
section
variable{X:Cx}{c_:Qqz}{Z:St}{H:Hp}{s:Shared}{a:Addr}{y d:V}{u r:Value}{o:Option V}{A:Around}{E:Qqq}
theorem Qd{Q:Qqq}(hu:A.units+1<cLine)(I:Inv X c_ Z H s)(g:i5 H a y o)(ry:RelV y u)(rd:RelV d r)(h:∀w' s',Inv X c_ Z H s'->RelV (o.getD d) w'->Q w' s') :
  wpAny (model X.prog X.w) A (call (.builtin "dict.get") [.ref a,u,r]) Q E s:=by
 rcases g with⟨kvs,k,e,ey,l⟩|⟨kvs,k,b,e,ey,eb,l⟩
 ·subst ey
  obtain⟨z,hd,vs,rel,dd⟩:=xS I.iK e
  refine call_meetsIn PySem.F.slot_dict_get dd.typeIs PySem.F.entry_dict_get (PySem.F.args_dict_get_3 _ _ _) (meets_dict_get_default (jc X.prog X.w) a (zA ry) hd r) ⟨_,dd.mapOf,h _ _ (I.tok _) ?_⟩
  rw[l]
  exact(rel.val k).getD rd
 ·subst ey
  cases (show u=Value.ref b from ry)
  obtain⟨z,hd,xs,rel,dd⟩:=xT I.iK e
  refine call_meetsIn PySem.F.slot_dict_get dd.typeIs PySem.F.entry_dict_get (PySem.F.args_dict_get_3 _ _ _) (meetsH_dict_get_default (tupleKind (jc X.prog X.w)) a b hd r) ⟨abY hu,k,xs,uo I.iK eb,dd,h _ _ (I.tok _) ?_⟩
  rw[l]
  exact(rel.val k).getD rd
end
def Qe(td ty tx:TE):TE:=λZ H Q=>td Z H λx H1=>∃a,x=.ref a/\R6 H1 a/\ty Z H1 λy H2=>tx Z H2 λz H3=>∃o,i5 H3 a y o/\Q (o.getD z) H3
def Qf(td ty:TE):TE:=λZ H Q=>td Z H λx H1=>∃a,x=.ref a/\R6 H1 a/\ty Z H1 λy H2=>∃kvs k v,H2 a=some (.dK kvs)/\y=kV k/\iN kvs k=some v/\Q v (upd H2 a (.dK (jU kvs k)))
section
variable{X:Cx}{o e f:Expr}{apos kW:Pos}{td ty tx:TE}
theorem JZ(hu:X.A.units+1<cLine)(ho:PE X o td)(he:PE X e ty)(hf:PE X f tx)(m:M2 X o "get" apos e f kW):PE X (.Call (.Attribute o "get" apos) [e,f] [] kW) (Qe td ty tx):=by
 intro c_ s Z H Q I h
 refine wpAny_Call_method m.base m.jL m.line ab2 PySem.F.slot_dict_get PySem.F.type_dict_get (i0 (ho c_ s Z H _ I h) λu s1 iH=>?_)
 obtain⟨x,H1,I1,rx,a,ex,d,q1⟩:=iH
 subst ex
 obtain rfl:u=Value.ref a:=rx
 obtain⟨t1,t2,_⟩:=zB I1 d
 refine⟨t1,t2,?_⟩
 rw[m.trees]
 refine abB rfl (abL (aby (i0 (he c_ s1 Z H1 _ I1 q1) λiv s2 ⟨y,H2,I2,ry,q2⟩=>
  aby (i0 (hf c_ s2 Z H2 _ I2 q2) λfv s3 ⟨z,H3,I3,rz,ov,g,q3⟩=>abO ?_))))
 exact Qd hu I3 g ry rz λw' s4 I4 By=>⟨_,H3,I4,By,q3⟩
theorem J0(ho:PE X o td)(he:PE X e ty)(m:M1 X o "pop" apos e kW):PE X (.Call (.Attribute o "pop" apos) [e] [] kW) (Qf td ty):=by
 intro c_ s Z H Q I h
 refine wpAny_Call_method m.base m.jL m.line ab2 acv PySem.F.type_dict_pop (i0 (ho c_ s Z H _ I h) λu s1 iH=>?_)
 obtain⟨x,H1,I1,rx,a,ex,d,q1⟩:=iH
 subst ex
 obtain rfl:u=Value.ref a:=rx
 obtain⟨t1,t2,_⟩:=zB I1 d
 refine⟨t1,t2,?_⟩
 rw[m.trees]
 refine abB rfl (abL (aby (i0 (he c_ s1 Z H1 _ I1 q1) λiv s2 iH=>?_)))
 obtain⟨y,H2,I2,ry,kvs,k,v,ea,ey,l,q2⟩:=iH
 refine abO ?_
 subst ey
 exact Tt I2 ea ry l (.inl rfl) λw' s3 I3 By=>⟨v,_,I3,By,q2⟩
end
section
variable{X:Cx}{c_:Qqz}{Z:St}{H:Hp}{s:Shared}{a:Addr}{kvs:List (Key×V)}{A:Around}{E:Qqq}
end
section
variable{X:Cx}{c_:Qqz}{Z:St}{H:Hp}{s:Shared}{a:Addr}{y:V}{u:Value}{A:Around}{E:Qqq}
end
end L2
namespace Att
open PySem PySem.W PySem.Calls PyProof.Rows
theorem yO{P:Params}{h:Heap}:∀(ns:List Int)(vs:List Value),WellAll P h vs (ns.map WData.int)->IntsAre vs ns:=by
 intro ns
 induction ns with
 | nil=>
  intro vs w
  rw[List.map_nil] at w
  cases w
  exact .nil
 | cons n ns ih=>
  intro vs w
  rw[aaL] at w
  cases w with
  | cons a b=>
   cases a
   exact .cons _ _ (ih _ b)
theorem Iw{l:OpenLaw}{n:Nat}(hn:l.most=some n){P:Params}{h:Heap}{args:List WData}{vals:List Value}
  (Jr:l.row.toRowW.claim.pre args=true) (O0:WellAll P h vals args) :
  ∃a vs ns,vals=[Value.ref a]/\args=[WData.list (ns.map WData.int)]/\h.get? a=some {cls:=.type "list",data:=.seq vs.toArray}/\IntsAre vs ns/\ns.length<=n:=by
 have hsh:WShape.hasAll [] args [.list .int]=true:=(pre_splitW Jr).1
 have hc:l.pre.holds [] {args:=args}=true:=(pre_splitW Jr).2
 obtain⟨d,r,rfl,h1,h2⟩:=hasAllW_cons hsh
 obtain rfl:=hasAllW_nil h2
 obtain⟨xs,rfl,h3⟩:=hasW_list h1
 obtain⟨ns,rfl⟩:=items_int h3
 have hlen:ns.length<=n:=by
  unfold OpenLaw.pre at hc
  have h4:(WTm.not (.lt (.lit (.int (n:Int))) (.len (.arg 0)))).holds [] {args:=[.list (ns.map .int)]}=true:=by
   have h4:=(holds_andW hc).1
   rw[hn] at h4
   exact h4
  have h5:=condW_of h4 (w_not (w_lt w_lit (w_len_list (w_arg rfl))))
  rw[O7] at h5
  refine Nat.le_of_not_lt λq=>?_
  have q':(n:Int)<((ns.length:Nat):Int):=by omega
  first
   | (rw[X0 q'] at h5;exact absurd h5 (by decide))
   | (simp at h5;omega)
 cases O0 with
 | cons w1 w2=>
  cases w2
  cases w1 with
  | list ho wq=>exact⟨_,_,ns,rfl,rfl,ho,yO ns _ wq,hlen⟩
theorem Iy(l:OpenLaw)(args:List WData):l.row.toRowW.claim.post args (.bool true) args=true:=
 postW_of (r:=l.row.toRowW) (X:=(true ==true))
  (show WShape.has [] (.bool true) .bool=true by first|rfl|decide|simp[WShape.has,WShape.arms,WShape.armsAll])
  (show(WTm.eq .res (.lit (.bool true))).value [] {args:=args,res:=some (.bool true),after:=args}=some (.bool (true ==true)) from w_eq_bool (w_res rfl) w_lit) rfl
theorem Ew{l:OpenLaw}{n:Nat}{q:Program}{loose:List Str}{XP:(Qqx)->Heap->Prop}{YP:World->Heap->Prop}{d:DefRec}
  (hn:l.most=some n) (Uy:d.params.defaults=[])
  (call:∀(w:World)(s₀ s1:Shared)(mg mb:Qqx)(fa:Addr)(o:Obj)(pm cd doc:Value)(a:Addr)(vs:List Value)(ns:List Int),
   Ground q loose [] XP w s₀ mg mb s1.heap->YP w s1.heap->
   s1.heap.get? fa=some o->o.data=.func (docDef d.name d.params d.body d.scope pm cd doc)->s1.heap.CodeRec cd d.name->mg d.name=some (.ref fa)->
   s1.heap.get? a=some {cls:=.type "list",data:=.seq vs.toArray}->IntsAre vs ns->ns.length<=n->s1.gens=#[]->
   codeAny (model l.prog w) callerA (.call (.ref fa) ⟨[.ref a],[]⟩) (λr s'=>r=.ok (.ret (.bool true))/\OldK s1.heap s'.heap/\s'.os=s1.os/\AllBare s'.gens) s1) :
  WalkO q loose XP YP l.row.toRowW d [] (λf vs=>PySem.call f vs):=by
 intro w s₀ s1 mg mb G Y fa o pm cd doc dV kV ho hd Co hD Uz hg args vals as Jr hlay hrd O0 O1
 obtain rfl:dV=.none:=Dflts.none hD Uy
 obtain rfl:kV=.none:=Dflts.noKw hD
 obtain⟨a,vs,ns,rfl,rfl,Rl,hints,hlen⟩:=Iw hn Jr O0
 refine enter_call (codeAny_mono (call w s₀ s1 mg mb fa o pm cd doc a vs ns G Y ho (fd_plain hd) Co Uz Rl hints hlen hg) λr s' hq=>?_)
 obtain⟨rfl,h2,h3,h4⟩:=hq
 exact⟨.inl ⟨.bool true,.bool true,[],rfl,λ_=>rfl,.bool true,Iy l _,λ_=>⟨List.Pairwise.nil,λ_ hm=>(nomatch hm)⟩⟩,h2,h3,h4⟩
section
variable{prog:Program}{w:World}{A:Around}{E:Qqq}{s:Shared}{K:Frag}
def ledger(h:Heap)(L d:Addr):Qqz:=(List.range h.objs.size).filterMap λa=>if a=L\/a=d then none else(h.get? a).map λo=>(a,o)
end
end Att
namespace L2
open PySem PySem.Spec PyProof.Rows
theorem BM:∀{vs:List Value} {ns:List Int},IntsAre vs ns->Vals (ns.map V.int) vs
 | _,_,.nil=>.nil
 | _,_,.cons n t h=>.cons ⟨t,rfl⟩ (BM h)
def Qg(H:Hp):Prop:=∀b,H b=none\/∃o xs,H b=some (.nj o (.lst xs))
theorem J2{P:Program}{w:World}{K:Qqy}{mg mb:Qqx}{CX:Hm}{k:Nat}{fa a:Addr}{fd:FuncData}{x:Str}{sp:Sp}{s1:Shared}{vs:List Value}{ns:List Int}
  (KX:K.In s1.heap) (hns:s1.heap.Ns mainGlobals mg) (hb:s1.heap.Ns builtinsNs mb) (LP:∀x:Str,x≠"__name__"->mb x=bootBuiltins x) (Yv:s1.heap.NoLimit) (hg:s1.gens=#[])
  (ha:s1.heap.get? a=some {cls:=.type "list",data:=.seq vs.toArray}) (hi:IntsAre vs ns) (hl:ns.length<=sizeLine) (hr:kC k callerA)
  (F:∀base:Heap,K.In base->base.Ns mainGlobals mg->ie P w K mg base CX k fa fd [x] sp) (UA:∀(s:Shared)(u:Value),BindsTo s fd ⟨[u],[]⟩ [(x,u)])
  (Mq:∀H:Hp,Qg H->gN K H a (ns.map V.int)->sp [.ref a] H (λv _=>v=.bl true) λ_ _ _=>False)
  (Yw:∀H e s',CX [] H s1 (λ_ _ _=>False) e s'->False) :
  codeAny (model P w) callerA (.call (.ref fa) ⟨[.ref a],[]⟩) (λr s'=>r=.ok (.ret (.bool true))/\OldK s1.heap s'.heap/\s'.os=s1.os/\AllBare s'.gens) s1:=by
 have rv:=BM hi
 have Yx:=hi.length
 have core:∀H:Hp,Qg H->gN K H a (ns.map V.int)->rA P w H s1.heap->(∀b,H b≠none->b=a)->(H a≠none->K.lookup a=none)->
   codeAny (model P w) callerA (.call (.ref fa) ⟨[.ref a],[]⟩) (λr s'=>r=.ok (.ret (.bool true))/\OldK s1.heap s'.heap/\s'.os=s1.os/\AllBare s'.gens) s1:=by
  intro H hO hS iK hA hK
  have HX:∀{b:Addr} {o:Obj},s1.heap.get? b=some o->H b=none->(Cr s1.heap H).get? b=some o:=λe n=>JF e n
  have OZ:∀{b:Addr} {o:Obj} {es:Array DictEntry} {ep:Nat},s1.heap.get? b=some o->o.data=.dict es ep->H b=none:=λ{b o es ep} e d=>by
   cases q:H b with
   | none=>rfl
   | some u=>
    have e':b=a:=hA b (by rw[q];simp)
    subst e'
    rw[ha] at e;cases e
    have d':Data.seq vs.toArray _=Data.dict es ep:=d
    cases d'
  have Wr:∀{b:Addr} {m:Qqx},s1.heap.Ns b m->(Cr s1.heap H).Ns b m:=λ{b m} ⟨o,es,ep,e,d,r⟩=>⟨o,es,ep,HX e (OZ e d),d,r⟩
  have hKb:K.In (Cr s1.heap H):=λb o e=>HX (KX b o e) (by
   cases q:H b with
   | none=>rfl
   | some u=>
    have e':b=a:=hA b (by rw[q];simp)
    subst e'
    rw[hK (by rw[q];simp)] at e;cases e)
  have hM:Mod K mg (Cr s1.heap H):=⟨hKb,Wr hns,⟨mb,Wr hb,LP⟩,let ⟨mc,h1,h2⟩:=Yv;⟨mc,Wr h1,h2⟩⟩
  have e0:Ge P w K mg (Cr s1.heap H) callerA [] s1 H:=⟨rfl,hM,λb o e=>MA e,Nat.le_of_eq (Ih _ _),trivial,λb hb=>absurd (show b∈([]:List Addr) from hb) (by simp),iK,.of_eq hg⟩
  refine codeAny_mono ((F _ hKb (Wr hns)).run callerA [] s1 H ⟨[.ref a],[]⟩ [.ref a] [.ref a] _ _ hr e0 (UA s1 (.ref a)) (.cons rfl .nil) (Mq H hO hS)) λr s' h=>?_
  cases r with
  | error e=>exact(Yw H e s' h).elim
  | ok fl=>
   cases fl with
   | next=>exact False.elim h
   | brk=>exact False.elim h
   | cont=>exact False.elim h
   | ret u=>
    obtain⟨v,H',os,bare,un,Yy,r',q⟩:=h
    have q':v=.bl true:=q
    subst q'
    obtain rfl:u=Value.bool true:=r'
    refine⟨rfl,OldK.of_keep λb o e=>?_,os,bare⟩
    cases q:H b with
    | none=>exact un.keep b o e q (by intro z;exact absurd (show b∈([]:List Addr) from z) (by simp)) (by simp)
    | some u=>
     rcases hO b with z|⟨ob,xs,z⟩
     ·rw[q] at z;cases z
     ·have z2:=un.uR b ob _ z
      obtain⟨e1,_⟩:=iK b _ z
      obtain⟨e2,_⟩:=Yy b _ z2
      rw[e] at e1;cases e1
      exact e2
 cases hk:K.lookup a with
 | some o=>
  have e:=KX a o hk
  rw[ha] at e
  cases e
  refine core (λ_=>none) (λ_=>.inl rfl) (.inr ⟨_,vs.toArray,_,hk,rfl,rfl,rfl,by rw[aaA,Yx];exact hl,by simpa using rv⟩) (λb u z=>by have z':(none:Option HO)=some u:=z;cases z') (λb z=>absurd rfl z) λz=>absurd rfl z
 | none=>
  refine core (λb=>if b=a then some (.nj {cls:=.type "list",data:=.seq vs.toArray} (.lst (ns.map V.int))) else none) (λb=>?_) (.inl (.inr ⟨{cls:=.type "list",data:=.seq vs.toArray},aay rfl⟩)) (λb u z=>?_) (λb z=>?_) λ_=>hk
  ·by_cases hb:b=a
   ·exact .inr ⟨_,_,aay hb⟩
   ·exact .inl (aaw hb)
  ·by_cases hb:b=a
   ·have z':=(aay hb).symm.trans z
    cases z'
    subst hb
    exact⟨ha,by rw[O7];exact hl,vs,_,rv,ha⟩
   ·have z':=(aaw hb).symm.trans z
    cases z'
  ·by_cases hb:b=a
   ·exact hb
   ·exact absurd (aaw hb) z
theorem MS{l:W.OpenLaw}{n k:Nat}{q:Program}{loose:List Str}{XP:(Qqx)->Heap->Prop}{YP:World->Heap->Prop}{d:DefRec}{K:Params->Qqy}{CX:World->Hm}{sp:World->Sp}{x:Str}
  (hn:l.most=some n) (Rh:n<=sizeLine) (Uy:d.params.defaults=[]) (hr:kC k callerA)
  (hY:∀(w:World)(h:Heap),YP w h->(K w.params).In h)
  (F:∀(w:World)(mg:Qqx)(fa:Addr)(h:Heap),(K w.params).In h->h.Ns mainGlobals mg->mg d.name=some (.ref fa)->
   ∃fd:FuncData,(∀(s:Shared)(u:Value),BindsTo s fd ⟨[u],[]⟩ [(x,u)])/\
    ∀base:Heap,(K w.params).In base->base.Ns mainGlobals mg->ie l.prog w (K w.params) mg base (CX w) k fa fd [x] (sp w))
  (Mq:∀(w:World)(H:Hp)(a:Addr)(ns:List Int),ns.length<=n->Qg H->gN (K w.params) H a (ns.map V.int)->sp w [.ref a] H (λv _=>v=.bl true) λ_ _ _=>False)
  (Yw:∀(w:World)(H:Hp)(s:Shared)(e:Value)(s':Shared),CX w [] H s (λ_ _ _=>False) e s'->False) :
  W.WalkO q loose XP YP l.row.toRowW d [] (λf vs=>PySem.call f vs):=by
 refine Att.Ew hn Uy λw s₀ s1 mg mb fa o pm cd doc a vs ns G Y ho hd Co Uz Rl hints hlen hg=>?_
 have KX:=hY w _ Y
 obtain⟨fd,hb,hF⟩:=F w mg fa _ KX G.T.g Uz
 exact J2 KX G.T.g G.T.b G.T.builtins G.T.nolimit hg Rl hints (aan hlen Rh) hr hF hb (λH hO hS=>Mq w H a ns hlen hO hS) λH e s'=>Yw w H s1 e s'
def inClass(s:Stmt)(j:Nat):Stmt:=match s with
 | .ClassDef _ _ _ body _ _ _ _ _ _ _=>body.getD j (.Pass ⟨0,0,0,0⟩)
 | _=>.Pass ⟨0,0,0,0⟩
def oC(s:Stmt):Arguments:=match s with
 | .FunctionDef _ a _ _ _ _ _ _ _ _=>a
 | _=>{posonlyargs:=[],args:=[],vararg:=none,kwonlyargs:=[],kw_defaults:=[],kwarg:=none,defaults:=[]}
def k_(s:Stmt):List Stmt:=match s with
 | .FunctionDef _ _ b _ _ _ _ _ _ _=>b
 | _=>[]
def gp(s:Stmt):Scope:=match s with
 | .FunctionDef _ _ _ _ _ _ sc _ _ _=>sc
 | _=>{kind:=.function,names:=[],isGenerator:=false,isCoroutine:=false}
abbrev mL:Hm:=λ_ _ _ _ _ _=>False
abbrev E0:XK:=λ_ _ _=>False
theorem pF{X:Cx}:Passes mL X E0:=λ_ _ _ _ _ _ _ h=>h.elim
structure xU(K:Qqy)(x qual:Str)(st:Stmt)(f:Addr)(fd:FuncData):Prop where
 ex:∃(oc:Value)(od:Option Addr)(kV doc pm:Value)(an:Option Addr)(jt ct:Value)(JB:Array (Option Value)),
  fd=W.fnOf x qual (oC st) (k_ st) (gp st) .none kV doc pm an jt ct/\K.lookup f=some ⟨oc,od,.func fd,JB⟩/\W.codeIn K jt qual=true
 kp:W.keepIn K (.ref f)=true
section
variable{P:Program}{w:World}{K:Qqy}{mg:Qqx}{base:Heap}
theorem xU.ok{x qual:Str}{st:Stmt}{f:Addr}{fd:FuncData}{N ps:List Str}{k:Nat}{sp:Sp}(F:xU K x qual st f fd)(S:gH N ps (gp st))(len:∀vs H Q E,sp vs H Q E->vs.length=ps.length)
  (wo:∀(jt:Value)(A:Around)(outer:List Env)(s:Shared)(H:Hp)(vs:List V)(Q:VK)(E:XK),kC k (A.deeper (envOfC qual (gp st) s.heap.objs.size f jt))->sp vs H Q E->
   ∃t,FO (wG mL P w K mg base N qual (gp st) f jt A outer s H E).S7 (k_ st) t/\t {nx:=λ_ H'=>Q .jb H',rt:=Q} (start N vs) H):ie P w K mg base mL (k+1) f fd ps sp:=by
 obtain⟨oc,od,kV,doc,pm,an,jt,ct,JB,rfl,lk,Co⟩:=F.ex
 refine OA lk Co S len λA outer s H vs Q E hr Mq=>?_
 obtain⟨t,h,q⟩:=wo jt A outer s H vs Q E hr Mq
 exact⟨t,h.S7,q⟩
theorem xU.binds{x qual:Str}{st:Stmt}{f:Addr}{fd:FuncData}{ps:List Str}(F:xU K x qual st f fd)
  (h:∀(kV doc pm:Value)(an:Option Addr)(jt ct:Value)(us:List Value),us.length=ps.length->bindArgs (W.fnOf x qual (oC st) (k_ st) (gp st) .none kV doc pm an jt ct) ⟨us,[]⟩=pure (ps.zip us)):Binds K fd ps []:=by
 obtain⟨oc,od,kV,doc,pm,an,jt,ct,JB,rfl,lk,Co⟩:=F.ex
 exact .all (h kV doc pm an jt ct)
theorem J3{x qual:Str}{st:Stmt}{f:Addr}{oc:Value}{od an:Option Addr}{JB:Array (Option Value)}{kV doc pm jt ct:Value}(l:K.lookup f=some ⟨oc,od,.func (W.fnOf x qual (oC st) (k_ st) (gp st) .none kV doc pm an jt ct),JB⟩)
 (c:W.codeIn K jt qual=true) (k:W.keepIn K (.ref f)=true):xU K x qual st f (W.fnOf x qual (oC st) (k_ st) (gp st) .none kV doc pm an jt ct):=⟨⟨oc,od,kV,doc,pm,an,jt,ct,JB,rfl,l,c⟩,k⟩
end
theorem iS{A:Around}{k:Nat}(hr:kC k A):A.units+1<cLine:=abz (Nat.add_le_add_left (by decide:1<=64) _) hr.units
section
variable{X:Cx}
theorem pv(i:Nat){x:Str}{pos:Pos}(hN:X.N[i]?=some x:=by rfl)(hv:Xh X.env.scope x:=by first|exact Or.inl rfl|exact Or.inr (Or.inl rfl)|exact Or.inr (Or.inr rfl))(hd:(x ==("__debug__":Str))=false:=by decide)
 (Co:(x ==("__classdict__":Str))=false:=by decide):PE X (.Name x pos) (S3 i):=PH hN hv hd Co
end
theorem jf{A B:Prop}(h:B):if false=true then A else B:=by
 rw[aaw aax]
 exact h
theorem lL{A B:Prop}(h:A):if true=true then A else B:=by
 rw[aay rfl]
 exact h
theorem kY{c A B:Prop}[Decidable c](h1:c->A)(h2:¬c->B):if c then A else B:=by
 by_cases h:c
 ·rw[aay h]
  exact h1 h
 ·rw[aaw h]
  exact h2 h
def gv(H H':Hp):Prop:=∀b o,H b=some o->H' b=some o
theorem gv.refl(H:Hp):gv H H:=λ_ _ h=>h
theorem gv.trans{H H1 H2:Hp}(a:gv H H1)(b:gv H1 H2):gv H H2:=λc o h=>b c o (a c o h)
theorem gv.free{H H':Hp}(e:gv H H'){l:Addr}(h:H' l=Option.none):H l=Option.none:=by
 cases q:H l with
 | none=>rfl
 | some o=>
  rw[e l o q] at h
  cases h
section
variable{Z:Type}[DecidableEq Z]
theorem wI{p:Z×V}{r:List (Z×V)}{k:Z}(e:p.1=k):jU (p::r) k=jU r k:=by
 unfold jU
 rw[ab_,aaw (by simp[e])]
theorem wJ{p:Z×V}{r:List (Z×V)}{k:Z}(e:¬p.1=k):jU (p::r) k=p::jU r k:=by
 unfold jU
 rw[ab_,aay (by simp[e])]
end
section
variable{prog:Program}{w:World}{A:Around}{R:Result->Shared->Prop}{s:Shared}
abbrev MT:Qqq:=λ_ _=>False
theorem CC{elt target iter:Expr}{ifs:List Expr}{scope:Scope}{pos:Pos}{it acc:Value}{env:Env}(I:Nat->Shared->Prop)
  (turn:∀n s,I n s->wpAny (model prog w) A (pyNext it) (λr s1=>match r with
   | none=>R (.ok .next) s1
   | some v=>wpAny (model prog w) A (letOwnedTupleGo target it v) (λ_ s1'=>wpAny (model prog w) A (assign target env v) (λ_ s2=>
    wpAny (model prog w) A (forIn ifs true λc r=>if r=true then do let ok <-isTrue c env (eval c env);pure (ForInStep.yield ok) else pure (ForInStep.yield r)) (λok s3=>
     if ok=true then wpAny (model prog w) A (eval elt env) (λx s4=>wpAny (model prog w) A (call (.builtin "list.append") [acc,x]) (λ_ s5=>∃m,m<n/\I m s5) MT s4) MT s3
     else ∃m,m<n/\I m s3) MT s2) MT s1') MT s1) MT s)
  (n:Nat) (h:I n s):codeAny (model prog w) A (.compLoop (.ListComp elt [⟨target,iter,ifs,0⟩] scope pos) 0 it acc env) R s:=by
 refine codeAny_loop rfl I (λn s hI=>?_) n h
 show wpAny _ A ((compTurn (.ListComp elt [⟨target,iter,ifs,0⟩] scope pos) 0 it acc env).onRaise (λx=>do noteFrame x env;theTreesLotGoes x)) _ _ s
 refine wpAny_noted ?_
 rw[compTurn_list]
 refine UW (wpAny_standAt (UW (abK (turn n s hI) (λr s1 h1=>?_) λ_ _ h'=>h'.elim)))
 cases r with
 | none=>exact aaz h1
 | some v=>
  refine UW (abK h1 (λ_ s1' N0=>?_) λ_ _ h'=>h'.elim)
  refine UW (abK N0 (λ_ s2 h2=>UW (abK h2 (λok s3 h3=>?_) λ_ _ h'=>h'.elim)) λ_ _ h'=>h'.elim)
  cases ok with
  | false=>exact aaz ⟨rfl,h3⟩
  | true=>
   exact UW (UW (abK h3 (λx s4 h4=>UW (abK h4 (λ_ s5 h5=>aaz (aaz ⟨rfl,h5⟩)) λ_ _ h'=>h'.elim)) λ_ _ h'=>h'.elim))
end
noncomputable def jv(cells:List (Str×Addr)):List (Str×NameKind)->List (Str×Addr)->List (Str×Addr)
 | [],cs=>cs
 | (n,k)::r,cs=>jv cells r (if k ==.free then(n,(cells.lookup n).getD 0)::cs else cs)
theorem BN{cells:List (Str×Addr)}:∀{names:List (Str×NameKind)} {cs:List (Str×Addr)} {x:Str} {c:Addr},(∀y∈names,y.2=.free->∃c,cells.lookup y.1=some c)->
  (jv cells names cs).lookup x=some c->cs.lookup x=some c\/cells.lookup x=some c
 | [],_,_,_,_,h=>.inl h
 | (n,k)::r,cs,x,c,hf,h=>by
  rcases BN (λy hy=>hf y (aam _ hy)) (show(jv cells r (if k ==.free then(n,(cells.lookup n).getD 0)::cs else cs)).lookup x=some c from h) with q|q
  ·by_cases hk:(k ==NameKind.free)=true
   ·rw[aay hk] at q
    by_cases hx:(x ==n)=true
    ·rw[acm,hx] at q
     obtain⟨c',e⟩:=hf (n,k) aaD (eq_of_beq hk)
     have e:cells.lookup n=some c':=e
     rw[e] at q
     have q:some c'=some c:=q
     rw[eq_of_beq hx,e,q]
     exact .inr rfl
    ·rw[acm,ab3.mpr hx] at q
     exact .inl q
   ·rw[aaw hk] at q
    exact .inl q
  ·exact .inr q
theorem zC{cells:List (Str×Addr)}:∀{names:List (Str×NameKind)} {cs:List (Str×Addr)} {x:Str},(∃c,cs.lookup x=some c)->∃c,(jv cells names cs).lookup x=some c
 | [],_,_,h=>h
 | (n,k)::r,cs,x,h=>by
  refine zC (names:=r) ?_
  by_cases hk:(k ==NameKind.free)=true
  ·rw[aay hk,acm]
   cases x ==n with
   | true=>exact⟨_,rfl⟩
   | false=>exact h
  ·rw[aaw hk];exact h
theorem wK{cells:List (Str×Addr)}:∀{names:List (Str×NameKind)} {cs:List (Str×Addr)} {x:Str},(x,NameKind.free)∈names->∃c,(jv cells names cs).lookup x=some c
 | [],_,_,h=>nomatch h
 | (n,k)::r,cs,x,h=>by
  rcases aah.mp h with e|h2
  ·cases e
   refine zC (names:=r) ⟨(cells.lookup n).getD 0,?_⟩
   rw[aay (by rfl),acm,beq_self_eq_true]
  ·exact wK (names:=r) h2
theorem tS{scope:Scope}{env:Env}(hf:∀y∈scope.names,y.2=.free->∃c,env.cells.lookup y.1=some c):closureFor scope env=pure (jv env.cells scope.names []):=by
 have key:∀(names:List (Str×NameKind))(cs:List (Str×Addr)),(∀y∈names,y.2=.free->∃c,env.cells.lookup y.1=some c)->
   (forIn names cs λ(x:Str×NameKind) (r:List (Str×Addr))=>(match x with
    | (name,kind)=>if(kind ==NameKind.free)=true then(do let a <-cellOf env name;pure (ForInStep.yield ((name,a)::r))) else pure (ForInStep.yield r):Sem (ForInStep (List (Str×Addr)))))=(pure (jv env.cells names cs):Sem (List (Str×Addr))):=by
  intro names
  induction names with
  | nil=>intro cs _;rfl
  | cons y r ih=>
   intro cs h
   obtain⟨n,k⟩:=y
   rw[List.forIn_cons]
   by_cases hk:(k ==NameKind.free)=true
   ·obtain⟨c,e⟩:=h (n,k) aaD (eq_of_beq hk)
    have e:env.cells.lookup n=some c:=e
    have ec:cellOf env n=pure c:=by unfold cellOf;rw[e]
    simp only [hk,if_true,ec,pure_bind]
    rw[ih _ λy hy=>h y (aam _ hy)]
    simp only [jv,hk,if_true,e,Option.getD_some]
   ·simp only [hk,acd,pure_bind,aa_]
    rw[ih _ λy hy=>h y (aam _ hy)]
    simp only [jv,hk,acd,aa_]
 have q:=key scope.names [] hf
 simp only [closureFor]
 first
  | (rw[q];rfl)
  | (simp only [q,pure_bind])
  | exact(abe (λt=>t >>= pure) q).trans (pure_bind _ _)
theorem q8{f:Str->NameKind->NameKind}:∀{names:List (Str×NameKind)} {x:Str},(names.map λy=>(y.1,f y.1 y.2)).lookup x=(names.lookup x).map (f x)
 | [],_=>rfl
 | (n,k)::r,x=>by
  show List.lookup x ((n,f n k)::_)=_
  rw[acm,acm]
  cases h:x ==n with
  | true=>rw[eq_of_beq h];rfl
  | false=>exact q8 (names:=r)
theorem lM{scope:Scope}{env:Env}{x:Str}:(relabel scope env).names.lookup x=(scope.names.lookup x).map λk=>if(k ==.free&&env.scope.kind ==.function&&env.kindOf x ==some .cell)=true then .cell else k:=by
 have e:(relabel scope env).names=scope.names.map λy=>(y.1,(λ(n:Str) (k:NameKind)=>if(k ==.free&&env.scope.kind ==.function&&env.kindOf n ==some .cell)=true then NameKind.cell else k) y.1 y.2):=by
  show(scope.names.map _)=_
  refine ab7 λy _=>?_
  obtain⟨n,k⟩:=y
  show(if(k ==.free&&env.scope.kind ==.function&&env.kindOf n ==some .cell)=true then(n,NameKind.cell) else(n,k))=(n,if(k ==.free&&env.scope.kind ==.function&&env.kindOf n ==some .cell)=true then NameKind.cell else k)
  split<;>rfl
 rw[e]
 exact q8 (f:=λ(n:Str) (k:NameKind)=>if(k ==.free&&env.scope.kind ==.function&&env.kindOf n ==some .cell)=true then NameKind.cell else k)
def blank:List Nat->St->St
 | [],Z=>Z
 | i::r,Z=>blank r (Z.set i none)
theorem BO:∀{is:List Nat} {Z:St},(blank is Z).length=Z.length
 | [],_=>rfl
 | i::r,Z=>by
  show(blank r (Z.set i none)).length=_
  rw[BO,acs]
theorem CD{Z:St}{i j:Nat}{v:V}(h:(Z.set i none)[j]?=some (some v)):Z[j]?=some (some v)/\j≠i:=by
 by_cases e:j=i
 ·subst e
  by_cases hl:j<Z.length
  ·rw[abA hl] at h;cases h
  ·rw[List.getElem?_eq_none_iff.mpr (by rw[acs];omega)] at h;cases h
 ·rw[abJ (ab1 e)] at h
  exact⟨h,e⟩
theorem BP:∀{is:List Nat} {Z:St} {j:Nat} {v:V},(blank is Z)[j]?=some (some v)->Z[j]?=some (some v)/\j∉is
 | [],_,_,_,h=>⟨h,by simp⟩
 | i::r,Z,j,v,h=>by
  obtain⟨h1,h2⟩:=BP (is:=r) (Z:=Z.set i none) h
  obtain⟨h3,h4⟩:=CD h1
  exact⟨h3,λm=>(aah.mp m).elim h4 h2⟩
def Iz(N:List Str)(out:List (Str×NameKind))(is:List Nat)(names:List (Str×NameKind)):Bool:=
 (names.all λy=>y.2 != .cell&&(y.2 != .free||out.lookup y.1 ==some .cell||out.lookup y.1 ==some .free)&&(y.2 != .local||names.lookup y.1 ==some .local))&&
 (N.zipIdx.all λp=>names.lookup p.1 != some .local||is.contains p.2)
structure CF(N:List Str)(out:List (Str×NameKind))(is:List Nat)(names:List (Str×NameKind)):Prop where
 Gp:∀y∈names,y.2≠.cell
 free:∀y∈names,y.2=.free->out.lookup y.1=some .cell\/out.lookup y.1=some .free
 loc:∀y∈names,y.2=.local->names.lookup y.1=some .local
 own:∀(i:Nat)(x:Str),N[i]?=some x->names.lookup x=some .local->i∈is
theorem CF.of{N:List Str}{out:List (Str×NameKind)}{is:List Nat}{names:List (Str×NameKind)}(h:Iz N out is names=true):CF N out is names:=by
 unfold Iz at h
 rw[abn] at h
 obtain⟨h1,h2⟩:=h
 have a:=abD.mp h1
 have b:=abD.mp h2
 refine⟨λy hy e=>?_,λy hy e=>?_,λy hy e=>?_,λi x hi e=>?_⟩
 ·have q:=a y hy
  rw[e] at q
  simp at q
 ·have q:=a y hy
  simp only [e,abn,acJ,acC,aa_,false_or,acp] at q
  rcases q.1.2 with z|z
  ·exact .inl z
  ·exact .inr z
 ·have q:=a y hy
  simp only [e,abn,acJ,acC,aa_,false_or,acp] at q
  exact q.2
 ·have hm:(x,i)∈N.zipIdx:=by
   rw[aaU]
   exact⟨i,by rw[List.getElem?_zipIdx,hi];simp⟩
  have q:=b (x,i) hm
  simp only [e,acJ,acC,aa_,false_or] at q
  exact List.contains_iff_mem.mp q
noncomputable def Cx.block(X:Cx)(scope:Scope)(cl:List (Str×Addr))(C:Addr)(s:Shared)(H:Hp)(ex:List Addr):Cx:=
 {X with env:=compEnvC scope cl C X.env,s₀:=s,H₀:=H,outer:=X.stack,ex:=ex,fn:=λ_=>false,pn:=[],xe:=MT}
section
variable{X:Cx}{c_:Qqz}{Z:St}{H:Hp}{s:Shared}{scope:Scope}{is:List Nat}{ex:List Addr}{C:Addr}
theorem zD(I:Inv X c_ Z H s)(hs:CF X.N X.env.scope.names is scope.names):∀y∈scope.names,y.2=.free->∃c,X.env.cells.lookup y.1=some c:=λy hy e=>I.ok.has y.1 (hs.free y hy e)
theorem mF(I:Inv X c_ Z H s)(hs:CF X.N X.env.scope.names is scope.names){x:Str}{c:Addr}(h:(jv X.env.cells scope.names []).lookup x=some c):X.env.cells.lookup x=some c:=
 (BN (zD I hs) h).resolve_left λz=>nomatch z
theorem J4(I:Inv X c_ Z H s)(hs:CF X.N X.env.scope.names is scope.names)(hk:scope.kind=.function)(hC:s.heap.objs.size<=C)(hf:∀b∈ex,uk X c_ H b)(ho:∀b∈ex,∃o,s.heap.get? b=some o) :
  (X.block scope (jv X.env.cells scope.names []) C s H ex).Ok where
 mod:=I.ok.mod
 kind:=hk
 glob:=I.ok.glob
 blt:=I.ok.blt
 above:=hC
 inj:=λx y c h1 h2=>I.ok.inj x y c (mF I hs h1) (mF I hs h2)
 has:=λx hx=>by
  have hx:(relabel scope X.env).names.lookup x=some .cell\/(relabel scope X.env).names.lookup x=some .free:=hx
  rw[lM] at hx
  cases e:scope.names.lookup x with
  | none=>
   rw[e] at hx
   rcases hx with z|z<;>cases z
  | some k=>
   have hm:(x,k)∈scope.names:=abP e
   have hk:k=.free:=by
    rw[e] at hx
    cases k with
    | free=>rfl
    | cell=>exact absurd rfl (hs.Gp _ hm)
    | _=>rcases hx with z|z<;>simp at z
   subst hk
   exact wK hm
 R3:=λ_ _ h=>Bool.noConfusion h
 hd:=I.ok.hd
 frames:=I.ok.frames
 SW:=.inl rfl
 Xi:=λb hb=>by
  obtain⟨o,e⟩:=ho b hb
  exact⟨aa1 (aaS (aaK e) hC),λx c h=>(hf b hb).2.2.2.2.1 x c (mF I hs h)⟩
 bs:=I.bs
 MC:=aan I.ok.MC I.sz
 tL:=λb o e hb=>by
  rcases(hf b hb).2.2.2.1 with z|z
  ·exact I.ok.tL b o e z
  ·exact absurd (aaS (aaK (I.ok.bs b o e).1) z) (abv _)
 JG:=λb hb hm=>by
  rcases aah.mp (I.wA b hm) with z|z
  ·exact(hf b hb).2.1 z
  ·exact(hf b hb).2.2.1 z
 uS:=I.stack
 Ov:=I.Cs
theorem IA{h':Heap}{t':Nat}{pl:Qqz}(I:Inv X c_ Z H s)(hs:CF X.N X.env.scope.names is scope.names)(hk:scope.kind=.function)(hC:s.heap.objs.size<=C)(hf:∀b∈ex,uk X c_ H b)(ho:∀b∈ex,∃o,s.heap.get? b=some o)
  (old:∀b o,s.heap.get? b=some o->h'.get? b=some o) {m:Qqx} (hn:h'.Ns C m)
  (hp:∀p∈pl,h'.get? p.1=some p.2/\s.heap.objs.size<=p.1/\p.1≠C/\∀v,p.2.data≠.cell v) :
  Inv (X.block scope (jv X.env.cells scope.names []) C s H ex) pl (blank is Z) H {s with heap:=h',toks:=t'} where
 ok:=J4 I hs hk hC hf ho
 os:=rfl
 bare:=I.bare
 base:=Un.kept old
 loc:=⟨m,hn,λi x v h1 h2 h3=>by
  have h3:(relabel scope X.env).names.lookup x=some .local\/(relabel scope X.env).names.lookup x=some .cell\/(relabel scope X.env).names.lookup x=some .free:=h3
  obtain⟨h2,hi⟩:=BP h2
  have h1:X.N[i]?=some x:=h1
  cases e:scope.names.lookup x with
  | none=>
   rw[lM,e] at h3
   rcases h3 with z|z|z<;>cases z
  | some k=>
   have hm:(x,k)∈scope.names:=abP e
   have hk:k=.free:=by
    rw[lM,e] at h3
    cases k with
    | free=>rfl
    | cell=>exact absurd rfl (hs.Gp _ hm)
    | «local»=>exact absurd (hs.own i x h1 e) hi
    | _=>rcases h3 with z|z|z<;>simp at z
   subst hk
   have hv:X.env.scope.names.lookup x=some .cell\/X.env.scope.names.lookup x=some .free:=hs.free _ hm rfl
   obtain⟨m0,_,hl⟩:=I.loc
   obtain⟨u,r,q⟩:=hl i x v h1 h2 (.inr hv)
   refine⟨u,r,.inr ⟨?_,?_⟩⟩
   ·show(relabel scope X.env).names.lookup x=some .cell\/(relabel scope X.env).names.lookup x=some .free
    rw[lM,e]
    show some (if _ then NameKind.cell else NameKind.free)=_\/some (if _ then NameKind.cell else NameKind.free)=_
    split
    ·exact .inl rfl
    ·exact .inr rfl
   ·rcases q with⟨z,_⟩|⟨_,c,ec,cc⟩
    ·have z:X.env.scope.names.lookup x=some .local:=z
     rcases hv with hv|hv<;>rw[hv] at z<;>cases z
    ·obtain⟨c',e'⟩:=wK (cells:=X.env.cells) (cs:=[]) hm
     have e2:=mF I hs e'
     rw[ec] at e2
     cases e2
     obtain⟨o,ho,hd⟩:=cc
     exact⟨c,e',o,old _ _ ho,hd⟩⟩
 cell:=λx c h=>by
  obtain⟨v,o,ho,hd⟩:=I.cell x c (mF I hs h)
  exact⟨v,o,old _ _ ho,hd⟩
 free:=I.iK.fresh hC
 pA:=λx c h=>I.pA x c (mF I hs h)
 pin:=λp Sj=>by
  obtain⟨h1,h2,h3,h4⟩:=hp p (by simpa[Cx.block] using Sj)
  refine⟨h1,I.iK.fresh h2,h3,λhm=>?_,h4⟩
  rcases aah.mp (I.wA p.1 hm) with z|z
  ·exact absurd (aaS I.lt (by rw[<-z];exact h2)) (abv _)
  ·exact I.SX h2 z
 iK:=I.iK.kept old
 len:=by rw[BO];exact I.len
end
theorem kL{X:Cx}{scope:Scope}{cl:List (Str×Addr)}{C:Addr}{s:Shared}{H:Hp}{ex:List Addr}:(X.block scope cl C s H ex).K=X.K:=rfl
theorem PE.eqv{X:Cx}{e:Expr}{t t':TE}(h:PE X e t')(q:t'=t):PE X e t:=q▸h
def Qh(X:Cx)(ifs:List Expr)(t:TT):Prop:=
 ∀(c_:Qqz)(s:Shared)(Z:St)(H:Hp)(Q:Bool->Hp->Prop),Inv X c_ Z H s->t Z H Q->
  wpAny (model X.prog X.w) X.A (forIn ifs true λc r=>if r=true then do let ok <-isTrue c X.env (eval c X.env);pure (ForInStep.yield ok) else pure (ForInStep.yield r)) (TP X c_ Z Q) X.xe s
def XQ:TT:=λ_ H Q=>Q true H
theorem lN{X:Cx}:Qh X [] XQ:=λ_ _ _ H _ I h=>wpAny_tests_nil ⟨H,I,h⟩
theorem nN{X:Cx}{c:Expr}{t:TT}(h:PT X c t):Qh X [c] t:=λc_ s Z H Q I hw=>wpAny_tests_one (h c_ s Z H Q I hw)
def IB(g:TG)(tt:TT)(te:TE)(J:It)(Q:List V->Hp->Prop)(Z:St)(H:Hp):Prop:=
 ∃W:Nat->Nat->List V->St->Hp->Prop,(∃m,W 0 m [] Z H)/\∀i m ys Z H,W i m ys Z H->
  (J.stop i H/\ys.length<=sizeLine/\Q ys H)\/
  (J.go i H/\ys.length<=sizeLine/\∃N:List V->St->Hp->Prop,(∀Sk Z' H',N Sk Z' H'->∃m',m'<m/\W (i+1) m' Sk Z' H')/\
   ∀x H',J.JK i H x H'->g x Z H' λZ2 H2=>tt Z2 H2 λb H3=>if b=true then te Z2 H3 λv H4=>N (ys++[v]) Z2 H4 else N ys Z2 H3)
def We(is:List Nat)(wi:TI)(g:TG)(tt:TT)(te:TE):TE:=λZ H Q=>wi Z H λJ H1=>IB g tt te J (λys H2=>∀p,H2 p=none->Q (.ref p) (upd H2 p (.lst ys))) (blank is Z) H1
section
variable{P:Program}{w:World}
theorem rA.Tv{H:Hp}{h:Heap}{a:Addr}{o:HO}(x:rA P w H h)(hn:H a=none)(new:iZ P w (upd H a o) h a o):rA P w (upd H a o) h:=λb u q=>by
 by_cases hb:b=a
 ·subst hb;rw[b_] at q;cases q;exact new
 ·rw[d_ hb] at q
  exact(x b u q).zr (λ_ _ _ r=>r) (λc r=>by rw[d_ (gr r hn)];exact r) λc xs r=>by rw[d_ (gr r hn)];exact r
end
abbrev CG(ys:List Value)(n:Nat):Obj:={cls:=.type "list",data:=.seq ys.toArray n}
section
variable{X:Cx}{c_:Qqz}{Z:St}{H:Hp}{s:Shared}{scope:Scope}{is:List Nat}
theorem BQ{E:Qqq}{elt tg iter:Expr}{ifs:List Expr}{pos:Pos}{it:Addr}{fp:List Addr}{tn:Nat->Heap->Prop}{J:It}{g:TG}{tt:TT}{te:TE}{Fin:List V->Hp->Prop}{RR:Value->Addr->Result->Shared->Prop}
  (I:Inv X c_ Z H s) (hc:X.calm=true) (hs:CF X.N X.env.scope.names is scope.names) (hk:scope.kind=.function)
  (hg:∀C s H ex,PG (X.block scope (jv X.env.cells scope.names []) C s H ex) tg g) (ht:∀C s H ex,Qh (X.block scope (jv X.env.cells scope.names []) C s H ex) ifs tt)
  (he:∀C s H ex,PE (X.block scope (jv X.env.cells scope.names []) C s H ex) elt te)
  (T:Turn X.prog X.w X.K tg J fp it tn) (st:tn 0 s.heap) (hf:∀b∈fp,uk X c_ H b) (h:IB g tt te J Fin (blank is Z) H)
  (hRR:∀(D C:Addr)(ys:List V)(g_:List Value)(n:Nat)(H':Hp)(s':Shared)(m:Qqx),s.heap.objs.size<=D->s.heap.objs.size<=C->D≠C->s'.heap.Ns C m->s'.heap.get? D=some (CG g_ n)->Vals ys g_->ys.length<=sizeLine->
   H' D=none->H' C=none->s'.os=s.os->AllBare s'.gens->Un (ui X.stack) fp H H' s.heap s'.heap->rA X.prog X.w H' s'.heap->Fin ys H'->RR (.ref D) C (.ok .next) s') :
  wpAny (model X.prog X.w) X.A (newList []) (λacc s3=>wpAny (model X.prog X.w) X.A (newFunctionEnv scope X.env.globals (jv X.env.cells scope.names []) [] X.env.qual none .none (some X.env)) (λUB s4=>
   codeAny (model X.prog X.w) X.A (.compStart (.ListComp elt [⟨tg,iter,ifs,0⟩] scope pos) 0 (.ref it) acc {UB with scope:=relabel scope X.env}) (RR acc UB.locals) s4) E s3) E s:=by
 refine wpAny_newObj_type (wpAny_newFunctionEnv hs.Gp (by intro y hy;simp at hy) (λh1 Rm N1=>?_) hk)
 dsimp only at Rm N1 ⊢
 generalize Yz:s.heap.push {cls:=.type "list",dict:=none,data:=.seq ([]:List Value).toArray}=H2 at Rm N1 ⊢
 have hC:H2.objs.size=s.heap.objs.size+1:=by rw[<-Yz,Heap.size_push]
 have N2:s.heap.objs.size≠H2.objs.size:=by rw[hC];exact aa1 (acE _)
 have UC:s.heap.objs.size<=H2.objs.size:=by rw[hC];exact Nat.le_succ _
 have below:∀b,b<s.heap.objs.size->b≠H2.objs.size/\b≠s.heap.objs.size:=λb hb=>⟨by rw[hC];exact aa1 (Nat.lt_succ_of_lt hb),aa1 hb⟩
 have old:∀b o,s.heap.get? b=some o->h1.get? b=some o:=λb o e=>N1.extBut b o (below b (aaK e)).1 (aaC _ (Yz▸aaC _ e))
 have AJ:h1.get? s.heap.objs.size=some (CG [] 0):=N1.extBut _ _ N2 (aaC _ (Yz▸aaO _ rfl))
 have YA:∀b∈fp,∃o,s.heap.get? b=some o:=λb hb=>let ⟨o,e,_⟩:=T.obj 0 _ st b hb;⟨o,e⟩
 have hfD:∀b∈fp,b≠s.heap.objs.size:=λb hb=>let ⟨o,e⟩:=YA b hb;(below b (aaK e)).2
 have hfC:∀b∈fp,b≠H2.objs.size:=λb hb=>let ⟨o,e⟩:=YA b hb;(below b (aaK e)).1
 generalize hD:s.heap.objs.size=D at *
 generalize hCC:H2.objs.size=C at *
 have UD:∀x c,(jv X.env.cells scope.names []).lookup x=some c->c≠D:=λx c e z=>by
  obtain⟨v,q⟩:=I.cell x c (mF I hs e)
  exact absurd q.lt (by rw[z,hD];exact abv _)
 let XB:=X.block scope (jv X.env.cells scope.names []) C s H fp
 have I1:Inv XB [(D,CG [] 0)] (blank is Z) H {s with heap:=h1,toks:=s.toks+([]:List (Str×Value)).length}:=
  IA I hs hk (by rw[hD];exact UC) hf YA old Rm λp hp=>by
   rw[XT.mp hp]
   exact⟨AJ,Nat.le_of_eq hD,N2,λv z=>nomatch z⟩
 have YB:∀{pl:Qqz} {H':Hp},(∀p∈pl,p.1=D)->(∀b∈fp,H' b=none)->∀b∈fp,uk XB pl H' b:=λ{pl H'} nK hn b hb=>
  ⟨hn b hb,hfC b hb,λhm=>by
   rcases aah.mp (I.wA b hm) with z|z
   ·exact(hf b hb).2.1 z
   ·exact(hf b hb).2.2.1 z,.inl hb,λx c e=>(hf b hb).2.2.2.2.1 x c (mF I hs e),λp hp=>by
   have hp:p∈pl:=by simpa[XB,Cx.block] using hp
   rw[nK p hp]
   exact ab1 (hfD b hb)⟩
 obtain⟨W,⟨m0,w0⟩,turn⟩:=h
 have Js:tn 0 h1:=T.keep _ _ _ st λb _ o e=>old b o e
 have loop:codeAny (model X.prog X.w) X.A (.compLoop (.ListComp elt [⟨tg,iter,ifs,0⟩] scope pos) 0 (.ref it) (.ref D) (compEnvC scope (jv X.env.cells scope.names []) C X.env)) (RR (.ref D) C) {s with heap:=h1,toks:=s.toks+([]:List (Str×Value)).length}:=by
  refine CC (λk s'=>∃i ys g_ n Z' H',Inv XB [(D,CG g_ n)] Z' H' s'/\Vals ys g_/\tn i s'.heap/\(∀b∈fp,H' b=none)/\W i k ys Z' H') ?_ m0 ⟨0,[],[],0,_,_,I1,.nil,Js,λb hb=>(hf b hb).1,w0⟩
  rintro k s3 ⟨i,ys,g_,n,Z3,H3,I3,vs,rD,Uu,w3⟩
  have nK:∀p∈[(D,CG g_ n)],p.1=D:=λp hp=>by rw[XT.mp hp]
  rcases turn i k ys Z3 H3 w3 with⟨stop,hz,qn⟩|⟨go,hz,N,hN,step⟩
  ·refine i0 (T.done XB rfl rfl rfl hc i _ s3 Z3 H3 MT I3 (YB nK Uu) rD stop) λr s4 iH=>?_
   obtain⟨hr,I4⟩:=iH
   subst hr
   obtain⟨m',Sh,_⟩:=I4.loc
   have pD:=I4.pin (D,CG g_ n) (by simp[XB,Cx.block])
   exact hRR D C ys g_ n H3 s4 m' (XW _) UC N2 Sh pD.1 vs hz pD.2.1 I4.free I4.os I4.bare I4.base I4.iK qn
  ·refine i0 (T.item XB rfl rfl rfl hc i _ s3 Z3 H3 MT I3 (YB nK Uu) rD go) λr s4 iH=>?_
   obtain⟨u,hr,h4⟩:=iH
   subst hr
   refine i0 h4 λ_ s5 iH=>?_
   obtain⟨x,H5,I5,r5,y5,Rf,Yo⟩:=iH
   have Yp:=I5.pinned (YB nK Yo) (T.obj _ _ Rf)
   refine i0 (hg C s H fp _ s5 Z3 H5 x u _ Yp r5 (step x H5 y5)) λ_ s6 iH=>?_
   obtain⟨Z6,H6,I6,q6⟩:=iH
   have Cp:∀{Z7:St} {H7:Hp} {s7:Shared},Inv XB ([(D,CG g_ n)]++zv fp s5.heap) Z7 H7 s7->tn (i+1) s7.heap/\∀b∈fp,H7 b=none:=λ{Z7 H7 s7} I7=>
    ⟨T.keep _ _ _ Rf λb hb o e=>(I7.pin (b,o) (aaX _ (aaX _ (qj hb e)))).1,λb hb=>by
     obtain⟨o,e,d⟩:=T.obj _ _ Rf b hb
     exact(I7.pin (b,o) (aaX _ (aaX _ (qj hb e)))).2.1⟩
   refine i0 (ht C s H fp _ s6 Z6 H6 _ I6 q6) λok s7 iH=>?_
   obtain⟨H7,I7,q7⟩:=iH
   cases ok with
   | false=>
    rw[aaw aax] at q7 ⊢
    obtain⟨m',hm,w7⟩:=hN _ _ _ q7
    exact⟨m',hm,i+1,ys,g_,n,Z6,H7,I7.uV,vs,(Cp I7).1,(Cp I7).2,w7⟩
   | true=>
    rw[aay rfl] at q7 ⊢
    refine i0 (he C s H fp _ s7 Z6 H7 _ I7 q7) λy s8 iH=>?_
    obtain⟨v,H8,I8,r8,n8⟩:=iH
    obtain⟨m',hm,w8⟩:=hN _ _ _ n8
    obtain⟨st8,fr8⟩:=Cp I8
    have pD:=I8.pin (D,CG g_ n) (by simp)
    have hl:=vs.length
    refine append_at (hsz:=by show g_.toArray.size<=sizeLine;rw[aaA,<-hl];exact hz) pD.1 λh9 sb9 e9=>?_
    have I9:Inv XB [] Z6 H8 {s8 with heap:=h9}:=by
     have J8:Inv XB [] Z6 H8 s8:=I8.y_ λp hp=>nomatch hp
     exact J8.turned (t':=s8.toks) (it:=D) (λb o hb e=>sb9.extBut b o hb e) pD.2.1 N2 (.inr (Nat.le_of_eq hD)) (λx c e=>UD x c e) λp hp=>by simp[XB,Cx.block] at hp
    refine⟨m',hm,i+1,ys++[v],g_++[y],n+1,Z6,H8,I9.y_ λp hp=>?_,vs.append (.cons r8 .nil),T.keep _ _ _ st8 λb hb o e=>sb9.extBut b o (hfD b hb) e,fr8,w8⟩
    rw[XT.mp hp]
    refine⟨?_,pD.2.1,N2,λhm=>?_,λv z=>nomatch z⟩
    ·rw[e9]
     show some _=some _
     rw[List.push_toArray]
    ·exact pD.2.2.2.1 hm
 exact codeAny_compStart_list loop (T.self _ 0 _ _ _ Js loop)
variable{elt tg iter:Expr}{ifs:List Expr}{pos LQ py:Pos}{wi:TI}{g:TG}{tt:TT}{te:TE}
theorem xV{D:Addr}{ys:List V}{g_:List Value}{n:Nat}{H':Hp}{s':Shared}{fp:List Addr}(I:Inv X c_ Z H s)(hf:∀b∈fp,uk X c_ H b)(hD:s.heap.objs.size<=D)(e:s'.heap.get? D=some (CG g_ n))(vs:Vals ys g_)(hz:ys.length<=sizeLine)
  (nD:H' D=none) (os:s'.os=s.os) (bare:AllBare s'.gens) (un:Un (ui X.stack) fp H H' s.heap s'.heap) (iK:rA X.prog X.w H' s'.heap):Inv X c_ Z (upd H' D (.lst ys)) s':=by
 have neD:∀b o,s.heap.get? b=some o->b≠D:=λb o q=>aa1 (aaS (aaK q) hD)
 refine I.SY (ch:=fp) os ⟨un.keep,un.slot,λb o q nn hx=>by rw[d_ (neD b o q)];exact un.free b o q nn hx,un.there,λb xs q=>?_,λb o u q=>?_,λb ps q=>?_⟩ (iK.Tv nD ⟨hz,g_,n,vs,e⟩) bare λb hb=>?_
 ·have q':=un.qi b xs q
  rw[d_ (gr q' nD)];exact q'
 ·have q':=un.uR b o u q
  rw[d_ (gr q' nD)];exact q'
 ·obtain⟨more,q'⟩:=un.yN b ps q
  exact⟨more,by rw[d_ (gr q' nD)];exact q'⟩
 ·obtain⟨f0,f1,f2,f3,f4,f5⟩:=hf b hb
  exact⟨f3,f1,f4,f5⟩
theorem zE{C:Addr}{h':Heap}{s0:Shared}(I:Inv X c_ Z H s)(hC:s0.heap.objs.size<=C)(nC:H C=none)(UE:Heap.SameBut C s.heap h')(I0:∃Z0 H0,Inv X c_ Z0 H0 s0):Inv X c_ Z H {s with heap:=h'}:=by
 obtain⟨Z0,H0,I0⟩:=I0
 obtain⟨_,f1,_,f3,f4,f5⟩:=I0.zt (H':=λ_=>none) hC rfl
 exact I.turned (t':=s.toks) (λb o hb e=>UE.extBut b o hb e) nC f1 f3 f4 f5
theorem tT(N:List Str)(out:List (Str×NameKind))(is:List Nat)(hc:X.calm=true)(hi:PI X tg iter wi)(hk:scope.kind=.function)(hs:Iz N out is scope.names=true)
  (hg:∀C s H ex,PG (X.block scope (jv X.env.cells scope.names []) C s H ex) tg g) (ht:∀C s H ex,Qh (X.block scope (jv X.env.cells scope.names []) C s H ex) ifs tt)
  (he:∀C s H ex,∃t,PE (X.block scope (jv X.env.cells scope.names []) C s H ex) elt t/\t=te) (wz:∀x,foldedSetIterable iter X.env x=pure x:=by intro _;rfl) (eN:X.N=N:=by rfl) (eo:X.env.scope.names=out:=by rfl) :
  PE X (.ListComp elt [⟨tg,iter,ifs,0⟩] scope pos) (We is wi g tt te):=by
 intro c_ s Z H Q I h
 subst eN eo
 have S:=CF.of hs
 rw[eval_ListComp]
 refine wpAny_comprehension_free (use:=none) rfl wz (tS (zD I S)) hk S.loc (i0 (hi c_ s Z H _ I h) λv s1 h1=>i0 h1 λWo s2 h2=>?_)
 obtain⟨it,fp,tn,J,H2,rfl,I2,T,Bw,f2,h2⟩:=h2
 refine BQ (RR:=λacc C=>compPost (model X.prog X.w) X.A X.xe none (EP X c_ Z Q) acc C) I2 hc S hk hg ht (λC s H ex=>let ⟨_,h,e⟩:=he C s H ex;PE.eqv h e) T Bw f2 h2 ?_
 intro D C ys g_ n H' s' m hD hC N2 hn e vs hz nD nC os bare un iK q
 have J1:Inv X c_ Z (upd H' D (.lst ys)) s':=xV I2 f2 hD e vs hz nD os bare un iK
 refine⟨m,hn,λh' UE=>⟨.ref D,_,zE J1 hC (by rw[d_ (ab1 N2)];exact nC) UE ⟨_,_,I2⟩,rfl,q D nD⟩⟩
theorem BR{y:Str}{j:Nat}(N:List Str)(out:List (Str×NameKind))(is:List Nat)(hN:X.N.Nodup)(hj:X.N[j]?=some y)(hy:X.env.scope.names.lookup y=some .local)(hc:X.calm=true)(hi:PI X tg iter wi)(hk:scope.kind=.function)(hs:Iz N out is scope.names=true)
  (hg:∀C s H ex,PG (X.block scope (jv X.env.cells scope.names []) C s H ex) tg g) (ht:∀C s H ex,Qh (X.block scope (jv X.env.cells scope.names []) C s H ex) ifs tt)
  (he:∀C s H ex,∃t,PE (X.block scope (jv X.env.cells scope.names []) C s H ex) elt t/\t=te)
  (YC:swapsWith (.ListComp elt [⟨tg,iter,ifs,0⟩] scope pos) (some (.Name y py)) LQ.line X.env=pure true:=by rfl) (wz:∀x,foldedSetIterable iter X.env x=pure x:=by intro _;rfl) (eN:X.N=N:=by rfl) (eo:X.env.scope.names=out:=by rfl) :
  PS X (.Assign [.Name y py] (.ListComp elt [⟨tg,iter,ifs,0⟩] scope pos) LQ) (JJ (We is wi g tt te) (lA j)):=by
 intro c_ s Z H Dn I h
 subst eN eo
 have S:=CF.of hs
 rw[exec_Assign_Name_used _ _ _ _ YC]
 refine UW (wpAny_standAt (UW ?_))
 show wpAny _ _ (do let _ <-comprehension (.ListComp elt [⟨tg,iter,ifs,0⟩] scope pos) scope X.env _ (newList []) false (eval iter X.env) (some (assign (.Name y py) X.env))) _ _ s
 refine UW (abK (wpAny_comprehension_free (use:=some (assign (.Name y py) X.env)) (Q:=λ_ s'=>SP X c_ Dn .next s') rfl wz (tS (zD I S)) hk S.loc
  (i0 (hi c_ s Z H _ I h) λv s1 h1=>i0 h1 λWo s2 h2=>?_)) (λ_ s' hq=>aaz (aaz hq)) λ_ _ e=>e)
 obtain⟨it,fp,tn,J,H2,rfl,I2,T,Bw,f2,h2⟩:=h2
 refine BQ (RR:=λacc C=>compPost (model X.prog X.w) X.A X.xe (some (assign (.Name y py) X.env)) (λ_ s'=>SP X c_ Dn .next s') acc C) I2 hc S hk hg ht (λC s H ex=>let ⟨_,h,e⟩:=he C s H ex;PE.eqv h e) T Bw f2 h2 ?_
 intro D C ys g_ n H' s' m hD hC N2 hn e vs hz nD nC os bare un iK q
 have J1:Inv X c_ Z (upd H' D (.lst ys)) s':=xV I2 f2 hD e vs hz nD os bare un iK
 show wpAny _ _ (assign (.Name y py) X.env (.ref D)) _ _ _
 refine wpAny_assign_Name (BD J1 hN hj (.inl hy) (v:=.ref D) rfl (λs5 J5 iH=>?_) (.inr hy))
 obtain⟨a,sb,ha⟩:=iH
 have hCa:C≠a:=by
  obtain⟨_,f1,_,f3,f4,f5⟩:=I2.zt (H':=λ_=>none) hC rfl
  rcases ha with z|z
  ·rw[z];exact f1
  ·exact λq=>f4 _ _ z q.symm
 exact⟨m,hn.sameBut sb hCa,λh' UE=>⟨_,_,zE J5 hC (by rw[d_ (ab1 N2)];exact nC) UE ⟨_,_,I2⟩,q D nD⟩⟩
end
section
variable{X:Cx}{elt tg iter:Expr}{ifs:List Expr}{scope:Scope}{pos:Pos}{wi:TI}{g:TG}{tt:TT}{te:TE}{py LQ:Pos}
theorem zF(N:List Str)(out:List (Str×NameKind))(is:List Nat)(hc:X.calm=true)(hi:PI X tg iter wi)(hk:scope.kind=.function)(hs:Iz N out is scope.names=true)
 (hg:∀C s H ex,PG (X.block scope (jv X.env.cells scope.names []) C s H ex) tg g) (ht:∀C s H ex,∃t,Qh (X.block scope (jv X.env.cells scope.names []) C s H ex) ifs t/\t=tt)
 (he:∀C s H ex,∃t,PE (X.block scope (jv X.env.cells scope.names []) C s H ex) elt t/\t=te) (wz:∀x,foldedSetIterable iter X.env x=pure x:=by intro _;rfl) (eN:X.N=N:=by rfl) (eo:X.env.scope.names=out:=by rfl) :
 PE X (.ListComp elt [⟨tg,iter,ifs,0⟩] scope pos) (We is wi g tt te):=tT N out is hc hi hk hs hg (λC s H ex=>let ⟨_,h,e⟩:=ht C s H ex;e▸h) he wz eN eo
theorem wL{y:Str}{j:Nat}(N:List Str)(out:List (Str×NameKind))(is:List Nat)(hN:X.N.Nodup)(hj:X.N[j]?=some y)(hy:X.env.scope.names.lookup y=some .local)(hc:X.calm=true)(hi:PI X tg iter wi)(hk:scope.kind=.function)(hs:Iz N out is scope.names=true)
 (hg:∀C s H ex,PG (X.block scope (jv X.env.cells scope.names []) C s H ex) tg g) (ht:∀C s H ex,∃t,Qh (X.block scope (jv X.env.cells scope.names []) C s H ex) ifs t/\t=tt)
 (he:∀C s H ex,∃t,PE (X.block scope (jv X.env.cells scope.names []) C s H ex) elt t/\t=te)
 (YC:swapsWith (.ListComp elt [⟨tg,iter,ifs,0⟩] scope pos) (some (.Name y py)) LQ.line X.env=pure true:=by rfl) (wz:∀x,foldedSetIterable iter X.env x=pure x:=by intro _;rfl) (eN:X.N=N:=by rfl) (eo:X.env.scope.names=out:=by rfl) :
 PS X (.Assign [.Name y py] (.ListComp elt [⟨tg,iter,ifs,0⟩] scope pos) LQ) (JJ (We is wi g tt te) (lA j)):=BR N out is hN hj hy hc hi hk hs hg (λC s H ex=>let ⟨_,h,e⟩:=ht C s H ex;e▸h) he YC wz eN eo
end
theorem rJ{lo:Int}{n:Nat}{g:TG}{tt:TT}{te:TE}{Q:List V->Hp->Prop}{Z:St}{H:Hp}(hn:n<=sizeLine)(Pv:Nat->List V->St->Hp->Prop)(h0:Pv 0 [] Z H)(hlen:∀i ys Z H,Pv i ys Z H->ys.length<=i)
  (hs:∀i ys Z H,i<n->Pv i ys Z H->g (.int (lo+i)) Z H λZ2 H2=>tt Z2 H2 λb H3=>if b=true then te Z2 H3 λv H4=>Pv (i+1) (ys++[v]) Z2 H4 else Pv (i+1) ys Z2 H3)
  (hd:∀ys Z H,Pv n ys Z H->Q ys H):IB g tt te (Ow lo n) Q Z H:=by
 refine⟨λi m ys Z H=>m=n-i/\i<=n/\Pv i ys Z H,⟨n,by simp,aaZ _,h0⟩,?_⟩
 rintro i m ys Z H ⟨rfl,hi,p⟩
 have hl:=hlen i ys Z H p
 by_cases j2:i<n
 ·refine .inr ⟨j2,by omega,Pv (i+1),λSk Z' H' p'=>⟨n-(i+1),by omega,rfl,j2,p'⟩,λx H' y=>?_⟩
  obtain⟨rfl,rfl⟩:=y
  exact hs i ys Z _ j2 p
 ·have e:i=n:=by omega
  subst e
  exact .inl ⟨XW _,by omega,hd ys Z H p⟩
theorem jD{K:Qqy}{a:Addr}{xs:List V}{g:TG}{tt:TT}{te:TE}{Q:List V->Hp->Prop}{Z:St}{H:Hp}(hn:xs.length<=sizeLine)(Pv:Nat->List V->St->Hp->Prop)(h0:Pv 0 [] Z H)(hl:∀i ys Z H,i<=xs.length->Pv i ys Z H->gN K H a xs/\ys.length<=i)
  (hs:∀i x ys Z H,xs[i]?=some x->Pv i ys Z H->g x Z H λZ2 H2=>tt Z2 H2 λb H3=>if b=true then te Z2 H3 λv H4=>Pv (i+1) (ys++[v]) Z2 H4 else Pv (i+1) ys Z2 H3)
  (hd:∀ys Z H,Pv xs.length ys Z H->Q ys H):IB g tt te (R4 K a) Q Z H:=by
 refine⟨λi m ys Z H=>m=xs.length-i/\i<=xs.length/\Pv i ys Z H,⟨xs.length,by simp,aaZ _,h0⟩,?_⟩
 rintro i m ys Z H ⟨rfl,hi,p⟩
 obtain⟨q,hy⟩:=hl i ys Z H hi p
 by_cases j2:i<xs.length
 ·refine .inr ⟨⟨xs,xs[i],q,by simp[j2]⟩,by omega,Pv (i+1),λSk Z' H' p'=>⟨xs.length-(i+1),by omega,rfl,j2,p'⟩,λx H' y=>?_⟩
  obtain⟨rfl,y⟩:=y
  exact hs i x ys Z _ (y xs q) p
 ·have e:i=xs.length:=by omega
  subst e
  exact .inl ⟨⟨xs,q,XW _⟩,by omega,hd ys Z H p⟩
end L2
namespace PySem
section
variable{prog:Program}{w:World}{A:Around}{E:Qqq}{s:Shared}
end
end PySem
namespace L2
open PySem PySem.Spec PyProof.Rows
def Tw(lo st:Int)(n:Nat):It:=⟨λi _=>i<n,λi H x H'=>H'=H/\x=.int (lo+i*st),λi _=>n<=i⟩
theorem Ex{P:Program}{w:World}{K:PySem.W.Frag}{tg:Expr}(it:Addr)(lo st:Int)(n:Nat):Turn P w K tg (Tw lo st n) [it] it (λi h=>IsRangeIter h it (lo+(i:Nat)*st) ((n:Int)-(i:Nat)) st) where
 mem:=by simp
 obj:=λi h st b hb=>by
  have e:b=it:=by simpa using hb
  subst e
  exact⟨_,st,λv z=>by
   have z':Data.fields _=Data.cell v:=z
   cases z'⟩
 keep:=λi h h' st k=>k it (by simp) _ st
 item:=by
  intro X hP hw hK hc i c_ s Z H E I hf stt hg
  subst hP hw hK
  obtain⟨f0,f1,f2,f3,f4,f5⟩:=hf it (by simp)
  have W:=Walks.range (prog:=X.prog) (w:=X.w) (I.ok.hd hc) it lo st n
  refine W.item i s _ _ hg stt λv h' tk hv yK kk=>?_
  obtain⟨t,rfl⟩:=hv
  have I1:Inv X c_ Z H {s with heap:=h',toks:=tk}:=I.turned (λb o hb e=>kk b o (by simpa using hb) e) f0 f1 f3 f4 f5
  exact⟨_,rfl,zu (s:={s with heap:=h',toks:=tk}) (n:="range_iterator") yK rfl rfl (by decide) ⟨.int (lo+i*st),H,I1,⟨t,rfl⟩,⟨rfl,rfl⟩,yK,λb hb=>(hf b hb).1⟩⟩
 done:=by
  intro X hP hw hK hc i c_ s Z H E I hf st hg
  subst hP hw hK
  obtain⟨f0,f1,f2,f3,f4,f5⟩:=hf it (by simp)
  exact wpAny_pyNext_range_end (I.ok.hd hc) st (by have:n<=i:=hg;omega) λh' eb=>⟨rfl,I.turned (t':=s.toks) (λb o hb e=>eb b o hb e) f0 f1 f3 f4 f5⟩
 self:=λ_ _ _ _ _ st h=>wpAny_pyIter_rangeiter st h
theorem rangeSize_down(a b:Int):Builtin.Range.rangeSize a b (-1)=((a-b).toNat:Int):=by
 unfold Builtin.Range.rangeSize
 simp only [show ¬((-1:Int)>0) by decide,acd]
 have e:(- -1:Int)=1:=by decide
 rw[e,Int.ediv_one]
 split<;>omega
theorem small_down{a b:Int}(ha:-(2 ^ 61)<=a)(ha':a<2 ^ 61)(hb:-(2 ^ 61)<=b)(hb':b<2 ^ 61):Builtin.Range.small a b (-1)=true:=by
 unfold Builtin.Range.small
 rw[rangeSize_down]
 simp only [Builtin.Range.rangeFitsLong,abn,acJ,acg,acp,show ¬((-1:Int)>0) by decide,acd]
 omega
section
variable{X:Cx}{tg:Expr}
def Tx(ta:TA):TI:=λZ H R=>ta Z H λvs H1=>∃i j:Int,vs=[.int i,.int j,.int (-1)]/\(-(2 ^ 61)<=i/\i<2 ^ 61/\-(2 ^ 61)<=j/\j<2 ^ 61)/\R (Tw i (-1) (i-j).toNat) H1
theorem wM{a b c:Expr}{ta:TA}{p pos:Pos}(hg:Gl X "range")(hm:X.mg "range"=none)(ha:PA X [a,b,c] ta)(hs:starEach [a,b,c] X.env=[(false,eval a X.env),(false,eval b X.env),(false,eval c X.env)]:=by rfl)
  (Fx:starEach [b,c] X.env=[(false,eval b X.env),(false,eval c X.env)]:=by rfl):PI X tg (.Call (.Name "range" p) [a,b,c] [] pos) (Tx ta):=by
 intro c_ s Z H R I h
 refine Call_ (o3 I hg hm boot_range (abh (i0 (ha pos c_ s Z H _ I h) λus s1 iH=>?_) (by rw[hs,Fx]) (by rw[Fx];rfl)))
 obtain⟨vs,H1,I1,r1,q1⟩:=iH
 obtain⟨i,j,e,⟨q1,q2,q3,q4⟩,q⟩:=q1
 subst e
 cases r1 with
 | cons r rr=>
  cases rr with
  | cons r' rr=>
   cases rr with
   | cons r'' rr=>
    cases rr
    obtain⟨t,rfl⟩:=r
    obtain⟨t',rfl⟩:=r'
    obtain⟨t'',rfl⟩:=r''
    refine call_range_3 (by decide) ?_ (Or.inl (PyProof.noPylong_small (by decide)))
    refine wpAny_pyIter_range (IsRange.new ..) (small_down q1 q2 q3 q4) ?_
    generalize ho:({cls:=.type "range",data:=.fields #[.int i t,.int j t',.int (-1) t'']}:Obj)=o
    have I2:Inv X c_ Z H1 {s1 with heap:=s1.heap.push o,toks:=s1.toks}:=I1.kept λb o e=>aaC _ e
    refine⟨(s1.heap.push o).objs.size,[(s1.heap.push o).objs.size],_,_,H1,rfl,I2.kept (t':=s1.toks) λb o e=>aaC _ e,Ex _ i (-1) (i-j).toNat,?_,λb hb=>?_,q⟩
    ·show IsRangeIter _ _ (i+((0:Nat):Int)*(-1)) ((((i-j).toNat:Nat):Int)-((0:Nat):Int)) (-1)
     have e1:i+((0:Nat):Int)*(-1)=i:=by simp
     have e2:(((i-j).toNat:Nat):Int)-((0:Nat):Int)=Builtin.Range.rangeSize i j (-1):=by rw[rangeSize_down];simp
     rw[e1,e2]
     exact aaO _ rfl
    ·have e:b=(s1.heap.push o).objs.size:=by simpa using hb
     subst e
     exact I2.zt (XW _) (I2.iK.fresh (XW _))
end
theorem uq{lo st:Int}{n:Nat}{g:TG}{tb:TS}{D:Ends}{Z:St}{H:Hp}(Pv:Nat->St->Hp->Prop)(h0:Pv 0 Z H)
  (hs:∀i Z H,i<n->Pv i Z H->g (.int (lo+i*st)) Z H λZ2 H2=>tb {D with nx:=Pv (i+1),ct:=Pv (i+1),bk:=D.nx} Z2 H2) (hd:∀Z H,Pv n Z H->D.nx Z H) :
  ∃W:Nat->Nat->St->Hp->Prop,(∃m,W 0 m Z H)/\∀i m Z H,W i m Z H->
   ((Tw lo st n).stop i H/\D.nx Z H)\/((Tw lo st n).go i H/\∃N:St->Hp->Prop,(∀Z' H',N Z' H'->∃m',m'<m/\W (i+1) m' Z' H')/\∀x H',(Tw lo st n).JK i H x H'->g x Z H' λZ2 H2=>tb {D with nx:=N,ct:=N,bk:=D.nx} Z2 H2):=by
 refine⟨λi m Z H=>m=n-i/\i<=n/\Pv i Z H,⟨n,by simp,aaZ _,h0⟩,?_⟩
 rintro i m Z H ⟨rfl,hi,p⟩
 by_cases j2:i<n
 ·refine .inr ⟨j2,Pv (i+1),λZ' H' p'=>⟨n-(i+1),by omega,rfl,j2,p'⟩,λx H' y=>?_⟩
  obtain⟨e,y⟩:=y
  subst e y
  exact hs i Z _ j2 p
 ·have e:i=n:=by omega
  subst e
  exact .inl ⟨XW _,hd Z H p⟩
section
variable{X:Cx}
theorem j1:uW X (.builtin "isinstance") (λxs H Q=>∃x T t b,xs=[x,.ty T]/\wF X.K H x t/\W.kitOne X.K t (.type T)=some b/\Q (.bl b) H):=by
 intro c_ s Z H xs us Q I r h
 obtain⟨x,T,t,b,rfl,ty,e,q⟩:=h
 obtain⟨u,u',rfl,ru,ru'⟩:=vals2 r
 cases (show u'=Value.type T from ru')
 exact Ip I ru ty e λtk=>⟨.bl b,H,I.tok tk,rfl,q⟩
theorem zG:∀{xs:List Str} {us:List Value},Vals (xs.map V.str) us->StrsAre us xs
 | [],_,h=>by cases h;exact .nil
 | x::r,_,h=>by
  cases h with
  | cons a t=>
   obtain⟨tk,rfl⟩:=a
   exact .cons x tk (zG t)
def rJoin(K:Qqy):V->List V->Hp->VK->Prop:=λx vs H Q=>∃z l xs,x=.str z/\vs=[.ref l]/\gN K H l (xs.map V.str)/\(xs.map (·.length)).sum+xs.length*z.length<=16777216/\Q (.str (Txt.join z xs)) H
theorem MU:XA X "str.join" (rJoin X.K):=by
 intro c_ s Z H x xs v us Q I rx r h
 obtain⟨z,l,ys,rfl,rfl,hl,hz,q⟩:=h
 obtain⟨u,rfl,ru⟩:=vals1 r
 cases ru
 obtain⟨t,rfl⟩:=rx
 obtain⟨g_,rv,p,_⟩:=I.list hl
 exact join_list p.isList (by simpa using zG rv) hz λt' k=>⟨.str _,H,I.tok k,⟨t',rfl⟩,q⟩
end
inductive mO(K:Qqy)(H:Hp):Nat->V->V->Bool->Prop
 | flat {n x y} (fx:l8 x=true) (fy:l8 y=true):mO K H n x y (Ir x y)
 | lists {n a c xs ys} {e:Nat->Bool} (h1:gN K H a xs) (h2:gN K H c ys) (hl:xs.length=ys.length) (he:∀(j:Nat) u v,xs[j]?=some u->ys[j]?=some v->mO K H n u v (e j)):mO K H (n+1) (.ref a) (.ref c) ((List.range xs.length).all e)
 | J6 {n a c xs ys} (h1:gN K H a xs) (h2:gN K H c ys) (hl:xs.length≠ys.length):mO K H n (.ref a) (.ref c) false
 | qi {n a c xs ys} {e:Nat->Bool} (h1:oy K H a xs) (h2:oy K H c ys) (he:∀(j:Nat) u v,xs[j]?=some u->ys[j]?=some v->mO K H n u v (e j)):mO K H (n+1) (.ref a) (.ref c) ((List.range (min xs.length ys.length)).all e&&xs.length ==ys.length)
 | wN {n a xs y} (h1:gN K H a xs) (fy:l8 y=true):mO K H n (.ref a) y false
 | wO {n a xs y} (h1:gN K H a xs) (fy:l8 y=true):mO K H n y (.ref a) false
 | zH {n a xs y} (h1:oy K H a xs) (fy:l8 y=true):mO K H n (.ref a) y false
 | zI {n a xs y} (h1:oy K H a xs) (fy:l8 y=true):mO K H n y (.ref a) false
 | zJ {n a c xs ys} (h1:gN K H a xs) (h2:oy K H c ys):mO K H n (.ref a) (.ref c) false
 | zK {n a c xs ys} (h1:oy K H a xs) (h2:gN K H c ys):mO K H n (.ref a) (.ref c) false
theorem J7:∀{x:V},l8 x=true->Ir x x=true:=by
 intro x h
 cases x<;>simp[l8,Ir] at *
section
variable{X:Cx}{c_:Qqz}{Z:St}{H:Hp}{s:Shared}
theorem Inv.OD{a c:Addr}{xs ys:List V}(I:Inv X c_ Z H s)(h1:gN X.K H a xs)(h2:oy X.K H c ys):a≠c:=by
 obtain⟨g_,_,p,_⟩:=I.list h1
 obtain⟨l5,_,p2,_⟩:=I.tuple h2
 exact SeqAt.ne_of_list_tuple p.isList (show s.heap.IsTuple c l5.toArray from p2)
theorem mO.self{n:Nat}{x y:V}{b:Bool}(I:Inv X c_ Z H s)(h:mO X.K H n x y b):x=y->b=true:=by
 induction h with
 | flat fx fy=>intro e;subst e;exact J7 fx
 | lists h1 h2 hl he ih=>
  intro e
  cases e
  have:=I.pB h1 h2
  subst this
  refine abD.mpr λj hj=>?_
  have hj:=abt.mp hj
  exact ih j _ _ (UR hj) (UR hj) rfl
 | J6 h1 h2 hl=>intro e;cases e;exact absurd (abe List.length (I.pB h1 h2)) hl
 | qi h1 h2 he ih=>
  intro e
  cases e
  have:=I.Ii h1 h2
  subst this
  rw[abn]
  refine⟨abD.mpr λj hj=>?_,by simp⟩
  have hj:=abt.mp hj
  rw[Nat.min_self] at hj
  exact ih j _ _ (UR hj) (UR hj) rfl
 | wN h1 fy=>intro e;subst e;exact absurd (show false=true from fy) aax
 | wO h1 fy=>intro e;subst e;exact absurd (show false=true from fy) aax
 | zH h1 fy=>intro e;subst e;exact absurd (show false=true from fy) aax
 | zI h1 fy=>intro e;subst e;exact absurd (show false=true from fy) aax
 | zJ h1 h2=>intro e;cases e;exact absurd rfl (I.OD h1 h2)
 | zK h1 h2=>intro e;cases e;exact absurd rfl (I.OD h2 h1)
theorem qk{y:V}{v:Value}(r:RelV y v)(f:l8 y=true):v=.none\/(∃b,v=.bool b)\/(∃i t,v=.int i t)\/∃x t,v=.str x t:=by
 cases y with
 | jb=>exact .inl r
 | bl b=>exact .inr (.inl ⟨b,r⟩)
 | int i=>obtain⟨t,e⟩:=r;exact .inr (.inr (.inl ⟨i,t,e⟩))
 | str x=>obtain⟨t,e⟩:=r;exact .inr (.inr (.inr ⟨x,t,e⟩))
 | _=>exact absurd (show false=true from f) aax
theorem oE{xs:List V}{g_:List Value}(rv:Vals xs g_){j:Nat}(h:j<g_.toArray.size):∃x,xs[j]?=some x/\RelV x g_.toArray[j]:=by
 have hl:=rv.length
 have hj:j<g_.length:=by simpa using h
 have hx:j<xs.length:=by omega
 obtain⟨u,hu,ru⟩:=rv.get (UR hx)
 refine⟨xs[j],UR hx,?_⟩
 rw[UR hj] at hu
 cases hu
 simpa using ru
theorem mO.at{n:Nat}{x y:V}{b:Bool}(I:Inv X c_ Z H s)(h:mO X.K H n x y b):∀(A:Around)(u v:Value),RelV x u->RelV y v->A.units+n<cLine->SeqAt.EqAt A s u v b:=by
 induction h with
 | flat fx fy=>intro A u v ru rv _;exact JS ru rv fx fy
 | @lists n a c xs ys e h1 h2 hl he ih=>
  intro A u v ru rv hu
  cases ru;cases rv
  by_cases UG:a=c
  ·subst UG
   have hb:=mO.self I (mO.lists h1 h2 hl he) rfl
   rw[hb]
   exact SeqAt.EqAt.same _
  ·obtain⟨g_,r1,p1,_⟩:=I.list h1
   obtain⟨l5,r2,p2,_⟩:=I.list h2
   have l1:=r1.length
   have l2:=r2.length
   refine SeqAt.EqAt.of_refs UG ?_
   have q:=SeqAt.RcAt.lists (A:=A) (e:=e) p1.isList p2.isList (by simp;omega) (by omega) λj g1 g2=>by
    obtain⟨x,ex,rx⟩:=oE r1 g1
    obtain⟨y,ey,ry⟩:=oE r2 g2
    exact ih j x y ex ey A.in1 _ _ rx ry (by show A.units+1+n<cLine;omega)
   rw[aaA,<-l1] at q
   exact q
 | @J6 n a c xs ys h1 h2 hl=>
  intro A u v ru rv hu
  cases ru;cases rv
  obtain⟨g_,r1,p1,_⟩:=I.list h1
  obtain⟨l5,r2,p2,_⟩:=I.list h2
  have l1:=r1.length
  have l2:=r2.length
  refine SeqAt.EqAt.of_refs (λe=>?_) (SeqAt.RcAt.lists_lengths p1.isList p2.isList (by simp;omega) (by omega))
  subst e
  exact hl (abe List.length (I.pB h1 h2))
 | @qi n a c xs ys e h1 h2 he ih=>
  intro A u v ru rv hu
  cases ru;cases rv
  by_cases UG:a=c
  ·subst UG
   have hb:=mO.self I (mO.qi h1 h2 he) rfl
   rw[hb]
   exact SeqAt.EqAt.same _
  ·obtain⟨g_,r1,p1,_⟩:=I.tuple h1
   obtain⟨l5,r2,p2,_⟩:=I.tuple h2
   have l1:=r1.length
   have l2:=r2.length
   refine SeqAt.EqAt.of_refs UG ?_
   have q:=SeqAt.RcAt.tuples (A:=A) (e:=e) (show s.heap.IsTuple a g_.toArray from p1) (show s.heap.IsTuple c l5.toArray from p2) (by omega) λj g1 g2=>by
    obtain⟨x,ex,rx⟩:=oE r1 g1
    obtain⟨y,ey,ry⟩:=oE r2 g2
    exact ih j x y ex ey A.in1 _ _ rx ry (by show A.units+1+n<cLine;omega)
   rw[aaA,aaA,<-l1,<-l2] at q
   exact q
 | @wN n a xs y h1 fy=>
  intro A u v ru rv hu
  cases ru
  obtain⟨g_,r1,p1,_⟩:=I.list h1
  rcases qk rv fy with rfl|⟨b,rfl⟩|⟨i,t,rfl⟩|⟨x,t,rfl⟩
  ·exact .list_none p1.isList (by omega)
  ·exact .list_bool b p1.isList (by omega)
  ·exact .list_int i t p1.isList (by omega)
  ·exact .list_str x t p1.isList (by omega)
 | @wO n a xs y h1 fy=>
  intro A u v ru rv hu
  cases rv
  obtain⟨g_,r1,p1,_⟩:=I.list h1
  rcases qk ru fy with rfl|⟨b,rfl⟩|⟨i,t,rfl⟩|⟨x,t,rfl⟩
  ·exact .none_list p1.isList (by omega)
  ·exact .bool_list b p1.isList (by omega)
  ·exact .int_list i t p1.isList (by omega)
  ·exact .str_list x t p1.isList (by omega)
 | @zH n a xs y h1 fy=>
  intro A u v ru rv hu
  cases ru
  obtain⟨g_,r1,p1,_⟩:=I.tuple h1
  have p1:s.heap.IsTuple a g_.toArray:=p1
  rcases qk rv fy with rfl|⟨b,rfl⟩|⟨i,t,rfl⟩|⟨x,t,rfl⟩
  ·exact .tuple_none p1 (by omega)
  ·exact .tuple_bool b p1 (by omega)
  ·exact .tuple_int i t p1 (by omega)
  ·exact .tuple_str x t p1 (by omega)
 | @zI n a xs y h1 fy=>
  intro A u v ru rv hu
  cases rv
  obtain⟨g_,r1,p1,_⟩:=I.tuple h1
  have p1:s.heap.IsTuple a g_.toArray:=p1
  rcases qk ru fy with rfl|⟨b,rfl⟩|⟨i,t,rfl⟩|⟨x,t,rfl⟩
  ·exact .none_tuple p1 (by omega)
  ·exact .bool_tuple b p1 (by omega)
  ·exact .int_tuple i t p1 (by omega)
  ·exact .str_tuple x t p1 (by omega)
 | @zJ n a c xs ys h1 h2=>
  intro A u v ru rv hu
  cases ru;cases rv
  obtain⟨g_,r1,p1,_⟩:=I.list h1
  obtain⟨l5,r2,p2,_⟩:=I.tuple h2
  exact .list_tuple p1.isList (show s.heap.IsTuple c l5.toArray from p2) (by omega)
 | @zK n a c xs ys h1 h2=>
  intro A u v ru rv hu
  cases ru;cases rv
  obtain⟨g_,r1,p1,_⟩:=I.tuple h1
  obtain⟨l5,r2,p2,_⟩:=I.list h2
  exact .tuple_list (show s.heap.IsTuple a g_.toArray from p1) p2.isList (by omega)
def Qi(x y:V):Prop:=∃a c,x=.ref a/\y=.ref c
theorem mO.rc{n:Nat}{x y:V}{b:Bool}{A:Around}{u v:Value}(I:Inv X c_ Z H s)(h:mO X.K H n x y b)(sq:Qi x y)(ru:RelV x u)(rv:RelV y v)(hu:A.units+n+1<cLine):SeqAt.RcAt A s u v b/\SeqAt.RcNeAt A s u v (!b):=by
 obtain⟨a0,c0,rfl,rfl⟩:=sq
 cases ru;cases rv
 cases h with
 | flat fx fy=>exact absurd (show false=true from fx) aax
 | @lists n a c xs ys e h1 h2 hl he=>
  obtain⟨g_,r1,p1,_⟩:=I.list h1
  obtain⟨l5,r2,p2,_⟩:=I.list h2
  have l1:=r1.length
  have l2:=r2.length
  have el:∀j (g1:j<g_.toArray.size) (g2:j<l5.toArray.size),SeqAt.EqAt A.in1 s g_.toArray[j] l5.toArray[j] (e j):=λj g1 g2=>by
   obtain⟨x,ex,rx⟩:=oE r1 g1
   obtain⟨y,ey,ry⟩:=oE r2 g2
   exact(he j x y ex ey).at I A.in1 _ _ rx ry (by show A.units+1+n<cLine;omega)
  have q:=SeqAt.RcAt.lists (A:=A) (e:=e) p1.isList p2.isList (by simp;omega) (by omega) el
  have q':=SeqAt.RcNeAt.lists (A:=A) (e:=e) p1.isList p2.isList (by simp;omega) (by omega) el
  rw[aaA,<-l1] at q q'
  exact⟨q,q'⟩
 | @J6 n a c xs ys h1 h2 hl=>
  obtain⟨g_,r1,p1,_⟩:=I.list h1
  obtain⟨l5,r2,p2,_⟩:=I.list h2
  have l1:=r1.length
  have l2:=r2.length
  exact⟨SeqAt.RcAt.lists_lengths p1.isList p2.isList (by simp;omega) (by omega),SeqAt.RcNeAt.lists_lengths p1.isList p2.isList (by simp;omega) (by omega)⟩
 | @qi n a c xs ys e h1 h2 he=>
  obtain⟨g_,r1,p1,_⟩:=I.tuple h1
  obtain⟨l5,r2,p2,_⟩:=I.tuple h2
  have l1:=r1.length
  have l2:=r2.length
  have el:∀j (g1:j<g_.toArray.size) (g2:j<l5.toArray.size),SeqAt.EqAt A.in1 s g_.toArray[j] l5.toArray[j] (e j):=λj g1 g2=>by
   obtain⟨x,ex,rx⟩:=oE r1 g1
   obtain⟨y,ey,ry⟩:=oE r2 g2
   exact(he j x y ex ey).at I A.in1 _ _ rx ry (by show A.units+1+n<cLine;omega)
  have q:=SeqAt.RcAt.tuples (A:=A) (e:=e) (show s.heap.IsTuple a0 g_.toArray from p1) (show s.heap.IsTuple c0 l5.toArray from p2) (by omega) el
  have q':=SeqAt.RcNeAt.tuples (A:=A) (e:=e) (show s.heap.IsTuple a0 g_.toArray from p1) (show s.heap.IsTuple c0 l5.toArray from p2) (by omega) el
  rw[aaA,aaA,<-l1,<-l2] at q q'
  exact⟨q,q'⟩
 | wN h1 fy=>exact absurd (show false=true from fy) aax
 | wO h1 fy=>exact absurd (show false=true from fy) aax
 | zH h1 fy=>exact absurd (show false=true from fy) aax
 | zI h1 fy=>exact absurd (show false=true from fy) aax
 | @zJ n a c xs ys h1 h2=>
  obtain⟨g_,r1,p1,_⟩:=I.list h1
  obtain⟨l5,r2,p2,_⟩:=I.tuple h2
  exact⟨.list_tuple p1.isList (show s.heap.IsTuple c0 l5.toArray from p2) (by omega),.list_tuple p1.isList (show s.heap.IsTuple c0 l5.toArray from p2) (by omega)⟩
 | @zK n a c xs ys h1 h2=>
  obtain⟨g_,r1,p1,_⟩:=I.tuple h1
  obtain⟨l5,r2,p2,_⟩:=I.list h2
  exact⟨.tuple_list (show s.heap.IsTuple a0 g_.toArray from p1) p2.isList (by omega),.tuple_list (show s.heap.IsTuple a0 g_.toArray from p1) p2.isList (by omega)⟩
end
section
variable{X:Cx}
def XR(K:Qqy)(n:Nat):R2:=λx y H Q=>∃b,Qi x y/\mO K H n x y b/\Q (.bl b) H
def XS(K:Qqy)(n:Nat):R2:=λx y H Q=>∃b,Qi x y/\mO K H n x y b/\Q (.bl (!b)) H
theorem J9(n:Nat)(hu:X.A.units+n+1<cLine):xO X (compareOp .Eq) (XR X.K n):=by
 intro c_ s Z H x y u v Q I rx ry h
 obtain⟨b,sq,e,q⟩:=h
 exact(e.rc I sq rx ry hu).1 X.prog X.w X.xe _ ⟨.bl b,H,I,rfl,q⟩
theorem CH(n:Nat)(hu:X.A.units+n+1<cLine):xO X (compareOp .NotEq) (XS X.K n):=by
 intro c_ s Z H x y u v Q I rx ry h
 obtain⟨b,sq,e,q⟩:=h
 exact(e.rc I sq rx ry hu).2 X.prog X.w X.xe _ ⟨.bl (!b),H,I,rfl,q⟩
end
theorem mO.MV{K:Qqy}{H:Hp}{n:Nat}{Y:Type}[DecidableEq Y]{F:Y->V->Prop}(hF:∀p q u v,F p u->F q v->mO K H n u v (decide (p=q))){a c:Addr}{xs ys:List V}{ps qs:List Y}
  (h1:gN K H a xs) (h2:gN K H c ys) (r1:Paired F ps xs) (r2:Paired F qs ys):mO K H (n+1) (.ref a) (.ref c) (decide (ps=qs)):=by
 have l1:=r1.length
 have l2:=r2.length
 have UH:∀{ps:List Y} {xs:List V},Paired F ps xs->∀(j:Nat) u,xs[j]?=some u->∃p,ps[j]?=some p/\F p u:=by
  intro ps xs r
  induction r with
  | nil=>intro j u h;simp at h
  | cons f t ih=>
   intro j u h
   cases j with
   | zero=>simp at h;subst h;exact⟨_,rfl,f⟩
   | succ j=>simpa using ih j u (by simpa using h)
 by_cases hl:xs.length=ys.length
 ·have e:mO K H (n+1) (.ref a) (.ref c) ((List.range xs.length).all λj=>decide (ps[j]?=qs[j]?)):=.lists h1 h2 hl λj u v hu hv=>by
   obtain⟨p,ep,fp⟩:=UH r1 j u hu
   obtain⟨q,eq,fq⟩:=UH r2 j v hv
   have:=hF p q u v fp fq
   rw[ep,eq]
   have e:decide (some p=some q)=decide (p=q):=by simp
   rw[e]
   exact this
  have e2:((List.range xs.length).all λj=>decide (ps[j]?=qs[j]?))=decide (ps=qs):=by
   by_cases h:ps=qs
   ·subst h;simp
   ·rw[aaq h,ab3]
    intro z
    refine h (List.ext_getElem? λj=>?_)
    by_cases hj:j<xs.length
    ·simpa using abD.mp z j (abt.mpr hj)
    ·rw[List.getElem?_eq_none_iff.mpr (by omega),List.getElem?_eq_none_iff.mpr (by omega)]
  rw[<-e2]
  exact e
 ·rw[aaq λz=>hl (by rw[<-l1,<-l2,z])]
  exact .J6 h1 h2 hl
theorem mO.CI{K:Qqy}{H:Hp}{n:Nat}(p q:Str):mO K H n (.str p) (.str q) (decide (p=q)):=by
 have:Ir (.str p) (.str q)=decide (p=q):=(Bool.beq_eq_decide_eq p q)
 rw[<-this]
 exact .flat rfl rfl
theorem mO.J_{K:Qqy}{H:Hp}{n:Nat}(p q:Int):mO K H n (.int p) (.int q) (decide (p=q)):=by
 have:Ir (.int p) (.int q)=decide (p=q):=(Bool.beq_eq_decide_eq p q)
 rw[<-this]
 exact .flat rfl rfl
structure Tz(P:Program)(w:World)(outer:List Env)(H H':Hp)(s s':Shared)(e C:Addr):Prop where
 os:s'.os=s.os
 bare:AllBare s'.gens
 un:Un (ui outer) [] H H' s.heap s'.heap
 iK:rA P w H' s'.heap
 fl:∃B t,Heap.FlyingW B outer e (.ref C) (.ref t) s'.heap/\∀b o,s'.heap.get? b=some o->b∉ui outer->((∃u,H' b=some u)\/∃o',s.heap.get? b=some o')->B.get? b=some o
 new:s.heap.get? e=none
 free:H' e=none
def tU(P:Program)(w:World):Hm:=λouter H s E ev s'=>∃e C H',ev=.ref e/\Tz P w outer H H' s s' e C/\E (.ref C) none H'
theorem iZ.ex{P:Program}{w:World}{H:Hp}{h:Heap}{a:Addr}{o:HO}(x:iZ P w H h a o):∃ob,h.get? a=some ob:=by
 cases o with
 | lst xs=>obtain⟨_,_,_,_,e⟩:=x;exact⟨_,e⟩
 | tup xs=>obtain⟨_,_,_,o,e,_⟩:=x;exact⟨_,e⟩
 | dK kvs=>obtain⟨_,_,_,_,o,_,_,e,_⟩:=x;exact⟨_,e⟩
 | dT kvs=>obtain⟨_,_,_,_,o,_,_,e,_⟩:=x;exact⟨_,e⟩
 | set S n=>obtain⟨o,_,_,_,e,_⟩:=x;exact⟨_,e⟩
 | ins C dx fs=>obtain⟨_,_,_,e,_⟩:=x;exact⟨_,e⟩
 | own y=>obtain⟨_,e⟩:=x;exact⟨_,e⟩
 | xd fs=>obtain⟨_,⟨_,_,_,e,_⟩,_⟩:=x;exact⟨_,e⟩
 | V_ lo hi=>obtain⟨_,_,_,e⟩:=x;exact⟨_,e⟩
 | nj ob u=>obtain⟨e,_⟩:=x;exact⟨_,e⟩
 | Mm ps=>exact⟨_,(show h.get? a=some _ from x)⟩
 | met f y=>exact⟨_,(show h.get? a=some _ from x)⟩
 | ext Z=>obtain⟨_,⟨_,e⟩,_⟩:=x;exact⟨_,e⟩
section
variable{X:Cx}{c_:Qqz}{Z:St}{H H':Hp}{s s':Shared}{e C:Addr}{M:Model}{E:Qqq}
structure Bd(X:Cx):Prop where
 stack:X.stack=X.env::X.outer
 frame:X.env.frame=some X.env.locals
 ex:X.ex=[]
theorem Inv.MD(I:Inv X c_ Z H s){b:Addr}{o:Obj}(h:X.s₀.heap.get? b=some o)(nf:b∉X.fs):b∉ui X.stack:=λhb=>by
 rcases aah.mp (I.wA b hb) with z|z
 ·rw[z] at h
  exact absurd (aaS (aaK h) I.ok.above) (abv _)
 ·exact nf z
theorem Ka(I:Inv X c_ Z H s)(bd:Bd X)(un:Un (ui X.stack) [] H H' s.heap s'.heap)(hos:s'.os=s.os)(UI:AllBare s'.gens)(iK:rA X.prog X.w H' s'.heap){B Ro:Heap}{t:Addr}
  (hB:∀b o,s'.heap.get? b=some o->b∉ui X.stack->((∃u,H' b=some u)\/∃o',s.heap.get? b=some o')->B.get? b=some o)
  (hF:s'.heap.FunFrames B X.stack) (qh:Heap.FlyingW B X.outer e (.ref C) (.ref t) Ro) (up:s'.heap.UpToSlots Ro) (new:s.heap.get? e=none) (YD:H' e=none) :
  Tz X.prog X.w X.outer X.H₀ H' X.s₀ {s' with heap:=Ro} e C:=by
 have hex:=bd.ex
 have UJ:∀b∈ui X.stack,H' b=none:=λb hb=>by
  obtain⟨_,o,ho,_⟩:=I.stack.mem hb
  exact un.free b o ho (I.Cs b hb) (by simp)
 have O2:∀b u,H' b=some u->b∉ui X.stack:=λb u hu hb=>by rw[UJ b hb] at hu;cases hu
 have Cp:∀b o u,s'.heap.get? b=some o->H' b=some u->Ro.get? b=some o:=λb o u ho hu=>
  qh.1 b o (hB b o ho (O2 b u hu) (.inl ⟨u,hu⟩))
 have tL:∀b,b∉X.ex:=λb z=>by rw[hex] at z;cases z
 have outS:∀b,b∈ui X.outer->b∈ui X.stack:=λb hb=>by
  rw[bd.stack];unfold ui;rw[abE,bd.frame];exact aam _ hb
 refine⟨hos.trans I.os,UI,⟨λb o q n hb hx=>?_,λb o q n hb hx=>?_,λb o q n hx=>?_,λb o q hx=>?_,λb xs q=>un.qi b xs (I.base.qi b xs q),λb o u q=>un.uR b o u (I.base.uR b o u q),λb ps q=>?_⟩,λa u ha=>?_,⟨B,t,qh,λb o hb nb hc=>?_⟩,?_,YD⟩
 ·have q1:=I.base.keep b o q n hb (tL b)
  have nf:=I.MD q hb
  exact qh.1 b o (hB b o (un.keep b o q1 (I.base.free b o q n (tL b)) nf (by simp)) nf (.inr ⟨o,q1⟩))
 ·obtain⟨sl,q1⟩:=I.base.slot b o q n hb (tL b)
  obtain⟨Mo,q2⟩:=un.any q1 (I.base.free b o q n (tL b)) (by simp)
  obtain⟨_,o',qg,hd⟩:=I.ok.uS.mem hb
  rw[q] at qg;cases qg
  obtain⟨Ey,q3⟩:=up b _ q2 hd
  exact⟨Ey,q3⟩
 ·obtain⟨o',q1⟩:=I.base.there b o q (tL b)
  exact un.free b o' q1 (I.base.free b o q n (tL b)) (by simp)
 ·obtain⟨o1,q1⟩:=I.base.there b o q (tL b)
  obtain⟨o2,q2⟩:=un.there b o1 q1 (by simp)
  by_cases hb:b∈ui X.stack
  ·obtain⟨_,o',qg,hd⟩:=hF.mem hb
   rw[q2] at qg;cases qg
   obtain⟨Ey,q3⟩:=up b _ q2 hd
   exact⟨_,q3⟩
  ·exact⟨o2,qh.1 b o2 (hB b o2 q2 hb (.inr ⟨o1,q1⟩))⟩
 ·obtain⟨m1,e1⟩:=I.base.yN b ps q
  obtain⟨m2,e2⟩:=un.yN b _ e1
  exact⟨m1++m2,by rw[e2,Array.append_assoc]⟩
 ·refine(iK a u ha).zr (λb v hb q=>?_) (λ_ z=>z) λ_ _ z=>z
  rcases hb with z|z
  ·rw[z] at q ⊢;exact Cp a v u q ha
  ·exact Cp b v _ q z
 ·have all:∀o1,s'.heap.get? b=some o1->b∉ui X.stack->((∃u,H' b=some u)\/∃o',s.heap.get? b=some o')->B.get? b=some o:=λo1 q1 nf c=>by
   have z:=hB b o1 q1 nf c
   have z2:=qh.1 b o1 z
   have hb:Ro.get? b=some o:=hb
   rw[hb] at z2;cases z2
   exact z
  rcases hc with⟨u,hu⟩|⟨o',qg⟩
  ·obtain⟨o1,q1⟩:=(iK b u hu).ex
   exact all o1 q1 (O2 b u hu) (.inl ⟨u,hu⟩)
  ·obtain⟨o1,q1⟩:=I.base.there b o' qg (tL b)
   obtain⟨o2,q2⟩:=un.there b o1 q1 (by simp)
   exact all o2 q2 (I.MD qg nb) (.inr ⟨o1,q1⟩)
 ·cases q:X.s₀.heap.get? e with
  | none=>rfl
  | some o=>
   obtain⟨o1,q1⟩:=I.base.there e o q (tL e)
   rw[new] at q1;cases q1
theorem Kb(I:Inv X c_ Z H s)(bd:Bd X)(F:Tz X.prog X.w X.stack H H' s s' e C) :
  wpAny M X.A (leaving X.env (.ref e)) (λ_ Jq=>Tz X.prog X.w X.outer X.H₀ H' X.s₀ Jq e C) E s':=by
 obtain⟨B,t,fl,hB⟩:=F.fl
 have fl':=fl
 rw[bd.stack] at fl'
 refine wpAny_leaves_onW (by rw[I.ok.frames,bd.stack]) bd.frame fl' λRo qh up=>?_
 exact Ka I bd F.un F.os F.bare F.iK hB fl.2.2.1 qh up F.new F.free
theorem Gq{vs:List Value}{h':Heap}(I:Inv X c_ Z H s)(bd:Bd X)(hx:Heap.MadeExcOf s.heap h' e (.ref C) vs) :
  wpAny M X.A (leaving X.env (.ref e)) (λ_ Jq=>Tz X.prog X.w X.outer X.H₀ H X.s₀ Jq e C) E {s with heap:=h'}:=by
 have G3:∀env∈X.stack,∀b,env.frame=some b->b∈ui X.stack:=λenv he b hb=>abx.mpr ⟨env,he,hb⟩
 have hF:=W.funFrames_hide I.stack G3
 have YD:H e=none:=by
  cases q:H e with
  | none=>rfl
  | some u=>
   obtain⟨o,ho⟩:=(I.iK e u q).ex
   rw[hx.new] at ho;cases ho
 have un:Un (ui X.stack) [] H H s.heap h':=Un.kept hx.keeps
 have hB:∀b o,h'.get? b=some o->b∉ui X.stack->((∃u,H b=some u)\/∃o',s.heap.get? b=some o')->(W.hideAll s.heap (ui X.stack)).get? b=some o:=λb o hb nf c=>by
  have:∃o',s.heap.get? b=some o':=by
   rcases c with⟨u,hu⟩|c
   ·exact(I.iK b u hu).ex
   ·exact c
  obtain⟨o',qg⟩:=this
  have z:=hx.keeps b o' qg
  rw[hb] at z;cases z
  exact W.hideAll_get _ qg nf
 have hF2:h'.FunFrames (W.hideAll s.heap (ui X.stack)) X.stack:=hF.of_keeps λb o ho _=>⟨o,hx.keeps b o ho,rfl⟩
 refine wpAny_leaves_madeW (base:=W.hideAll s.heap (ui X.stack)) (h:=s.heap) (by rw[I.ok.frames,bd.stack]) bd.frame (λb o q=>W.of_hideAll _ q) (by rw[<-bd.stack];exact hF) hx λRo t qh tup nt up=>?_
 exact Ka (s':={s with heap:=h'}) I bd un rfl I.bare (I.iK.kept hx.keeps) hB hF2 qh up hx.new YD
structure Bx(X:Cx)(E:XK):Prop where
 bd:Bd X
 calm:X.calm=true
 xe:∀ev s',wpAny (model X.prog X.w) X.A (leaving X.env ev) (λ_ Jq=>tU X.prog X.w X.outer X.H₀ X.s₀ E ev Jq) (λe' Jq=>tU X.prog X.w X.outer X.H₀ X.s₀ E e' Jq) s'->X.xe ev s'
theorem bx{P:Program}{w:World}{K:Qqy}{mg:Qqx}{base:Heap}{N:List Str}{qual:Str}{scope:Scope}{f:Addr}{cd:Value}{A:Around}{outer:List Env}{s:Shared}{H:Hp}{E:XK} :
 Bx (wG (tU P w) P w K mg base N qual scope f cd A outer s H E) E:=⟨⟨rfl,rfl,rfl⟩,rfl,λ_ _ h=>h⟩
theorem OE{EX:XK}(b:Bx X EX):Passes (tU X.prog X.w) X EX:=λc_ Z H s ev s' I ⟨e,C,H',he,F,q⟩=>by
 subst he
 exact b.xe _ _ (i0 (Kb I b.bd F) λ_ Jq F'=>⟨e,C,H',rfl,F',q⟩)
theorem Kc{P:Program}{w:World}{K:Qqy}{mg:Qqx}{base:Heap}{N:List Str}{qual:Str}{scope:Scope}{f:Addr}{cd:Value}{A:Around}{outer:List Env}{s:Shared}{H:Hp}{E:XK} :
 PassesOwn (model P w) (wG (tU P w) P w K mg base N qual scope f cd A outer s H E).A (wG (tU P w) P w K mg base N qual scope f cd A outer s H E).env (wG (tU P w) P w K mg base N qual scope f cd A outer s H E).xe:=PassesOwn.leaving
structure Exc(K:Qqy)(mg:Qqx)(x:Str)(C:Addr):Prop where
 m:mg x=some (.ref C)
 q:W.excIn K C [.type "ValueError",.type "Exception",.type "BaseException",.type "object"] "ValueError.__new__"=true
def Qj(C:Addr)(EX:XK)(ta:TE):TS:=λ_ Z H=>ta Z H λ_ H1=>EX (.ref C) none H1
theorem MW{K:Qqy}{h:Heap}{C:Addr}{bmB:List Value}{newId:String}(X:K.In h)(q:W.excIn K C bmB newId=true):∃bm N nm q bs hdct sn sub ab col dd k0 k1 k2 k3 k5 mN,h.get? C=some (excClassObj nm q C N bs bm hdct sn sub ab col dd k0 k1 k2 k3 k5 newId)/\h.Ns N mN/\mN "__init__"=none/\OwnTail h bmB bm:=by
 unfold W.excIn at q
 split at q
 ·rename_i dd cd sl ho
  split at q
  ·rename_i C' bm k0 k1 k2 k3 n k5 hm hs
   simp only [abn,acp,Bool.not_eq_true'] at q
   obtain⟨⟨⟨⟨⟨rfl,rfl⟩,UK⟩,ht⟩,iK⟩,Ws⟩:=q
   obtain⟨nm,bs,mro,ns,qn,hd,sn,sub,ab,col,del⟩:=cd
   dsimp only at hm UK iK Ws
   subst hm UK
   have Wt:sl=#[k0,k1,k2,k3,some (.builtin n),k5]:=by
    obtain⟨l⟩:=sl
    simp only at hs
    rw[hs]
   subst Wt
   exact⟨bm,ns,nm,qn,bs,hd,sn,sub,ab,col,dd,k0,k1,k2,k3,k5,_,X _ _ ho,.of_isNs (W.isNs_of_in X iK),W.nsMap_none_of_in X iK Ws,W.tail_of_in X ht⟩
  ·cases q
 ·cases q
theorem ke{EX:XK}{x:Str}{a:Expr}{ta:TE}{np kW pos:Pos}(b:Bx X EX)(O:Exc X.K X.mg x C)(hg:Gl X x)(ha:PE X a ta)
  (G2:(x ==("__debug__":Str))=false:=by decide) (hs:starEach [a] X.env=[(false,eval a X.env)]:=by rfl):PS X (.Raise (some (.Call (.Name x np) [a] [] kW)) none pos) (Qj C EX ta):=by
 intro c_ s Z H D I h
 obtain⟨bm,N,nm,q,bs,hdct,sn,sub,ab,col,dd,k0,k1,k2,k3,k5,mN,hC,hN,Ws,T⟩:=MW I.ok.mod.R1 O.q
 refine wpAny_Raise_call_subT (C:=C) (nm:=nm) (q:=q) (N:=N) (bs:=bs) (bm:=bm) (hdct:=hdct) (sn:=sn) (sub:=sub) (ab:=ab) (col:=col) (dd:=dd) (k0:=k0) (k1:=k1) (k2:=k2) (k3:=k3) (k5:=k5)
  PySem.F.excBase_ValueError (mN:=mN) (T.hasType (by decide)) (I.ok.hd b.calm) (by rw[hs];rfl) Ws (uT I hg O.m ⟨rfl,?_⟩ G2)
 rw[hs]
 refine abL ?_
 refine aby (i0 (ha c_ s Z H _ I h) λu s1 iH=>?_)
 obtain⟨y,H1,I1,r1,q1⟩:=iH
 refine abO ?_
 have hk:=I1.bk
 refine⟨rfl,by show 1<=sizeLine;decide,hk _ _ hC,hN.keeps hk,T.keeps hk,λh' e hm=>?_⟩
 exact b.xe _ _ (i0 (Gq I1 b.bd hm) λ_ Jq F=>⟨e,C,H1,rfl,F,q1⟩)
end
section
variable{P:Program}{w:World}{K:Qqy}{mg:Qqx}{base:Heap}
theorem xU.ok1{x qual:Str}{st:Stmt}{f:Addr}{fd:FuncData}{N ps:List Str}{k:Nat}{sp:Sp}(F:xU K x qual st f fd)(S:gH N ps (gp st))(len:∀vs H Q E,sp vs H Q E->vs.length=ps.length)
  (wo:∀(jt:Value)(A:Around)(outer:List Env)(s:Shared)(H:Hp)(vs:List V)(Q:VK)(E:XK),kC k (A.deeper (envOfC qual (gp st) s.heap.objs.size f jt))->sp vs H Q E->
   ∃t,FO (wG (tU P w) P w K mg base N qual (gp st) f jt A outer s H E) (k_ st) t/\t {nx:=λ_ H'=>Q .jb H',rt:=Q} (start N vs) H):ie P w K mg base (tU P w) (k+1) f fd ps sp:=by
 obtain⟨oc,od,kV,doc,pm,an,jt,ct,JB,rfl,lk,Co⟩:=F.ex
 exact OA lk Co S len λA outer s H vs Q E hr Mq=>wo jt A outer s H vs Q E hr Mq
theorem ie.FQ{k:Nat}{f:Addr}{fd:FuncData}{ps:List Str}{sp:Sp}(F:ie P w K mg base (tU P w) k f fd ps sp):ie P w K mg base mL k f fd ps (λvs H Q _=>sp vs H Q E0):=
 ⟨λvs H Q E h=>F.len vs H Q E0 h,λA outer s H args us vs Q E hr e0 hb hv hs=>codeAny_mono (F.run A outer s H args us vs Q E0 hr e0 hb hv hs) λr s' h=>by
  cases r with
  | error e=>obtain⟨_,_,_,_,_,z⟩:=h;exact z
  | ok fl=>cases fl<;>exact h⟩
end
section
variable{X:Cx}
def PF(X:Cx)(k:Nat)(es:List Expr)(t:TE):Prop:=
 ∀(acc:Str)(c_:Qqz)(s:Shared)(Z:St)(H:Hp)(Q:VK),acc.length<=k*1048576->Inv X c_ Z H s->t Z H Q->wpAny (model X.prog X.w) X.A (joinParts acc (evalEach es X.env)) (EP X c_ Z Q) X.xe s
def tFn:TE:=λ_ H Q=>∀x,Q (.str x) H
def tFc(te t:TE):TE:=λZ H Q=>te Z H λv H1=>∃y,v=.str y/\y.length<=1048576/\t Z H1 Q
theorem nO{k:Nat}(hk:k<=8:=by decide):PF X k [] tFn:=λacc c_ s Z H Q hl I h=>
 joinParts_nil (hsz:=by have:sizeLine=16777216:=rfl;omega) ⟨.str acc,H,I.tok _,⟨_,rfl⟩,h acc⟩
theorem ip{k:Nat}{e:Expr}{es:List Expr}{te t:TE}(he:PE X e te)(hr:PF X (k+1) es t)(hk:k<=7:=by decide)(hs:evalEach (e::es) X.env=eval e X.env::evalEach es X.env:=by rfl):PF X k (e::es) (tFc te t):=by
 intro acc c_ s Z H Q hl I h
 rw[hs]
 refine joinParts_cons (i0 (he c_ s Z H _ I h) λu s1 iH=>?_)
 obtain⟨v,H1,I1,r1,y,ev,hy,q⟩:=iH
 subst ev
 obtain⟨t',rfl⟩:=r1
 have e1:(acc++y).length=acc.length+y.length:=strLen_append ..
 exact⟨by rw[e1];have:sizeLine=16777216:=rfl;omega,hr (acc++y) c_ s1 Z H1 Q (by rw[e1];omega) I1 q⟩
theorem lO{e1 e2:Expr}{es:List Expr}{t:TE}{pos:Pos}(h:PF X 0 (e1::e2::es) t):PE X (.JoinedStr (e1::e2::es) pos) t:=λc_ s Z H Q I hq=>by
 rw[arm_eval_JoinedStr]
 exact h Str.empty c_ s Z H Q (by decide) I hq
def tFr(te:TE):TE:=λZ H Q=>te Z H λv H1=>∃x,v=.str x/\(reprText x).length<=1048576/\Q (.str (reprText x)) H1
theorem mR{e:Expr}{te:TE}{pos:Pos}(he:PE X e te):PE X (.FormattedValue e 114 none pos) (tFr te):=by
 intro c_ s Z H Q I h
 refine wpAny_FormattedValue_repr (i0 (he c_ s Z H _ I h) λu s1 iH=>?_)
 obtain⟨v,H1,I1,r1,x,ev,hy,q⟩:=iH
 subst ev
 obtain⟨t',rfl⟩:=r1
 have hz:(reprText x).length<=sizeLine:=aan hy (by decide)
 refine wpAny_pyReprObj_str (hsz:=hz) ?_
 exact formatField_str (λt'' tk=>⟨.str (reprText x),H1,I1.tok _,⟨_,rfl⟩,q⟩) hz
end
section
variable{X:Cx}{c_:Qqz}{Z:St}{H:Hp}{s:Shared}{tg:Expr}
def zL(X:Cx)(d:Addr):Prop:=∀o u,X.H₀ d≠some (.nj o u)
theorem Kd{u:HO}(mu:Ou (some u)):(∀xs,u≠.tup xs)/\(∀o v,u≠.nj o v)/\(∀ps,u≠.Mm ps)/\∀x,u≠.own x:=by
 cases u<;>first|exact False.elim mu|exact⟨(λ_ z=>nomatch z),(λ_ _ z=>nomatch z),(λ_ z=>nomatch z),(λ_ z=>nomatch z)⟩
theorem Inv.Qk{d:Addr}{u:HO}(I:Inv X c_ Z H s)(hd:H d=some u)(mu:Ou (some u)):zL X d:=λo v z=>by
 have:=I.base.uR d o v z
 rw[hd] at this
 exact(Kd mu).2.1 o v (aaF this)
theorem Inv.Ke{d:Addr}{u v:HO}(I:Inv X c_ Z H s)(hd:H d=some u)(nt:∀xs,u≠.tup xs)(nb:∀ps,u≠.Mm ps)(no:∀x,u≠.own x)(nf:zL X d)(new:iZ X.prog X.w (upd H d v) s.heap d v):Inv X c_ Z (upd H d v) s:=by
 have ne:∀b,H b=none->b≠d:=λb e z=>by rw[z,hd] at e;cases e
 refine⟨I.ok,I.os,I.bare,⟨I.base.keep,I.base.slot,λb o q n hx=>by rw[d_ (ne b (I.base.free b o q n hx))];exact I.base.free b o q n hx,I.base.there,λb xs q=>?_,λb o w q=>?_,λb ps q=>?_⟩,I.loc,I.cell,by rw[d_ (ne _ I.free)];exact I.free,λx c e=>by rw[d_ (ne _ (I.pA x c e))];exact I.pA x c e,λp hp=>?_,λb o e=>?_,I.len⟩
 ·have z:=I.base.qi b xs q
  have:b≠d:=λy=>by rw[y,hd] at z;exact nt xs (aaF z)
  rw[d_ this];exact z
 ·have z:=I.base.uR b o w q
  have:b≠d:=λy=>by rw[y] at q;exact nf o w q
  rw[d_ this];exact z
 ·obtain⟨m,z⟩:=I.base.yN b ps q
  have:b≠d:=λy=>by rw[y,hd] at z;exact nb _ (aaF z)
  exact⟨m,by rw[d_ this];exact z⟩
 ·obtain⟨e1,e2,e3⟩:=I.pin p hp
  exact⟨e1,by rw[d_ (ne _ e2)];exact e2,e3⟩
 ·by_cases hb:b=d
  ·subst hb;rw[b_] at e;cases e;exact new
  ·rw[d_ hb] at e
   refine(I.iK b o e).zr (λ_ _ _ q=>q) (λc q=>?_) λc xs q=>?_
   ·have:c≠d:=λy=>by rw[y,hd] at q;exact no _ (aaF q)
    rw[d_ this];exact q
   ·have:c≠d:=λy=>by rw[y,hd] at q;exact nt _ (aaF q)
    rw[d_ this];exact q
theorem Inv.frozen{d:Addr}{u:HO}(I:Inv X c_ Z H s)(hd:H d=some u)(mu:Ou (some u)):∃o,s.heap.get? d=some o/\Inv X c_ Z (upd H d (.nj o u)) s:=by
 obtain⟨o,ho⟩:=(I.iK d u hd).ex
 obtain⟨m1,m2,m3,m4⟩:=Kd mu
 refine⟨o,ho,I.Ke hd m1 m3 m4 (I.Qk hd mu) ⟨ho,?_⟩⟩
 refine(I.iK d u hd).zr (λ_ _ _ q=>q) (λc q=>?_) λc xs q=>?_
 ·have:c≠d:=λy=>by rw[y,hd] at q;exact m4 _ (aaF q)
  rw[d_ this];exact q
 ·have:c≠d:=λy=>by rw[y,hd] at q;exact m1 _ (aaF q)
  rw[d_ this];exact q
theorem Inv.wQ{d:Addr}{o:Obj}{u:HO}(I:Inv X c_ Z H s)(hd:H d=some (.nj o u))(nf:zL X d):Inv X c_ Z (upd H d u) s:=by
 refine I.Ke hd (λ_ z=>by cases z) (λ_ z=>by cases z) (λ_ z=>by cases z) nf ?_
 obtain⟨_,q⟩:=(show iZ X.prog X.w H s.heap d (.nj o u) from I.iK d _ hd)
 refine q.zr (λ_ _ _ q=>q) (λc q=>?_) λc xs q=>?_
 ·have:c≠d:=λy=>by rw[y,hd] at q;cases q
  rw[d_ this];exact q
 ·have:c≠d:=λy=>by rw[y,hd] at q;cases q
  rw[d_ this];exact q
def TB(X:Cx)(t:TE):TE:=λZ H Q=>t Z H λv H2=>∃d o u,H2 d=some (.nj o u)/\zL X d/\Q v (upd H2 d u)
theorem Ht{e:Expr}{t:TE}(h:PE X e t):PE X e (TB X t):=λc_ s Z H Q I hq=>
 i0 (h c_ s Z H _ I hq) λv s' ⟨x,H',I',r,d,o,u,hd,nf,q⟩=>⟨x,_,I'.wQ hd nf,r,q⟩
def Ends.XU(X:Cx)(D:Ends):Ends where
 nx:=λZ H2=>∃d o u,H2 d=some (.nj o u)/\zL X d/\D.nx Z (upd H2 d u)
 rt:=λv H2=>∃d o u,H2 d=some (.nj o u)/\zL X d/\D.rt v (upd H2 d u)
 bk:=λZ H2=>∃d o u,H2 d=some (.nj o u)/\zL X d/\D.bk Z (upd H2 d u)
 ct:=λZ H2=>∃d o u,H2 d=some (.nj o u)/\zL X d/\D.ct Z (upd H2 d u)
theorem zb{st:Stmt}{t:TS}(h:PS X st t):PS X st (λD Z H=>t (D.XU X) Z H):=λc_ s Z H D I hq=>i0 (h c_ s Z H _ I hq) λf s' q=>by
 cases f with
 | next=>obtain⟨Z',H',I',d,o,u,hd,nf,q⟩:=q;exact⟨Z',_,I'.wQ hd nf,q⟩
 | brk=>obtain⟨Z',H',I',d,o,u,hd,nf,q⟩:=q;exact⟨Z',_,I'.wQ hd nf,q⟩
 | cont=>obtain⟨Z',H',I',d,o,u,hd,nf,q⟩:=q;exact⟨Z',_,I'.wQ hd nf,q⟩
 | ret v=>obtain⟨x,Z',H',I',r,d,o,u,hd,nf,q⟩:=q;exact⟨x,Z',_,I'.wQ hd nf,r,q⟩
theorem CJ{H:Hp}{d p:Addr}{u f o:HO}(hd:H d=some u)(hp:p≠d):upd (upd (upd H d f) p o) d u=upd H p o:=by
 funext b
 by_cases h1:b=d
 ·subst h1;rw[b_,d_ (ab1 hp),hd]
 ·rw[d_ h1]
  by_cases h2:b=p
  ·subst h2;rw[b_,b_]
  ·rw[d_ h2,d_ h2,d_ h1]
theorem wR{H:Hp}{d:Addr}{u f:HO}(hd:H d=some u):upd (upd H d f) d u=H:=by
 rw[Mz]
 funext b
 by_cases h1:b=d
 ·subst h1;rw[b_,hd]
 ·rw[d_ h1]
noncomputable def R7(d:Addr)(o:Obj)(kvs:List (Key×V)):It:=
 ⟨λi H=>H d=some (.nj o (.dK kvs))/\i<kvs.length,λi H x H'=>H'=H/\∃k v,kvs[i]?=some (k,v)/\x=kV k,λi H=>H d=some (.nj o (.dK kvs))/\kvs.length<=i⟩
theorem MX{P:Program}{w:World}{k:Key}{u:Value}(h:(jc P w).is k u=true):RelV (kV k) u:=by
 rcases jn (show zq k u=true from h) with⟨i,t,rfl,rfl⟩|⟨x,t,rfl,rfl⟩
 ·exact⟨t,rfl⟩
 ·exact⟨t,rfl⟩
theorem Kf{P:Program}{w:World}{h:Heap}{d:Addr}{o:Obj}{kvs:List (Key×V)}{es:Array DictEntry}{ep:Nat}(hd:o.data=.dict es ep)(q:iZ P w H h d (.nj o (.dK kvs))):(d ==sysModules)=false/\kvs.length<=sizeLine/\∃vs,KV kvs vs/\h.DictAt (jc P w) d vs ep:=by
 obtain⟨ho,hz,hs,vs,kv,o',Sg,OV,qg,h1,h2,h3⟩:=q
 rw[ho] at qg;cases qg
 rw[hd] at h2;cases h2
 exact⟨hs,hz,vs,kv,o,es,ho,h1,hd,h3⟩
theorem KV.at{Z:Type}{kvs:List (Z×V)}{vs:List (Z×Value)}(r:KV kvs vs):∀{i:Nat} {k:Z} {u:Value},vs[i]?=some (k,u)->∃v,kvs[i]?=some (k,v)/\RelV v u:=by
 induction r with
 | nil=>intro i k u e;simp at e
 | cons f t ih=>
  intro i k u e
  cases i with
  | zero=>
   simp at e
   subst e
   exact⟨_,abe some (Prod.ext f.1 rfl),f.2⟩
  | succ i=>
   obtain⟨v,h1,h2⟩:=ih (by simpa using e)
   exact⟨v,by simpa using h1,h2⟩
theorem IC{P:Program}{w:World}{K:Qqy}(d it:Addr)(o:Obj)(es:Array DictEntry)(ep:Nat)(kvs:List (Key×V))(LR:o.data=.dict es ep):Turn P w K tg (R7 d o kvs) [it] it (λi h=>h.IsKeyIter it d i kvs.length ep) where
 mem:=by simp
 obj:=λi h st b hb=>by
  have e:b=it:=by simpa using hb
  subst e
  obtain⟨o,e,c,d⟩:=st
  exact⟨o,e,λv z=>by rw[d] at z;cases z⟩
 keep:=λi h h' st k=>st.at λo e=>k it (by simp) o e
 item:=by
  intro X hP hw hK hc i c_ s Z H E I hf st hg
  subst hP hw hK
  obtain⟨hd,hi⟩:=hg
  obtain⟨_,_,vs,kv,da⟩:=Kf LR (I.iK d _ hd)
  have hl:kvs.length=vs.length:=kv.length
  have Bz:i<vs.length:=by omega
  obtain⟨⟨k,u⟩,hx⟩:∃p,vs[i]?=some p:=⟨vs[i],by simp[Bz]⟩
  obtain⟨v,hv,_⟩:=kv.at hx
  obtain⟨f0,f1,f2,f3,f4,f5⟩:=hf it (by simp)
  rw[hl] at st
  refine wpAny_pyNext_dict_item st da hx λkey h' Rg yK sb=>?_
  have I1:Inv X c_ Z H {s with heap:=h'}:=I.turned (t':=s.toks) (λb o hb e=>(sb.2 b hb).trans e) f0 f1 f3 f4 f5
  obtain⟨o',e,c,dd⟩:=id yK
  exact⟨key,rfl,zu (s:={s with heap:=h'}) e c dd (by decide) ⟨kV k,H,I1,MX Rg,⟨rfl,k,v,hv,rfl⟩,by rw[hl];exact yK,λb hb=>(hf b hb).1⟩⟩
 done:=by
  intro X hP hw hK hc i c_ s Z H E I hf st hg
  subst hP hw hK
  obtain⟨hd,hi⟩:=hg
  obtain⟨_,_,vs,kv,da⟩:=Kf LR (I.iK d _ hd)
  have hl:kvs.length=vs.length:=kv.length
  obtain⟨f0,f1,f2,f3,f4,f5⟩:=hf it (by simp)
  rw[hl] at st
  exact wpAny_pyNext_dict_end (I.ok.hd hc) st da (by simp;omega) λh' eb=>⟨rfl,I.turned (t':=s.toks) (λb o hb e=>eb b o hb e) f0 f1 f3 f4 f5⟩
 self:=λ_ _ _ _ _ st h=>wpAny_pyIter_keyiter st h
def TC(X:Cx)(td:TE):TI:=λZ H R=>td Z H λx H1=>∃d kvs,x=.ref d/\H1 d=some (.dK kvs)/\∀o,zL X d->R (R7 d o kvs) (upd H1 d (.nj o (.dK kvs)))
theorem CK{l:Expr}{td:TE}(hl:PE X l td):PI X tg l (TC X td):=by
 intro c_ s Z H R I h
 refine i0 (hl c_ s Z H _ I h) λv s1 iH=>?_
 obtain⟨x,H1,I1,r1,q1⟩:=iH
 obtain⟨d,kvs,e,hd,q⟩:=q1
 subst e
 cases r1
 have nf:=I1.Qk hd True.intro
 obtain⟨o,ho,I2⟩:=I1.frozen hd True.intro
 obtain⟨_,hs,vs,kv,o',es,ep,qg,h1,h2,h3⟩:=(show iZ X.prog X.w H1 s1.heap d (.dK kvs) from I1.iK d _ hd)
 rw[ho] at qg;cases qg
 refine wpAny_pyIter_dict (kvs:=vs) (ep:=ep) hs ⟨o,es,ho,h1,h2,h3⟩ ?_
 refine⟨s1.heap.objs.size,[s1.heap.objs.size],_,_,_,rfl,I2.kept (t':=s1.toks) λb o e=>aaC _ e,IC d _ o es ep kvs h2,⟨_,aaO _ rfl,rfl,by rw[kv.length];rfl⟩,λb hb=>?_,q o nf⟩
 have e:b=s1.heap.objs.size:=by simpa using hb
 subst e
 exact I2.zt (XW _) (I2.iK.fresh (XW _))
theorem Kg{d:Addr}{o:Obj}{kvs:List (Key×V)}{g:TG}{tb:TS}{D:Ends}{Z:St}{H:Hp}(Pv:Nat->St->Hp->Prop)(h0:Pv 0 Z H)(hl:∀i Z H,Pv i Z H->H d=some (.nj o (.dK kvs)))
  (hs:∀i k v Z H,kvs[i]?=some (k,v)->Pv i Z H->g (kV k) Z H λZ2 H2=>tb {D with nx:=Pv (i+1),ct:=Pv (i+1),bk:=D.nx} Z2 H2) (hd:∀Z H,Pv kvs.length Z H->D.nx Z H) :
  ∃W:Nat->Nat->St->Hp->Prop,(∃m,W 0 m Z H)/\∀i m Z H,W i m Z H->
   ((R7 d o kvs).stop i H/\D.nx Z H)\/((R7 d o kvs).go i H/\∃N:St->Hp->Prop,(∀Z' H',N Z' H'->∃m',m'<m/\W (i+1) m' Z' H')/\∀x H',(R7 d o kvs).JK i H x H'->g x Z H' λZ2 H2=>tb {D with nx:=N,ct:=N,bk:=D.nx} Z2 H2):=by
 refine⟨λi m Z H=>m=kvs.length-i/\i<=kvs.length/\Pv i Z H,⟨kvs.length,by simp,aaZ _,h0⟩,?_⟩
 rintro i m Z H ⟨rfl,hi,p⟩
 have q:=hl i Z H p
 by_cases j2:i<kvs.length
 ·refine .inr ⟨⟨q,j2⟩,Pv (i+1),λZ' H' p'=>⟨kvs.length-(i+1),by omega,rfl,j2,p'⟩,λx H' y=>?_⟩
  obtain⟨e,k,v,y,rfl⟩:=y
  subst e
  exact hs i k v Z _ y p
 ·have e:i=kvs.length:=by omega
  subst e
  exact .inl ⟨⟨q,XW _⟩,hd Z H p⟩
theorem Hu{d:Addr}{o:Obj}{kvs:List (Key×V)}{g:TG}{tt:TT}{te:TE}{Q:List V->Hp->Prop}{Z:St}{H:Hp}(hn:kvs.length<=sizeLine)(Pv:Nat->List V->St->Hp->Prop)(h0:Pv 0 [] Z H)(hl:∀i ys Z H,Pv i ys Z H->H d=some (.nj o (.dK kvs))/\ys.length<=i)
  (hs:∀i k v ys Z H,kvs[i]?=some (k,v)->Pv i ys Z H->g (kV k) Z H λZ2 H2=>tt Z2 H2 λb H3=>if b=true then te Z2 H3 λv H4=>Pv (i+1) (ys++[v]) Z2 H4 else Pv (i+1) ys Z2 H3)
  (hd:∀ys Z H,Pv kvs.length ys Z H->Q ys H):IB g tt te (R7 d o kvs) Q Z H:=by
 refine⟨λi m ys Z H=>m=kvs.length-i/\i<=kvs.length/\Pv i ys Z H,⟨kvs.length,by simp,aaZ _,h0⟩,?_⟩
 rintro i m ys Z H ⟨rfl,hi,p⟩
 obtain⟨q,hy⟩:=hl i ys Z H p
 by_cases j2:i<kvs.length
 ·refine .inr ⟨⟨q,j2⟩,by omega,Pv (i+1),λSk Z' H' p'=>⟨kvs.length-(i+1),by omega,rfl,j2,p'⟩,λx H' y=>?_⟩
  obtain⟨e,k,v,y,rfl⟩:=y
  subst e
  exact hs i k v ys Z _ y p
 ·have e:i=kvs.length:=by omega
  subst e
  exact .inl ⟨⟨q,XW _⟩,by omega,hd ys Z H p⟩
theorem pG{Z Y:Type}{F:Z->Y->Prop}:∀{xs:List Z} {ys:List Y},xs.length=ys.length->(∀(i:Nat) a b,xs[i]?=some a->ys[i]?=some b->F a b)->Paired F xs ys
 | [],[],_,_=>.nil
 | [],_::_,e,_=>by simp at e
 | _::_,[],e,_=>by simp at e
 | x::xs,y::ys,e,h=>.cons (h 0 x y rfl rfl) (pG (by simpa using e) λi a b ha hb=>h (i+1) a b (by simpa using ha) (by simpa using hb))
end
section
variable{X:Cx}{CX:Hm}{k:Nat}{f C:Addr}{fd:FuncData}{ps:List Str}{sp:Sp}{zo:List V}{ds:List Value}{E:XK}{x m:Str}{p pos apos:Pos}{e o:Expr}{es:List Expr}{ta:TE}{t:TA}{Z₀:St}
end
section
variable{X:Cx}{c_ pn:Qqz}{Z:St}{H:Hp}{s:Shared}{E:Qqq}{e:Addr}
end
section
variable{X:Cx}{c_:Qqz}{Z:St}{H:Hp}{s:Shared}{M:Model}{A:Around}{E:Qqq}
end
section
variable{P:Program}{w:World}{K:Qqy}{mg:Qqx}{base:Heap}
end
section
variable{X:Cx}{k:Nat}{f:Addr}{fd:FuncData}{ps:List Str}{sp:Sp}{x:Str}{p pos:Pos}{e:Expr}{es:List Expr}{t:TA}
end
open PySem PySem.Spec PyProof.Rows PySem.W PySem.Builtin PySem.Builtin.ObjectAttr PySem.Builtin.Getset_descriptor
section
variable{K:Qqy}{e C:Addr}{prog:Program}{w:World}{A:Around}{E:Qqq}{h:Heap}{g:Array GenState}{d:Drawn}{t:Nat}{os:OsState}
end
theorem jL{xs:List V}(h:xs.length<=15:=by simp):xs.length<=sizeLine:=aan h (by decide)
theorem gG{Z:Type}{xs:List Z}{i:Int}{j:Nat}{v:Z}(e:i=(j:Int))(h:xs[j]?=some v):Gg xs i=some v:=by subst e;exact MJ h
theorem wU{n:Nat}{i:Int}{j:Nat}(e:i=(j:Int))(h:j<n):JR n i=some j:=by
 subst e
 unfold JR
 rw[aay (by omega),aay (by omega)]
 simp
theorem gv.upd{H H':Hp}{p:Addr}{o:HO}(s:gv H H')(h:H p=none):gv H (L2.upd H' p o):=λb u e=>by rw[d_ (gr e h)];exact s b u e
theorem gv.new{H H':Hp}{p:Addr}{o:HO}(s:gv H H')(h:H' p=none):gv H (L2.upd H' p o):=s.upd (s.free h)
def XX(t:TS):TS:=λD Z H=>∃J:St->Hp->Prop,t {D with nx:=J} Z H/\∀Z' H',J Z' H'->D.nx Z' H'
theorem SP.nx{X:Cx}{c_:Qqz}{D:Ends}{J:St->Hp->Prop}{f:Flow}{s:Shared}(hJ:∀Z' H',J Z' H'->D.nx Z' H')(h:SP X c_ {D with nx:=J} f s):SP X c_ D f s:=by
 cases f with
 | next=>obtain⟨Z,H,I,q⟩:=h;exact⟨Z,H,I,hJ _ _ q⟩
 | brk=>exact h
 | cont=>exact h
 | ret u=>exact h
theorem ql{X:Cx}{st:Stmt}{t:TS}(h:PS X st t):PS X st (XX t):=λc_ s Z H D I ⟨J,h1,h2⟩=>i0 (h c_ s Z H _ I h1) λf s' q=>SP.nx h2 q
theorem rK{Z:Type}{xs:List Z}{i:Int}(h0:0<=i)(h:i<(xs.length:Int)):∃v,Gg xs i=some v/\xs[i.toNat]?=some v:=by
 have hi:i.toNat<xs.length:=by omega
 exact⟨xs[i.toNat],gG (j:=i.toNat) (by omega) (UR hi),UR hi⟩
theorem Kh{b:Bool}{A B:Prop}(e:b=false)(h:B):if b=true then A else B:=by subst e;exact jf h
theorem Ki{b:Bool}{A B:Prop}(e:b=true)(h:A):if b=true then A else B:=by subst e;exact lL h
theorem mod_lt(a b:Int)(h:0<b):0<=a%b/\a%b<b:=⟨Int.emod_nonneg a (by omega),Int.emod_lt_of_pos a h⟩
abbrev gw(l:List Str):List V:=l.map V.str
theorem iY(xs:List Str)(x:Str):gw xs++[V.str x]=gw (xs++[x]):=by unfold gw;rw[aaH];rfl
theorem nP(x y:List Str):gw x++gw y=gw (x++y):=by unfold gw;rw[aaH]
theorem j3{l:List Str}{j:Nat}{x:Str}(h:l[j]?=some x):(gw l)[j]?=some (V.str x):=by rw[aao,h];rfl
theorem lP{l:List Str}{j:Nat}{v:V}(h:(gw l)[j]?=some v):∃x,l[j]?=some x/\v=V.str x:=by
 rw[aao] at h
 cases e:l[j]? with
 | none=>rw[e] at h;cases h
 | some x=>rw[e] at h;cases h;exact⟨x,rfl,rfl⟩
theorem OF{A:Around}{k:Nat}(hr:kC k A){n:Nat}(h:n<=60:=by decide):A.units+n+1<cLine:=by have:=hr.units;omega
theorem hX{H:Hp}{a q:Addr}{o u:HO}(hq:H q=none)(h:H a=some o):upd H q u a=some o:=by rw[d_ (gr h hq)];exact h
theorem Mo{t0 t1:TS}{D:Ends}{Z:St}{H:Hp}(h:let v1:=t1;ix t0 v1 D Z H):ix t0 t1 D Z H:=h
theorem Ey{t0 t1 t2:TS}{D:Ends}{Z:St}{H:Hp}(h:let v2:=t2;let v1:=ix t1 v2;ix t0 v1 D Z H):ix t0 (ix t1 t2) D Z H:=h
theorem OG{t0 t1 t2 t3:TS}{D:Ends}{Z:St}{H:Hp}(h:let v3:=t3;let v2:=ix t2 v3;let v1:=ix t1 v2;ix t0 v1 D Z H):ix t0 (ix t1 (ix t2 t3)) D Z H:=h
theorem OH{t0 t1 t2 t3 t4:TS}{D:Ends}{Z:St}{H:Hp}(h:let v4:=t4;let v3:=ix t3 v4;let v2:=ix t2 v3;let v1:=ix t1 v2;ix t0 v1 D Z H):ix t0 (ix t1 (ix t2 (ix t3 t4))) D Z H:=h
theorem R8{t0 t1 t2 t3 t4 t5:TS}{D:Ends}{Z:St}{H:Hp}(h:let v5:=t5;let v4:=ix t4 v5;let v3:=ix t3 v4;let v2:=ix t2 v3;let v1:=ix t1 v2;ix t0 v1 D Z H):ix t0 (ix t1 (ix t2 (ix t3 (ix t4 t5)))) D Z H:=h
theorem sl7{t0 t1 t2 t3 t4 t5 t6:TS}{D:Ends}{Z:St}{H:Hp}(h:let v6:=t6;let v5:=ix t5 v6;let v4:=ix t4 v5;let v3:=ix t3 v4;let v2:=ix t2 v3;let v1:=ix t1 v2;ix t0 v1 D Z H):ix t0 (ix t1 (ix t2 (ix t3 (ix t4 (ix t5 t6))))) D Z H:=h
theorem sl8{t0 t1 t2 t3 t4 t5 t6 t7:TS}{D:Ends}{Z:St}{H:Hp}(h:let v7:=t7;let v6:=ix t6 v7;let v5:=ix t5 v6;let v4:=ix t4 v5;let v3:=ix t3 v4;let v2:=ix t2 v3;let v1:=ix t1 v2;ix t0 v1 D Z H):ix t0 (ix t1 (ix t2 (ix t3 (ix t4 (ix t5 (ix t6 t7)))))) D Z H:=h
theorem sl9{t0 t1 t2 t3 t4 t5 t6 t7 t8:TS}{D:Ends}{Z:St}{H:Hp}(h:let v8:=t8;let v7:=ix t7 v8;let v6:=ix t6 v7;let v5:=ix t5 v6;let v4:=ix t4 v5;let v3:=ix t3 v4;let v2:=ix t2 v3;let v1:=ix t1 v2;ix t0 v1 D Z H):ix t0 (ix t1 (ix t2 (ix t3 (ix t4 (ix t5 (ix t6 (ix t7 t8))))))) D Z H:=h
theorem JA{w:TI}{g:TG}{b u:TS}{D:Ends}{Z:St}{H:Hp}(h:let v:=b;ix (PX w g v) u D Z H):ix (PX w g b) u D Z H:=h
abbrev rr(a:Addr):Option V:=some (.ref a)
abbrev rs(x:Str):Option V:=some (.str x)
abbrev ri(i:Int):Option V:=some (.int i)
section
variable{X:Cx}{tg:Expr}
def R9(x:Str):It:=⟨λi _=>i<x.length,λi H v H'=>H'=H/\∃c,x.cps[i]?=some c/\v=.str ⟨#[c]⟩,λi _=>i=x.length⟩
theorem BS{P:Program}{w:World}{K:PySem.W.Frag}(it:Addr)(ty:String)(x:Str)(t:Tok)(Ux:["enumerate","zip","dict_itemiterator","dict_reverseitemiterator","odict_iterator","itertools.zip_longest","itertools.pairwise"].contains ty=false)
  (W:∀A:Around,A.handled=none->Walks P w A it [it] [it] x.cps.size (SignAt x) (λi h=>h.IsStrIter it ty x t i))
  (self:∀(A:Around)(i:Nat)(s:Shared)(Q:Qqq)(E:Qqq),s.heap.IsStrIter it ty x t i->Q (.ref it) s->wpAny (model P w) A (pyIter (.ref it)) Q E s):Turn P w K tg (R9 x) [it] it (λi h=>h.IsStrIter it ty x t i) where
 mem:=by simp
 obj:=λi h st b hb=>by
  have e:b=it:=by simpa using hb
  subst e
  obtain⟨o,e,c,d⟩:=st
  exact⟨o,e,λv z=>by rw[d] at z;cases z⟩
 keep:=λi h h' ⟨o,ho,r⟩ k=>⟨o,k it (by simp) o ho,r⟩
 item:=by
  intro X hP hw hK hc i c_ s Z H E I hf st hg
  subst hP hw hK
  obtain⟨f0,f1,f2,f3,f4,f5⟩:=hf it (by simp)
  refine(W X.A (I.ok.hd hc)).item i s _ _ hg st λv h' tk hv yK kk=>?_
  obtain⟨c,t',Bv,rfl⟩:=hv
  have I1:Inv X c_ Z H {s with heap:=h',toks:=tk}:=I.turned (λb o hb e=>kk b o (by simpa using hb) e) f0 f1 f3 f4 f5
  obtain⟨o',e,cc,dd⟩:=id yK
  exact⟨_,rfl,zu (s:={s with heap:=h',toks:=tk}) e cc dd Ux ⟨.str ⟨#[c]⟩,H,I1,⟨t',rfl⟩,⟨rfl,c,Bv,rfl⟩,yK,λb hb=>(hf b hb).1⟩⟩
 done:=by
  intro X hP hw hK hc i c_ s Z H E I hf st hg
  subst hP hw hK
  obtain⟨f0,f1,f2,f3,f4,f5⟩:=hf it (by simp)
  have e:i=x.cps.size:=hg
  subst e
  exact(W X.A (I.ok.hd hc)).done s _ _ st λh' tk kk=>⟨rfl,I.turned (λb o hb e=>kk b o (by simpa using hb) e) f0 f1 f3 f4 f5⟩
 self:=self
def TF(te:TE):TI:=λZ H R=>te Z H λv H1=>∃x,v=.str x/\R (R9 x) H1
theorem Ql{l:Expr}{te:TE}(hl:PE X l te):PI X tg l (TF te):=by
 intro c_ s Z H R I h
 refine i0 (hl c_ s Z H _ I h) λv s1 iH=>?_
 obtain⟨y,H1,I1,r1,x,e,q⟩:=iH
 subst e
 obtain⟨t,rfl⟩:=r1
 have fin:∀(ty:String)(T:Turn X.prog X.w X.K tg (R9 x) [s1.heap.objs.size] s1.heap.objs.size (λi h=>h.IsStrIter s1.heap.objs.size ty x t i)),
   Xr X c_ Z tg R (.ref s1.heap.objs.size) {s1 with heap:=s1.heap.push {cls:=.type ty,data:=.fields #[.str x t,.int 0 0]}}:=λty T=>by
  refine⟨s1.heap.objs.size,[s1.heap.objs.size],_,_,H1,rfl,I1.kept (t':=s1.toks) λb o e=>aaC _ e,T,⟨_,aaO _ rfl,rfl,rfl⟩,λb hb=>?_,q⟩
  have e:b=s1.heap.objs.size:=by simpa using hb
  subst e
  exact I1.zt (XW _) (I1.iK.fresh (XW _))
 cases ha:x.cps.all (·<128)
 ·exact wpAny_pyIter_wide ha (fin _ (BS _ _ x t (by decide) (λA hh=>Walks.strWide hh _ x t) λ_ _ _ _ _ st h=>wpAny_pyIter_striter_wide st h))
 ·exact wpAny_pyIter_ascii ha (fin _ (BS _ _ x t (by decide) (λA hh=>Walks.strAscii hh _ x t) λ_ _ _ _ _ st h=>wpAny_pyIter_striter_ascii st h))
theorem Kj{x:Str}{g:TG}{tb:TS}{D:Ends}{Z:St}{H:Hp}(Pv:Nat->St->Hp->Prop)(h0:Pv 0 Z H)
  (hs:∀i c Z H,x.cps[i]?=some c->Pv i Z H->g (.str ⟨#[c]⟩) Z H λZ2 H2=>tb {D with nx:=Pv (i+1),ct:=Pv (i+1),bk:=D.nx} Z2 H2) (hd:∀Z H,Pv x.length Z H->D.nx Z H) :
  ∃W:Nat->Nat->St->Hp->Prop,(∃m,W 0 m Z H)/\∀i m Z H,W i m Z H->
   ((R9 x).stop i H/\D.nx Z H)\/((R9 x).go i H/\∃N:St->Hp->Prop,(∀Z' H',N Z' H'->∃m',m'<m/\W (i+1) m' Z' H')/\∀v H',(R9 x).JK i H v H'->g v Z H' λZ2 H2=>tb {D with nx:=N,ct:=N,bk:=D.nx} Z2 H2):=by
 refine⟨λi m Z H=>m=x.length-i/\i<=x.length/\Pv i Z H,⟨x.length,by simp,aaZ _,h0⟩,?_⟩
 rintro i m Z H ⟨rfl,hi,p⟩
 by_cases j2:i<x.length
 ·refine .inr ⟨j2,Pv (i+1),λZ' H' p'=>⟨x.length-(i+1),by omega,rfl,j2,p'⟩,λv H' y=>?_⟩
  obtain⟨e,c,hc,rfl⟩:=y
  subst e
  exact hs i c Z _ hc p
 ·have e:i=x.length:=by omega
  subst e
  exact .inl ⟨rfl,hd Z H p⟩
def tFi(te:TE):TE:=λZ H Q=>te Z H λv H1=>∃i:Int,v=.int i/\i.natAbs.log2<1920/\Q (.str (toString i)) H1
theorem Kk{e:Expr}{te:TE}{pos:Pos}(he:PE X e te):PE X (.FormattedValue e (-1) none pos) (tFi te):=by
 intro c_ s Z H Q I h
 refine FormattedValue_plain (i0 (he c_ s Z H _ I h) λu s1 iH=>?_)
 obtain⟨v,H1,I1,r1,i,ev,hy,q⟩:=iH
 subst ev
 obtain⟨t',rfl⟩:=r1
 exact formatField_int_small hy ⟨.str (toString i),H1,I1.tok _,⟨_,rfl⟩,q⟩
end
section
variable{X:Cx}{tg:Expr}
def Kl(K:Qqy)(a:Addr)(n:Nat):It:=
 ⟨λi H=>i<n/\∃xs,gN K H a xs/\xs.length=n,λi H x H'=>H'=H/\∀xs,gN K H a xs->xs[n-1-i]?=some x,λi _=>i=n⟩
theorem Km{P:Program}{w:World}{K:Qqy}(a it:Addr)(n:Nat):Turn P w K tg (Kl K a n) [it] it (λi h=>h.IsRevIter it a ((n:Int)-1-(i:Nat))) where
 mem:=by simp
 obj:=λi h st b hb=>by
  have e:b=it:=by simpa using hb
  subst e
  obtain⟨o,e,c,d⟩:=st
  exact⟨o,e,λv z=>by rw[d] at z;cases z⟩
 keep:=λi h h' st k=>st.at λo e=>k it (by simp) o e
 item:=by
  intro X hP hw hK hc i c_ s Z H E I hf st hg
  subst hP hw hK
  obtain⟨hi,xs,hq,hl⟩:=hg
  obtain⟨g_,rv,p,hz⟩:=I.list hq
  have hx:xs[n-1-i]?=some xs[n-1-i]:=UR (by omega)
  obtain⟨u,hu,ru⟩:=rv.get hx
  obtain⟨f0,f1,f2,f3,f4,f5⟩:=hf it (by simp)
  have e1:(n:Int)-1-(i:Nat)=((n-1-i:Nat):Int):=by omega
  rw[e1] at st
  refine wpAny_pyNext_rev_item st p.isList (x:=u) (by simpa using hu) λh' yK sb=>?_
  have e2:((n-1-i:Nat):Int)-1=(n:Int)-1-((i+1:Nat):Int):=by omega
  rw[e2] at yK
  have I1:Inv X c_ Z H {s with heap:=h'}:=I.turned (t':=s.toks) (λb o hb e=>(sb.2 b hb).trans e) f0 f1 f3 f4 f5
  obtain⟨o,e,c,d⟩:=id yK
  exact⟨u,rfl,zu (s:={s with heap:=h'}) e c d (by decide) ⟨_,H,I1,ru,⟨rfl,λys hy=>by rw[I.pB hy hq];exact hx⟩,yK,λb hb=>(hf b hb).1⟩⟩
 done:=by
  intro X hP hw hK hc i c_ s Z H E I hf st hg
  subst hP hw hK
  have hg:i=n:=hg
  subst hg
  obtain⟨f0,f1,f2,f3,f4,f5⟩:=hf it (by simp)
  have e1:(i:Int)-1-(i:Nat)=-1:=by omega
  rw[e1] at st
  exact wpAny_pyNext_rev_end (I.ok.hd hc) st λh' eb=>⟨rfl,I.turned (t':=s.toks) (λb o hb e=>eb b o hb e) f0 f1 f3 f4 f5⟩
 self:=λ_ _ _ _ _ st h=>wpAny_pyIter_revIter st h
def TH(K:Qqy)(ta:TA):TI:=λZ H R=>ta Z H λvs H1=>∃a xs,vs=[.ref a]/\gN K H1 a xs/\R (Kl K a xs.length) H1
theorem MY{a:Expr}{ta:TA}{p pos:Pos}(hg:Gl X "reversed")(hm:X.mg "reversed"=none)(ha:PA X [a] ta)(hs:starEach [a] X.env=[(false,eval a X.env)]:=by rfl):PI X tg (.Call (.Name "reversed" p) [a] [] pos) (TH X.K ta):=by
 intro c_ s Z H R I h
 refine Call_ (o3 I hg hm boot_reversed (abh (i0 (ha pos c_ s Z H _ I h) λus s1 iH=>?_) hs rfl))
 obtain⟨vs,H1,I1,r1,q1⟩:=iH
 obtain⟨l,xs,rfl,hq,q⟩:=q1
 obtain⟨u,rfl,ru⟩:=vals1 r1
 cases (show u=Value.ref l from ru)
 obtain⟨g_,rv,pp,hz⟩:=I1.list hq
 have hl:=rv.length
 refine call_reversed_list pp.isList ?_
 have I2:Inv X c_ Z H1 {s1 with heap:=s1.heap.push (revObj l ((g_.toArray.size:Int)-1))}:=I1.kept (t':=s1.toks) λb o e=>aaC _ e
 have st:(s1.heap.push (revObj l ((g_.toArray.size:Int)-1))).IsRevIter s1.heap.objs.size l ((xs.length:Int)-1-((0:Nat):Int)):=by
  have e1:(xs.length:Int)-1-((0:Nat):Int)=(g_.toArray.size:Int)-1:=by rw[hl];simp
  rw[e1]
  exact⟨_,aaO _ rfl,rfl,rfl⟩
 refine wpAny_pyIter_revIter st ?_
 refine⟨s1.heap.objs.size,[s1.heap.objs.size],_,_,H1,rfl,I2,Km l _ xs.length,st,λb hb=>?_,q⟩
 have e:b=s1.heap.objs.size:=by simpa using hb
 subst e
 exact I1.zt (XW _) (I1.iK.fresh (XW _))
theorem MZ{K:PySem.W.Frag}{a:Addr}{xs:List V}{g:TG}{tb:TS}{D:Ends}{Z:St}{H:Hp}(Pv:Nat->St->Hp->Prop)(h0:Pv 0 Z H)(hl:∀i Z H,i<=xs.length->Pv i Z H->gN K H a xs)
  (hs:∀i x Z H,xs.reverse[i]?=some x->Pv i Z H->g x Z H λZ2 H2=>tb {D with nx:=Pv (i+1),ct:=Pv (i+1),bk:=D.nx} Z2 H2) (hd:∀Z H,Pv xs.length Z H->D.nx Z H) :
  ∃W:Nat->Nat->St->Hp->Prop,(∃m,W 0 m Z H)/\∀i m Z H,W i m Z H->
   ((Kl K a xs.length).stop i H/\D.nx Z H)\/((Kl K a xs.length).go i H/\∃N:St->Hp->Prop,(∀Z' H',N Z' H'->∃m',m'<m/\W (i+1) m' Z' H')/\∀x H',(Kl K a xs.length).JK i H x H'->g x Z H' λZ2 H2=>tb {D with nx:=N,ct:=N,bk:=D.nx} Z2 H2):=by
 refine⟨λi m Z H=>m=xs.length-i/\i<=xs.length/\Pv i Z H,⟨xs.length,by simp,aaZ _,h0⟩,?_⟩
 rintro i m Z H ⟨rfl,hi,p⟩
 have q:=hl i Z H hi p
 by_cases j2:i<xs.length
 ·refine .inr ⟨⟨j2,xs,q,rfl⟩,Pv (i+1),λZ' H' p'=>⟨xs.length-(i+1),by omega,rfl,j2,p'⟩,λx H' y=>?_⟩
  obtain⟨e,y⟩:=y
  subst e
  refine hs i x Z _ ?_ p
  rw[List.getElem?_reverse j2]
  exact y xs q
 ·have e:i=xs.length:=by omega
  subst e
  exact .inl ⟨rfl,hd Z H p⟩
theorem Kn{prog:Program}{w:World}{A:Around}{E:Qqq}{s:Shared}{r:Addr}{Q:Bool->Shared->Prop}(hT:s.TypeIs (.ref r) "list_reverseiterator")(h:Q false s):wpAny (model prog w) A (Builtin.List.listLengthHint (.ref r)) Q E s:=by
 have f1:typeLookup (.type "list_reverseiterator") "__len__"=pure none:=by rw[typeLookup_type,builtinLookup_eq_fast];kernel_rfl
 have f2:typeLookup (.type "list_reverseiterator") "__length_hint__"=pure (some (.builtin "list_reverseiterator.__length_hint__")):=by rw[typeLookup_type,builtinLookup_eq_fast];kernel_rfl
 unfold Builtin.List.listLengthHint
 refine UW (acw hT f1 ?_)
 wp_delta
 refine acx (λG4=>absurd G4 (by decide)) (λ_=>?_)
 refine acx (λG4=>absurd G4 (by decide)) (λ_=>?_)
 refine UW (acw hT f2 ?_)
 generalize nq:("list_reverseiterator.__length_hint__":String)=id0
 wp_delta
 rw[show splitId id0=some ("list_reverseiterator","__length_hint__") from by subst nq;decide+kernel]
 subst nq
 refine UW (wpAny_isInstance (T:="list_reverseiterator") (b:=true) hT (by rw[isSubtype_type];kernel_rfl) ?_)
 refine acx (λG4=>absurd G4 (by decide)) (λ_=>?_)
 refine acx (λ_=>?_) (λG4=>absurd (by decide+kernel) G4)
 refine acx (λG4=>absurd G4 (by decide)) (λ_=>?_)
 exact aaz h
theorem ID{prog:Program}{w:World}{A:Around}{E:Qqq}{s:Shared}{T:String}{r d:Addr}{n:Nat}{P:Nat->Value->Prop}{St:Nat->Heap->Prop}{Q:Qqq}
  (W:Walks prog w A.in1.in1 r [r,d] [r] n P St) (hT:∀h:Heap,St 0 h->∃o,h.get? r=some o/\o.cls=.type T) (hl:(Value.type T ==Value.type "list")=false) (ht:(Value.type T ==Value.type "tuple")=false)
  (hint:∀(A:Around)(E:Qqq)(s:Shared)(Q:Bool->Shared->Prop),St 0 s.heap->Q false s->wpAny (model prog w) A (Builtin.List.listLengthHint (.ref r)) Q E s)
  (self:∀(A:Around)(E:Qqq)(s:Shared)(Q:Qqq),St 0 s.heap->Q (.ref r) s->wpAny (model prog w) A (pyIter (.ref r)) Q E s)
  (hd:d<s.heap.objs.size) (st:St 0 s.heap) (hn:n<=sizeLine)
  (hQ:∀h' tk N3 c',(∀b o,b≠r->s.heap.get? b=some o->h'.get? b=some o)->h'.get? s.heap.objs.size=some {cls:=.type "list",dict:=none,data:=.seq N3 c',slots:=#[]}->ItemsOf P N3 n->Q (.ref s.heap.objs.size) {s with heap:=h',toks:=tk}) :
  wpAny (model prog w) A (call (.type "list") [.ref r]) Q E s:=by
 obtain⟨or,YE,hcr⟩:=hT _ st
 have Dy:r<s.heap.objs.size:=aaK YE
 refine callType_codes (Q₁:=λobj s1=>obj=.ref s.heap.objs.size/\s1={s with heap:=s.heap.push {cls:=.type "list",data:=.seq #[]}}) PySem.F.called_list (PySem.F.typeCall_list_1 _) PySem.F.entry_list_init
  (code_list_new _ ⟨rfl,rfl⟩) λobj s1 h₁=>?_
 obtain⟨rfl,rfl⟩:=h₁
 have hS:(s.heap.push {cls:=.type "list",data:=.seq #[]}).get? s.heap.objs.size=some {cls:=.type "list",data:=.seq #[]}:=aaO _ rfl
 have YF:s.heap.objs.size≠r:=Nat.ne_of_gt Dy
 have hSd:s.heap.objs.size≠d:=Nat.ne_of_gt hd
 refine⟨⟨_,hS,rfl⟩,PySem.F.args_list_init_2 _ _,?_⟩
 show wpAny _ _ (do let old <-Builtin.List.listItems (.ref s.heap.objs.size);Builtin.List.listUpdate (.ref s.heap.objs.size) (λ_=>#[]);letGo old.toList.reverse;Builtin.List.listExtendWith (.ref s.heap.objs.size) (.ref r) .none) _ _ _
 refine UW ?_
 unfold Builtin.List.listItems
 refine UW (wpAny_seqItems hS rfl (aaz ?_))
 show wpAny _ _ (updateSeq s.heap.objs.size (λ_=>#[]) >>= λ_=>letGo (#[]:Array Value).toList.reverse >>= λ_=>Builtin.List.listExtendWith (.ref s.heap.objs.size) (.ref r) .none) _ _ _
 refine UW (wpAny_updateSeq hS rfl ?_)
 have Wu:=abp (Obj.mapSeq (λ_=>(#[]:Array Value))) hS rfl
 have Ko:∀b o,s.heap.get? b=some o->((s.heap.push {cls:=.type "list",data:=.seq #[]}).update s.heap.objs.size (Obj.mapSeq (λ_=>(#[]:Array Value)))).get? b=some o:=
  λb o e=>(ab8 _ _ (Nat.ne_of_gt (aaK e))).trans (aaC _ e)
 refine UW (wpAny_letGo ?_)
 generalize (s.heap.push {cls:=.type "list",data:=.seq #[]}).update s.heap.objs.size (Obj.mapSeq (λ_=>(#[]:Array Value)))=h2 at Wu Ko
 have Bw:St 0 h2:=W.frame 0 _ _ st λb _ o e=>Ko b o e
 have key:∀(h:Heap)(c1 tk:Nat),St 0 h->(∀b o,s.heap.get? b=some o->h.get? b=some o)->
   h.get? s.heap.objs.size=some {cls:=.type "list",data:=.seq #[] c1}->codeAny (model prog w) A.in1 (.builtin "list.extend.loop" ⟨[.ref s.heap.objs.size,.ref r,.none],[]⟩)
    (λr s'=>match r with|.ok (.ret v)=>v=.none/\Q (.ref s.heap.objs.size) s'|.ok _=>False|.error e=>E e s') {s with heap:=h,toks:=tk}:=by
  intro h c1 tk uH hk hS1
  refine codeAny_extend_loopS W.toS hn s.heap.objs.size (by simp only [aah,acn,or_false,not_or];exact⟨YF,hSd⟩) .none n 0 _ #[] c1 rfl (aaZ _) uH hS1 (ItemsOf.nil _) λs' N3 c' hm hS' AJ=>?_
  rw[Moved.eq_with hm]
  refine⟨rfl,hQ s'.heap s'.toks N3 c' (λb o hb e=>hm.heap b o (λqS=>?_) (hk b o e)) hS' AJ⟩
  rcases aah.mp qS with e'|qS
  ·exact absurd (aaK e) (by rw[e'];exact abv _)
  ·exact hb (XT.mp qS)
 unfold Builtin.List.listExtendWith
 refine UW (wpAny_typeOf (T:=T) (hT _ Bw) ?_)
 have h1:Builtin.List.listSameRef (.ref s.heap.objs.size) (.ref r)=false:=by simp[Builtin.List.listSameRef,YF]
 simp only [h1,hl,ht,Bool.or_false,aa_,acd]
 refine UW (self _ _ _ _ Bw ?_)
 refine UW (abT (hint _ _ _ _ Bw ?_))
 refine acx (λ_=>?_) (λ_=>aaz ⟨plainId_quiet PySem.F.plain_extend_loop _,key _ _ _ Bw Ko Wu⟩)
 refine UW (wpAny_rule ?_)
 refine UW ?_
 show wpAny _ _ (updateSeq s.heap.objs.size (·.push .none) >>= λ_=>updateSeq s.heap.objs.size (·.pop)) _ _ _
 refine UW (wpAny_updateSeq Wu rfl ?_)
 have hS3:=abp (Obj.mapSeq (·.push Value.none)) Wu rfl
 refine wpAny_updateSeq (hz:=by seq_fits) hS3 rfl ?_
 have hS4:=abp (Obj.mapSeq (·.pop)) hS3 rfl
 have UL:∀b o,b≠s.heap.objs.size->h2.get? b=some o->((h2.update s.heap.objs.size (Obj.mapSeq (·.push Value.none))).update s.heap.objs.size (Obj.mapSeq (·.pop))).get? b=some o:=λb o hb e=>
  (ab8 _ _ (ab1 hb)).trans ((ab8 _ _ (ab1 hb)).trans e)
 refine aaz ⟨plainId_quiet PySem.F.plain_extend_loop _,key _ _ _ (W.frame 0 _ _ Bw λb hb o e=>UL b o (λz=>?_) e) (λb o e=>UL b o (aa1 (aaK e)) (Ko b o e)) hS4⟩
 subst z
 simp only [aah,acn,or_false] at hb
 rcases hb with z|z
 ·exact YF z
 ·exact hSd z
def Kq(K:Qqy)(ta:TA):TE:=λZ H Q=>ta Z H λvs H1=>∃a xs,vs=[.ref a]/\gN K H1 a xs/\∀p,H1 p=none->Q (.ref p) (upd H1 p (.lst xs.reverse))
theorem Gr{a:Expr}{ta:TA}{p1 p2 YG N4:Pos}(hc:X.calm=true)(O3:Gl X "list")(YH:X.mg "list"=none)(hg:Gl X "reversed")(hm:X.mg "reversed"=none)(ha:PA X [a] ta)(hs:starEach [a] X.env=[(false,eval a X.env)]:=by rfl)
  (YI:starEach [.Call (.Name "reversed" p2) [a] [] N4] X.env=[(false,eval (.Call (.Name "reversed" p2) [a] [] N4) X.env)]:=by rfl):PE X (.Call (.Name "list" p1) [.Call (.Name "reversed" p2) [a] [] N4] [] YG) (Kq X.K ta):=by
 intro c_ s Z H Q I h
 refine Call_ (o3 I O3 YH boot_list (abh ?_ YI rfl))
 rw[YI]
 refine aby ?_
 refine Call_ (o3 I hg hm boot_reversed (abh (i0 (ha N4 c_ s Z H _ I h) λus s1 iH=>?_) hs rfl))
 obtain⟨vs,H1,I1,r1,q1⟩:=iH
 obtain⟨l,xs,rfl,hq,q⟩:=q1
 obtain⟨u,rfl,ru⟩:=vals1 r1
 cases (show u=Value.ref l from ru)
 obtain⟨g_,rv,pp,hz⟩:=I1.list hq
 have hl:=rv.length
 refine call_reversed_list pp.isList (abO ?_)
 have j2:l<s1.heap.objs.size:=let ⟨o,ho,_⟩:=pp.isList;aaK ho
 have hL:(s1.heap.push (revObj l ((g_.toArray.size:Int)-1))).IsList l g_.toArray:=pp.isList.at λo e=>aaC _ e
 refine ID (s:={s1 with heap:=s1.heap.push (revObj l ((g_.toArray.size:Int)-1))}) (T:="list_reverseiterator") (d:=l) (n:=g_.toArray.size) (Walks.listRev (prog:=X.prog) (w:=X.w) (A:=X.A.in1.in1) (show X.A.in1.in1.handled=none from I.ok.hd hc) s1.heap.objs.size l (aa1 j2) g_.toArray) (λh ⟨_,⟨o,ho,Bv,_⟩,_⟩=>⟨o,ho,Bv⟩) (by decide) (by decide)
  (λA E s Q ⟨_,⟨o,ho,Bv,_⟩,_⟩ hq=>Kn ⟨o,ho,Bv⟩ hq) (λA E s Q ⟨_,x,_⟩ hq=>wpAny_pyIter_revIter x hq) (aaS j2 (by show s1.heap.objs.size<=(s1.heap.push _).objs.size;rw[Heap.size_push];exact Nat.le_succ _))
  ⟨aaZ _,by
   have e:(g_.toArray.size:Int)-1-((0:Nat):Int)=(g_.toArray.size:Int)-1:=by omega
   rw[e];exact⟨_,aaO _ rfl,rfl,rfl⟩,hL⟩ (by rw[aaA,<-hl];exact hz) λh' tk acc c hk hS AJ=>?_
 have hf:H1 (s1.heap.push (revObj l ((g_.toArray.size:Int)-1))).objs.size=none:=I1.iK.fresh (by rw[Heap.size_push];omega)
 have rel:Vals xs.reverse acc.toList:=by
  have hsz:acc.toList.length=acc.size:=aa4
  refine pG (by rw[abF,hsz,AJ.1,aaA,hl]) λi x y hx hy=>?_
  have hi:i<xs.length:=by have:=(List.getElem?_eq_some_iff.mp hx).1;rwa [abF] at this
  have z:=AJ.2 i y (by rw[<-abr];exact hy)
  rw[List.getElem?_reverse hi] at hx
  obtain⟨w,hw,By⟩:=rv.get hx
  rw[aaA,<-hl] at z
  have z2:g_[xs.length-1-i]?=some y:=by simpa using z
  rw[hw] at z2
  cases z2
  exact By
 refine⟨.ref _,upd H1 _ (.lst xs.reverse),I1.laid (t':=tk) (h':=h') (λb o e=>hk b o (aa1 (aaK e)) (aaC _ e)) (by rw[Heap.size_push];omega) ?_,rfl,q _ hf⟩
 exact⟨by rw[abF];exact hz,acc.toList,c,rel,by rw[Array.toArray_toList];exact hS⟩
end
open PySem PySem.Builtin.Str
theorem subAt_one(s:Str)(c i:Nat):subAt s ⟨#[c]⟩ i=decide (s.cps[i]?=some c):=by
 unfold subAt
 show(s.cps.extract i (i+1) ==#[c])=_
 rw[abo]
 simp only [acp,acg]
 by_cases h:i<s.cps.size
 ·have e:s.cps.extract i (i+1)=#[s.cps[i]]:=by
   apply Array.ext
   ·simp;omega
   ·intro j h1 h2
    simp at h2
    subst h2
    simp
  rw[e,abg h]
  constructor
  ·intro z;simpa using z
  ·intro z;simpa using z
 ·have e:s.cps.extract i (i+1)=#[]:=by
   apply Array.ext
   ·simp;omega
   ·intro j h1 h2;simp at h2
  rw[e,Array.getElem?_eq_none (by omega)]
  simp
noncomputable def oF(s sub:Str)(hi:Nat)(p:Array Nat×Nat)(i:Nat):Array Nat×Nat:=
 if(decide (p.1.size<1)&&decide (p.2<=i)&&decide (i+sub.length<=hi)&&subAt s sub i)=true then(p.1.push i,i+sub.length) else p
theorem Kr(s sub:Str)(lo hi:Nat):occurrences s sub lo hi 1=((List.range' lo (hi+1-lo)).foldl (oF s sub hi) (#[],lo)).1.toList:=by
 unfold occurrences
 simp only [Std.Legacy.Range.forIn_eq_forIn_range',Std.Legacy.Range.size]
 rw[show(hi+1-lo+1-1)/1=hi+1-lo by omega]
 generalize List.range' lo (hi+1-lo)=l
 generalize ((#[],lo):Array Nat×Nat)=p
 show Id.run (forIn l p _ >>= _)=_
 have go:∀(l:List Nat)(p:Array Nat×Nat),(forIn l p (λ(i:Nat) (q:Array Nat×Nat)=>(if(decide (q.fst.size<1)&&decide (q.snd<=i)&&decide (i+sub.length<=hi)&&subAt s sub i)=true then
   pure (ForInStep.yield (q.fst.push i,i+sub.length)) else pure (ForInStep.yield (q.fst,q.snd)):Id (ForInStep (Array Nat×Nat)))):Id (Array Nat×Nat))=l.foldl (oF s sub hi) p:=by
  intro l
  induction l with
  | nil=>intro p;rfl
  | cons a r ih=>
   intro p
   rw[List.forIn_cons,List.foldl_cons]
   unfold oF
   split
   ·exact ih _
   ·exact ih _
 rw[go]
 rfl
theorem M0(s:Str)(c:Nat):(occurrences s ⟨#[c]⟩ 0 s.length 1).isEmpty=decide (c∉s.cps.toList):=by
 rw[Kr]
 have inv:∀(l:List Nat)(p:Array Nat×Nat),(p.1=#[]->p.2=0)->((l.foldl (oF s ⟨#[c]⟩ s.length) p).1=#[]↔p.1=#[]/\∀i∈l,¬(i+1<=s.length/\s.cps[i]?=some c)):=by
  intro l
  induction l with
  | nil=>intro p _;simp
  | cons a r ih=>
   intro p hp
   rw[List.foldl_cons]
   by_cases hc:(decide (p.1.size<1)&&decide (p.2<=a)&&decide (a+(⟨#[c]⟩:Str).length<=s.length)&&subAt s ⟨#[c]⟩ a)=true
   ·have e:oF s ⟨#[c]⟩ s.length p a=(p.1.push a,a+(⟨#[c]⟩:Str).length):=aay hc
    rw[e,ih _ (λz=>by simp at z)]
    simp only [abn,acg,subAt_one] at hc
    constructor
    ·rintro⟨z,_⟩;simp at z
    ·rintro⟨z,h⟩
     exact absurd ⟨hc.1.2,hc.2⟩ (h a aaD)
   ·have e:oF s ⟨#[c]⟩ s.length p a=p:=aaw hc
    rw[e,ih _ hp]
    constructor
    ·rintro⟨z,h⟩
     refine⟨z,λi hi=>?_⟩
     rcases aah.mp hi with rfl|hi
     ·intro ⟨h1,h2⟩
      apply hc
      simp only [abn,acg,subAt_one]
      exact⟨⟨⟨by rw[z];decide,by rw[hp z];exact aaZ _⟩,h1⟩,h2⟩
     ·exact h i hi
    ·rintro⟨z,h⟩
     exact⟨z,λi hi=>h i (aam _ hi)⟩
 have h:=inv (List.range' 0 (s.length+1-0)) (#[],0) (λ_=>rfl)
 rw[abo,acg,List.isEmpty_iff]
 rw[show(List.foldl (oF s ⟨#[c]⟩ s.length) (#[],0) (List.range' 0 (s.length+1-0))).1.toList=[]↔(List.foldl (oF s ⟨#[c]⟩ s.length) (#[],0) (List.range' 0 (s.length+1-0))).1=#[] from ⟨λz=>by simpa using z,λz=>by rw[z]⟩,h]
 constructor
 ·rintro⟨_,h⟩ hm
  obtain⟨i,hi,e⟩:=List.mem_iff_getElem.mp hm
  have Bz:i<s.cps.size:=by simpa using hi
  refine h i (by rw[List.mem_range'_1];show 0<=i/\i<0+(s.cps.size+1-0);omega) ⟨Bz,?_⟩
  rw[abg Bz]
  simpa using e
 ·intro hn
  refine⟨rfl,λi _ ⟨_,h2⟩=>hn ?_⟩
  exact XZ (i:=i) (by rw[abr];exact h2)
section
variable{prog:Program}{w:World}{A:Around}{E:Qqq}{s:Shared}
end
section
variable{X:Cx}
end
def wV(h:Heap)(d:Addr)(es:Array DictEntry)(ep:Nat):Prop:=∃o,h.get? d=some o/\o.ExactDict/\o.data=.dict es ep
section
variable{P:Program}{w:World}{A:Around}{E:Qqq}{s:Shared}{d it:Addr}{es:Array DictEntry}{ep i:Nat}
theorem wV.ty(x:wV s.heap d es ep):s.TypeIs (.ref d) "dict":=by obtain⟨o,e,c,_⟩:=x;exact⟨o,e,c.1⟩
theorem wV.at{h h':Heap}(x:wV h d es ep)(k:∀o,h.get? d=some o->h'.get? d=some o):wV h' d es ep:=by obtain⟨o,e,r⟩:=x;exact⟨o,k o e,r⟩
theorem Ez{Q:Qqq}(lo:(d ==sysModules)=false)(x:wV s.heap d es ep)
  (k:Q (.ref s.heap.objs.size) {s with heap:=s.heap.push {cls:=.type "dict_keyiterator",data:=.fields #[.ref d,.int 0 0,.int es.size 0,.int ep 0]}}):wpAny (model P w) A (pyIter (.ref d)) Q E s:=by
 have ty:=x.ty
 obtain⟨o,e,c,dt⟩:=x
 refine wpAny_pyIter_slot ty F.slot_dict_iter (aca F.slot_dict_iter ty F.entry_dict_iter ?z (F.args_dict_iter_1 _))
 case z=>
  unfold Builtin.«dict.__iter__» Builtin.Dict.dictSlotNone
  refine UW (UW (wpAny_notOrdered_dict ty (show wpAny _ _ (pure (Value.ref d)) _ _ s from aaz ?z)))
  case z=>
   show wpAny _ _ (Builtin.Dict.showsAll d >>= _) _ _ s
   unfold Builtin.Dict.showsAll
   rw[lo,aaw (λz=>by cases z)]
   refine UW (aaz (UW (abw e dt (UW (wpAny_dictEpoch e dt (UW (wpAny_newObj_type (aaz ?z))))))))
   case z=>exact⟨_,rfl,"dict_keyiterator",_,⟨_,aaO _ rfl,rfl⟩,abI.lookup,by simpa[rawInt] using k⟩
theorem EA{Q:Option Value->Shared->Prop}{y:DictEntry}(x:s.heap.IsKeyIter it d i es.size ep)(r:wV s.heap d es ep)(hy:es[i]?=some y)
  (k:∀h',h'.IsKeyIter it d (i+1) es.size ep->Heap.SameBut it s.heap h'->Q (some y.key) {s with heap:=h'}):wpAny (model P w) A (pyNext (.ref it)) Q E s:=by
 have ty:=x.typeIs
 obtain⟨o,e,c,dt⟩:=id x
 obtain⟨o2,e2,c2,UM⟩:=r
 have Rp:Builtin.Dict_items.ownsTuple "dict_keyiterator"=false:=by decide
 unfold pyNext
 refine UW (wpAny_attempt (wpAny_callSpecial?_slot (name:=Str.ofString "__next__") ty abI (aca abI ty F.entry_dict_keyiterator_next ?z (F.args_dict_keyiterator_next_1 _))))
 case z=>
  refine UW (aaz (UW (UW ?z)))
  case z=>
   first|refine UW (abZ ty (aaz (UW (wpAny_fieldsOf e dt ?z))))|refine UW (wpAny_typeNameOf_keyiter ty (aaz (UW (wpAny_fieldsOf e dt ?z))))
   case z=>
    simp only [Rp,aa_,acd]
    show wpAny _ _ (if(Value.ref d ==Value.none)=true then _ else _) _ _ s
    rw[aaw (λz=>by cases z)]
    refine UW (aaz (UW (abw e2 UM ?z)))
    case z=>
     rw[aaw (by simp)]
     refine UW (aaz (UW (wpAny_dictEpoch e2 UM ?z)))
     case z=>
      rw[aaw (by simp)]
      refine aaz ?z
      case z=>
       simp only [show ¬((i:Int)<0) by omega,acd,abQ,hy]
       refine UW ?z
       case z=>
        first|refine UW (abZ ty (aaz (UW (wpAny_isOneOf_keyiter ty ?z))))|refine UW (wpAny_typeNameOf_keyiter ty (aaz (UW (wpAny_isOneOf_keyiter ty ?z))))
        case z=>
         show wpAny _ _ (setField (.ref it) 1 (rawInt ((i:Int)+1)) >>= _) _ _ s
         have n:(s.heap.update it (Obj.mapFields (·.setIfInBounds 1 (rawInt ((i:Int)+1))))).IsKeyIter it d (i+1) es.size ep:=
          ⟨_,abp _ e (Obj.isFreed_of_fields (Obj.data_mapFields dt _)),(Obj.cls_mapFields ..).trans c,by rw[Obj.data_mapFields dt];simp[rawInt]⟩
         refine UW (wpAny_setField e dt (by simp) (UW (abT (UW (wpAny_isOneOf_keyiter (s:={s with heap:=s.heap.update it (Obj.mapFields (·.setIfInBounds 1 (rawInt ((i:Int)+1))))}) n.typeIs ?z)))))
         case z=>
          show wpAny _ _ (pure y.key) _ _ _
          exact aaz (aaz ⟨_,rfl,aaz (k _ n (abG ..))⟩)
theorem EB{Q:Option Value->Shared->Prop}(hh:A.handled=none)(x:s.heap.IsKeyIter it d i es.size ep)(r:wV s.heap d es ep)(hy:es.size<=i)
  (k:∀h',Heap.ExtBut it s.heap h'->Q none {s with heap:=h'}):wpAny (model P w) A (pyNext (.ref it)) Q E s:=by
 have ty:=x.typeIs
 obtain⟨o,e,c,dt⟩:=id x
 obtain⟨o2,e2,c2,UM⟩:=r
 have Rp:Builtin.Dict_items.ownsTuple "dict_keyiterator"=false:=by decide
 unfold pyNext
 refine UW (wpAny_attempt (wpAny_callSpecial?_slot (name:=Str.ofString "__next__") ty abI (aca abI ty F.entry_dict_keyiterator_next ?z (F.args_dict_keyiterator_next_1 _))))
 case z=>
  refine UW (aaz (UW (UW ?z)))
  case z=>
   first|refine UW (abZ ty (aaz (UW (wpAny_fieldsOf e dt ?z))))|refine UW (wpAny_typeNameOf_keyiter ty (aaz (UW (wpAny_fieldsOf e dt ?z))))
   case z=>
    simp only [Rp,aa_,acd]
    show wpAny _ _ (if(Value.ref d ==Value.none)=true then _ else _) _ _ s
    rw[aaw (λz=>by cases z)]
    refine UW (aaz (UW (abw e2 UM ?z)))
    case z=>
     rw[aaw (by simp)]
     refine UW (aaz (UW (wpAny_dictEpoch e2 UM ?z)))
     case z=>
      rw[aaw (by simp)]
      refine aaz ?z
      case z=>
       simp only [show ¬((i:Int)<0) by omega,acd,abQ,Array.getElem?_eq_none hy]
       refine UW ?z
       case z=>
        first|refine UW (abZ ty (aaz ?z))|refine UW (wpAny_typeNameOf_keyiter ty (aaz ?z))
        case z=>
         show wpAny _ _ (setField (.ref it) 0 .none >>= _) _ _ s
         refine UW (wpAny_setField e dt (by simp) ?z)
         case z=>
          show wpAny _ _ (newExc (.type "StopIteration") [] >>= _) _ _ _
          refine UW ?z
          case z=>
           simp only [newExc,newTuple]
           refine UW (wpAny_newObj_type (UW (m:=firstArgMember _ _) (wpAny_of_eq (a:=Value.none) (by first|rfl|(simp only [firstArgMember];rfl)) (wpAny_newObj_type ?z (by size_fits)))) (by size_fits))
           case z=>
            simp only [raiseNew]
            refine UW (wpAny_handled ?z)
            case z=>
             rw[show A.in1.handled=none from hh]
             refine UW (aaz (wpAny_throw ?z))
             case z=>exact UW (wpAny_isInstance (T:="StopIteration") (b:=true) ⟨_,aaO _ rfl,rfl⟩ isSubtype_stop <| aaz (k _ (((abG ..).extBut.push _).push _)))
end
section
variable{X:Cx}{c_:Qqz}{Z:St}{H:Hp}{s:Shared}{tg:Expr}
noncomputable def IE(d:Addr)(o:Obj)(kvs:List (List Key×V)):It:=
 ⟨λi H=>H d=some (.nj o (.dT kvs))/\i<kvs.length,λi H x H'=>H'=H/\∃k v b,kvs[i]?=some (k,v)/\x=.ref b/\H b=some (.tup (k.map kV)),λi H=>H d=some (.nj o (.dT kvs))/\kvs.length<=i⟩
theorem kt_at{kvs:List (List Key×V)}{xs:List (List Key×Addr×Value)}(r:KT H kvs xs):∀{i:Nat} {k:List Key} {b:Addr} {u:Value},xs[i]?=some (k,b,u)->∃v,kvs[i]?=some (k,v)/\H b=some (.tup (k.map kV))/\RelV v u:=by
 induction r with
 | nil=>intro i k b u e;simp at e
 | @cons p q ps qs f t ih=>
  intro i k b u e
  cases i with
  | zero=>
   simp at e
   subst e
   exact⟨p.2,abe some (Prod.ext f.1 rfl),by rw[<-show p.1=k from f.1];exact f.2.1,f.2.2⟩
  | succ i=>
   obtain⟨v,h1,h2⟩:=ih (by simpa using e)
   exact⟨v,by simpa using h1,h2⟩
theorem zM{P:Program}{w:World}{h:Heap}{d:Addr}{kvs:List (List Key×V)}(q:iZ P w H h d (.dT kvs)):(d ==sysModules)=false/\kvs.length<=sizeLine/\∃(es:Array DictEntry)(ep:Nat),wV h d es ep/\es.size=kvs.length/\
  (∀(i:Nat)(y:DictEntry),es[i]?=some y->∃k v b,kvs[i]?=some (k,v)/\y.key=.ref b/\H b=some (.tup (k.map kV))/\RelV v y.val):=by
 obtain⟨hz,hs,xs,r,o,es,ep,ho,hc,hd,he,hn⟩:=q
 have sz:=acy he
 refine⟨hs,hz,es,ep,⟨o,ho,hc,hd⟩,by rw[sz];exact(aav r).symm,λi y hy=>?_⟩
 rw[entry_at he i] at hy
 obtain⟨⟨k,b,u⟩,hx,e⟩:=Option.map_eq_some_iff.mp hy
 obtain⟨v,h1,h2,h3⟩:=kt_at r hx
 subst e
 exact⟨k,v,b,h1,rfl,h2,h3⟩
theorem Gs{P:Program}{w:World}{K:Qqy}(d it:Addr)(o:Obj)(es:Array DictEntry)(ep:Nat)(kvs:List (List Key×V))(LR:o.data=.dict es ep)(hsz:es.size=kvs.length):Turn P w K tg (IE d o kvs) [it] it (λi h=>h.IsKeyIter it d i es.size ep) where
 mem:=by simp
 obj:=λi h st b hb=>by
  have e:b=it:=by simpa using hb
  subst e
  obtain⟨o,e,c,d⟩:=st
  exact⟨o,e,λv z=>by rw[d] at z;cases z⟩
 keep:=λi h h' st k=>st.at λo e=>k it (by simp) o e
 item:=by
  intro X hP hw hK hc i c_ s Z H E I hf st hg
  subst hP hw hK
  obtain⟨hd,hi⟩:=hg
  obtain⟨ho,q⟩:=(show iZ X.prog X.w H s.heap d (.nj o (.dT kvs)) from I.iK d _ hd)
  obtain⟨_,_,Sg,OV,raw,sz,Sl⟩:=zM q
  obtain⟨o',qg,h2,h3⟩:=id raw
  rw[ho] at qg;cases qg
  rw[LR] at h3;cases h3
  have Bz:i<es.size:=by omega
  obtain⟨k,v,b,e1,e2,e3,_⟩:=Sl i es[i] (abg Bz)
  obtain⟨f0,f1,f2,f3,f4,f5⟩:=hf it (by simp)
  refine EA st raw (abg Bz) λh' yK sb=>?_
  have I1:Inv X c_ Z H {s with heap:=h'}:=I.turned (t':=s.toks) (λb o hb e=>(sb.2 b hb).trans e) f0 f1 f3 f4 f5
  obtain⟨o',e,c,dd⟩:=id yK
  exact⟨_,rfl,zu (s:={s with heap:=h'}) e c dd (by decide) ⟨.ref b,H,I1,e2,⟨rfl,k,v,b,e1,rfl,e3⟩,yK,λb hb=>(hf b hb).1⟩⟩
 done:=by
  intro X hP hw hK hc i c_ s Z H E I hf st hg
  subst hP hw hK
  obtain⟨hd,hi⟩:=hg
  obtain⟨ho,q⟩:=(show iZ X.prog X.w H s.heap d (.nj o (.dT kvs)) from I.iK d _ hd)
  obtain⟨_,_,Sg,OV,raw,sz,Sl⟩:=zM q
  obtain⟨o',qg,h2,h3⟩:=id raw
  rw[ho] at qg;cases qg
  rw[LR] at h3;cases h3
  obtain⟨f0,f1,f2,f3,f4,f5⟩:=hf it (by simp)
  exact EB (I.ok.hd hc) st raw (by omega) λh' eb=>⟨rfl,I.turned (t':=s.toks) (λb o hb e=>eb b o hb e) f0 f1 f3 f4 f5⟩
 self:=λ_ _ _ _ _ st h=>wpAny_pyIter_keyiter st h
def Qm(X:Cx)(td:TE):TI:=λZ H R=>td Z H λx H1=>∃d kvs,x=.ref d/\H1 d=some (.dT kvs)/\∀o,zL X d->R (IE d o kvs) (upd H1 d (.nj o (.dT kvs)))
theorem zN{l:Expr}{td:TE}(hl:PE X l td):PI X tg l (Qm X td):=by
 intro c_ s Z H R I h
 refine i0 (hl c_ s Z H _ I h) λv s1 iH=>?_
 obtain⟨x,H1,I1,r1,q1⟩:=iH
 obtain⟨d,kvs,e,hd,q⟩:=q1
 subst e
 cases r1
 have nf:=I1.Qk hd True.intro
 obtain⟨o,ho,I2⟩:=I1.frozen hd True.intro
 obtain⟨hs,_,es,ep,raw,sz,_⟩:=zM (I1.iK d _ hd)
 obtain⟨o',qg,h2,h3⟩:=id raw
 rw[ho] at qg;cases qg
 refine Ez hs raw ?_
 refine⟨s1.heap.objs.size,[s1.heap.objs.size],_,_,_,rfl,I2.kept (t':=s1.toks) λb o e=>aaC _ e,Gs d _ o es ep kvs h3 sz,⟨_,aaO _ rfl,rfl,rfl⟩,λb hb=>?_,q o nf⟩
 have e:b=s1.heap.objs.size:=by simpa using hb
 subst e
 exact I2.zt (XW _) (I2.iK.fresh (XW _))
theorem BU{d:Addr}{o:Obj}{kvs:List (List Key×V)}{g:TG}{tb:TS}{D:Ends}{Z:St}{H:Hp}(Pv:Nat->St->Hp->Prop)(h0:Pv 0 Z H)(hl:∀i Z H,Pv i Z H->H d=some (.nj o (.dT kvs)))
  (hs:∀i k v b Z H,kvs[i]?=some (k,v)->H b=some (.tup (k.map kV))->Pv i Z H->g (.ref b) Z H λZ2 H2=>tb {D with nx:=Pv (i+1),ct:=Pv (i+1),bk:=D.nx} Z2 H2) (hd:∀Z H,Pv kvs.length Z H->D.nx Z H) :
  ∃W:Nat->Nat->St->Hp->Prop,(∃m,W 0 m Z H)/\∀i m Z H,W i m Z H->
   ((IE d o kvs).stop i H/\D.nx Z H)\/((IE d o kvs).go i H/\∃N:St->Hp->Prop,(∀Z' H',N Z' H'->∃m',m'<m/\W (i+1) m' Z' H')/\∀x H',(IE d o kvs).JK i H x H'->g x Z H' λZ2 H2=>tb {D with nx:=N,ct:=N,bk:=D.nx} Z2 H2):=by
 refine⟨λi m Z H=>m=kvs.length-i/\i<=kvs.length/\Pv i Z H,⟨kvs.length,by simp,aaZ _,h0⟩,?_⟩
 rintro i m Z H ⟨rfl,hi,p⟩
 have q:=hl i Z H p
 by_cases j2:i<kvs.length
 ·refine .inr ⟨⟨q,j2⟩,Pv (i+1),λZ' H' p'=>⟨kvs.length-(i+1),by omega,rfl,j2,p'⟩,λx H' y=>?_⟩
  obtain⟨e,k,v,b,y,rfl,hb⟩:=y
  subst e
  exact hs i k v b Z _ y hb p
 ·have e:i=kvs.length:=by omega
  subst e
  exact .inl ⟨⟨q,XW _⟩,hd Z H p⟩
theorem Ks{d:Addr}{o:Obj}{kvs:List (List Key×V)}{g:TG}{tt:TT}{te:TE}{Q:List V->Hp->Prop}{Z:St}{H:Hp}(hn:kvs.length<=sizeLine)(Pv:Nat->List V->St->Hp->Prop)(h0:Pv 0 [] Z H)(hl:∀i ys Z H,Pv i ys Z H->H d=some (.nj o (.dT kvs))/\ys.length<=i)
  (hs:∀i k v b ys Z H,kvs[i]?=some (k,v)->H b=some (.tup (k.map kV))->Pv i ys Z H->g (.ref b) Z H λZ2 H2=>tt Z2 H2 λc H3=>if c=true then te Z2 H3 λv H4=>Pv (i+1) (ys++[v]) Z2 H4 else Pv (i+1) ys Z2 H3)
  (hd:∀ys Z H,Pv kvs.length ys Z H->Q ys H):IB g tt te (IE d o kvs) Q Z H:=by
 refine⟨λi m ys Z H=>m=kvs.length-i/\i<=kvs.length/\Pv i ys Z H,⟨kvs.length,by simp,aaZ _,h0⟩,?_⟩
 rintro i m ys Z H ⟨rfl,hi,p⟩
 obtain⟨q,hy⟩:=hl i ys Z H p
 by_cases j2:i<kvs.length
 ·refine .inr ⟨⟨q,j2⟩,by omega,Pv (i+1),λSk Z' H' p'=>⟨kvs.length-(i+1),by omega,rfl,j2,p'⟩,λx H' y=>?_⟩
  obtain⟨e,k,v,b,y,rfl,hb⟩:=y
  subst e
  exact hs i k v b ys Z _ y hb p
 ·have e:i=kvs.length:=by omega
  subst e
  exact .inl ⟨⟨q,XW _⟩,by omega,hd ys Z H p⟩
end
section
variable{P:Program}{w:World}{d it:Addr}{es:Array DictEntry}{ep:Nat}
theorem IF{A:Around}(hh:A.handled=none)(oe:d≠it):Walks P w A it [it,d] [it] es.size (λi v=>∃y,es[i]?=some y/\v=y.key) (λi h=>h.IsKeyIter it d i es.size ep/\wV h d es ep) where
 sub:=λb hb=>by rw[XT.mp hb];exact aaD
 frame:=λi h h' ⟨a,b⟩ hk=>⟨a.at λo e=>hk it aaD o e,b.at λo e=>hk d (by simp) o e⟩
 item:=λi s Q E hi ⟨a,b⟩ hQ=>EA a b (abg hi) λh' a' sb=>hQ _ h' s.toks ⟨_,abg hi,rfl⟩ ⟨a',b.at λo e=>sb.extBut d o oe e⟩ λb o hb e=>sb.extBut b o (λz=>hb (by rw[z];exact XT.mpr rfl)) e
 done:=λs Q E ⟨a,b⟩ hQ=>EB hh a b (XW _) λh' eb=>hQ h' s.toks λb o hb e=>eb b o (λz=>hb (by rw[z];exact XT.mpr rfl)) e
 self:=λi s Q E ⟨a,_⟩ hQ=>wpAny_pyIter_keyiter a hQ
theorem M3(lo:(d ==sysModules)=false):W.KdlSrc P w "dict" d d es.size (λi v=>∃y,es[i]?=some y/\v=y.key) (λh=>wV h d es ep) where
 type:=λs r=>r.ty
 there:=λh ⟨o,e,_⟩=>⟨aaK e,aaK e⟩
 keep:=λh h' r hk=>r.at λo e=>hk d (.inl rfl) o e
 notList:=by decide
 notTuple:=by decide
 hint:=λA E s Q r hq=>W.kdl_hint_dict r.ty hq
 iter:=λA s hh r=>⟨_,_,(λE Q hq=>Ez lo r hq),IF hh (by obtain⟨o,e,_⟩:=r;exact aa1 (aaK e)),⟨⟨_,aaO _ rfl,rfl,rfl⟩,r.at λo e=>aaC _ e⟩⟩
end
section
variable{X:Cx}{c_:Qqz}{Z:St}{H:Hp}{s:Shared}
theorem yP(hc:X.calm=true):uW X (.type "list") (λxs H Q=>∃d kvs,xs=[V.ref d]/\H d=some (.dT kvs)/\∀p bs,H p=none->Paired (λ(kv:List Key×V) (b:Addr)=>H b=some (.tup (kv.1.map kV))) kvs bs->Q (.ref p) (upd H p (.lst (bs.map V.ref)))):=by
 intro c_ s Z H xs us Q I r h
 obtain⟨d,kvs,rfl,hd,q⟩:=h
 obtain⟨u,rfl,ru⟩:=vals1 r
 cases (show u=Value.ref d from ru)
 obtain⟨hs,hz,es,ep,raw,sz,Sl⟩:=zM (I.iK d _ hd)
 refine W.kdl_call (M3 hs) (I.ok.hd hc) raw (by omega) λh' tk acc c hk hS AJ=>?_
 have hf:H s.heap.objs.size=none:=I.iK.fresh (XW _)
 have hb:∀i:Nat,i<kvs.length->∃k v b,kvs[i]?=some (k,v)/\(es[i]?.map DictEntry.key)=some (Value.ref b)/\H b=some (.tup (k.map kV)):=λi hi=>by
  have Bz:i<es.size:=by omega
  obtain⟨k,v,b,e1,e2,e3,_⟩:=Sl i es[i] (abg Bz)
  exact⟨k,v,b,e1,by rw[abg Bz,ab6,e2],e3⟩
 let adr:Value->Addr:=λv=>match v with|.ref b=>b|_=>0
 let bs:List Addr:=es.toList.map λy=>adr y.key
 have O4:bs.length=kvs.length:=by show(es.toList.map _).length=_;rw[O7,aa4];exact sz
 have Rq:∀(i:Nat)(b:Addr),bs[i]?=some b->∃k v,kvs[i]?=some (k,v)/\es[i]?.map DictEntry.key=some (Value.ref b)/\H b=some (.tup (k.map kV)):=λi b e=>by
  have hi:i<kvs.length:=by rw[<-O4];exact(List.getElem?_eq_some_iff.mp e).1
  obtain⟨k,v,b',e1,e2,e3⟩:=hb i hi
  have:bs[i]?=some b':=by
   show(es.toList.map _)[i]?=_
   rw[aao,abr]
   obtain⟨y,ey,e4⟩:=Option.map_eq_some_iff.mp e2
   rw[ey]
   show some (adr y.key)=_
   rw[e4]
  rw[this] at e
  cases e
  exact⟨k,v,e1,e2,e3⟩
 have rel:Vals (bs.map V.ref) acc.toList:=by
  refine pG (by have e1:=AJ.1;have e2:acc.toList.length=acc.size:=aa4;rw[O7,O4];omega) λi a b ha hb=>?_
  rw[aao] at ha
  obtain⟨b',e,rfl⟩:=Option.map_eq_some_iff.mp ha
  obtain⟨k,v,_,e2,_⟩:=Rq i b' e
  obtain⟨y,hy,hv⟩:=AJ.2 i b (by rw[<-abr];exact hb)
  rw[hy,ab6] at e2
  show b=.ref b'
  rw[hv,aaF e2]
 refine⟨.ref s.heap.objs.size,upd H s.heap.objs.size (.lst (bs.map V.ref)),I.laid (t':=tk) hk (XW _) ?_,rfl,q _ bs hf (pG O4.symm λi a b ha hb=>?_)⟩
 ·exact⟨by rw[O7,O4];exact hz,acc.toList,c,rel,by rw[Array.toArray_toList];exact hS⟩
 ·obtain⟨k,v,e1,_,e3⟩:=Rq i b hb
  rw[e1] at ha
  cases ha
  exact e3
end
section
variable{P:Program}{w:World}{Z:Type}[DecidableEq Z]{knd:HeapKind P w Z}{A:Around}{E:Qqq}{s:Shared}{d a:Addr}{xs:List (Z×Addr×Value)}{k:Z}
theorem Kt{v:Value}{Q:Unit->Shared->Prop}(hu:knd.room A)(hk:knd.is s.heap k a)(m:s.heap.DictOfH knd d xs)(hz:xs.length<=sizeLine)
  (q:∀h',h'.DictOfH knd d (storedH xs k a v)->Heap.SameBut d s.heap h'->Q () {s with heap:=h'}):wpAny (model P w) A (dictSetHashed d (.ref a) (knd.hash k) v) Q E s:=by
 obtain⟨o,es,ep,ho,hc,hd,he,Sm,hn⟩:=m
 have sz:=acy he
 unfold dictSetHashed
 try with_reducible refine abT ?_
 refine UW (wpAny_dictFind_heap hu hk ho hd he Sm hn (λno=>?_) λj p hj=>?_)
 ·have at0:=atKey_none_of_get no
  refine UW (wpAny_rule (wpAny_updateDictKeys (hz:=by omega) ho hd (q _ ?_ (abG ..))))
  rw[storedH_new at0]
  refine⟨_,_,ep+1,abp _ ho (Obj.isFreed_of_dict (Obj.data_mapDictKeys hd _)),hc.mapDictKeys _,Obj.data_mapDictKeys hd _,by simp[he,entryOfKey],λx hx=>?_,?_⟩
  ·refine knd.keeps ?_ ho hd (abG ..)
   rcases aal.mp hx with hx|hx
   ·exact Sm x hx
   ·rw[XT.mp hx];exact hk
  ·rw[aaH,abi]
   exact⟨hn,by simp,λx hx y hy z=>not_mem_keys_of_get no (by rw[XT.mp hy] at z;have z:x=k:=z;exact z▸hx)⟩
 ·have at1:=atKey_of_get hn hj
  refine UW (wpAny_rule (UW (wpAny_updateDict ho hd (wpAny_point (q _ ?_ (abG ..))))))
  rw[storedH_old at1]
  refine⟨_,_,ep,abp _ ho (Obj.isFreed_of_dict (Obj.data_mapDict hd _)),hc.mapDict _,Obj.data_mapDict hd _,?_,λx hx=>?_,by rw[keys_map_putAt];exact hn⟩
  ·have z:=modify_map_putAt (entryOfKey knd) (λe:DictEntry=>{e with val:=v}) k v (λ_ _=>rfl) hn hj
   rw[<-he] at z
   obtain⟨l⟩:=es
   simpa using z
  ·obtain⟨y,hy,rfl⟩:=List.mem_map.mp hx
   unfold putAt
   split<;>exact knd.keeps (Sm y hy) ho hd (abG ..)
def EC(xs:List (Z×Addr×Value))(k:Z):List (Z×Addr×Value):=xs.filter λx=>decide (x.1≠k)
theorem Gu{Y:Type}(f:Z×Addr×Value->Y):∀{xs:List (Z×Addr×Value)} {j:Nat} {p:Addr×Value},(xs.map (·.1)).Nodup->xs[j]?=some (k,p)->(xs.map f).eraseIdx j=(EC xs k).map f:=by
 intro xs
 induction xs with
 | nil=>intro j p _ hj;simp at hj
 | cons x r ih=>
  intro j p hn hj
  rw[aaL,aa9] at hn
  unfold EC
  cases j with
  | zero=>
   simp at hj
   have e:r.filter (λx=>decide (x.1≠k))=r:=List.filter_eq_self.mpr λy hy=>X0 λz=>hn.1 (by rw[hj];show k∈_;rw[<-z];exact aaf hy)
   rw[aaj (by rw[hj];simp),e]
   rfl
  | succ j=>
   have hj:r[j]?=some (k,p):=by simpa using hj
   have ne:x.1≠k:=λz=>hn.1 (by rw[z];exact List.mem_map.mpr ⟨_,XZ hj,rfl⟩)
   rw[YS (by simpa using ne),aaL,aaL,List.eraseIdx_cons_succ,ih hn.2 hj]
   rfl
theorem Ku{p:Addr×Value}{Q:Option DictEntry->Shared->Prop}(hu:knd.room A)(hk:knd.is s.heap k a)(m:s.heap.DictOfH knd d xs)(hz:xs.length<=sizeLine)(hp:atKey xs k=some p)
  (q:∀h',h'.DictOfH knd d (EC xs k)->Heap.SameBut d s.heap h'->Q (some ⟨knd.hash k,.ref p.1,p.2⟩) {s with heap:=h',toks:=s.toks+knd.draws k}):wpAny (model P w) A (Builtin.Dict.takeOut d (.ref a)) Q E s:=by
 obtain⟨o,es,ep,ho,hc,hd,he,Sm,hn⟩:=m
 have sz:=acy he
 unfold Builtin.Dict.takeOut
 try with_reducible refine abT ?_
 refine UW (knd.pyHash hu hk (UW (wpAny_dictFind_heap (s:={s with toks:=s.toks+knd.draws k}) hu hk ho hd he Sm hn (λno=>?_) λj p' hj=>?_)))
 ·rw[atKey_none_of_get no] at hp;cases hp
 ·have e:=atKey_of_get hn hj
  rw[hp] at e
  cases e
  refine UW (abw (s:={s with toks:=s.toks+knd.draws k}) ho hd ?_)
  rw[entry_at he j,hj]
  refine UW (wpAny_updateDictKeys (hz:=by omega) (s:={s with toks:=s.toks+knd.draws k}) ho hd (aaz (q _ ?_ (abG ..))))
  refine⟨_,_,ep+1,abp _ ho (Obj.isFreed_of_dict (Obj.data_mapDictKeys hd _)),hc.mapDictKeys _,Obj.data_mapDictKeys hd _,?_,λx hx=>knd.keeps (Sm x (aap.mp hx).1) ho hd (abG ..),(aa6.map _).nodup hn⟩
  have z:=Gu (k:=k) (entryOfKey knd) hn hj
  rw[<-he] at z
  rw[<-z]
  obtain⟨l⟩:=es
  simp
def kO(xs more:List (Z×Addr×Value)):List (Z×Addr×Value):=more.foldl (λacc x=>storedH acc x.1 x.2.1 x.2.2) xs
theorem ED{xs more:List (Z×Addr×Value)}{i:Nat}{x:Z×Addr×Value}(h:more[i]?=some x):kO xs (more.take (i+1))=storedH (kO xs (more.take i)) x.1 x.2.1 x.2.2:=by
 unfold kO
 rw[List.take_add_one,h,List.foldl_append]
 rfl
theorem EE(xs:List (Z×Addr×Value))(k:Z)(a:Addr)(v:Value):(storedH xs k a v).length<=xs.length+1:=by
 unfold storedH
 split
 ·rw[O7];omega
 ·rw[YO];exact XW _
theorem Gv(xs:List (Z×Addr×Value)):∀more:List (Z×Addr×Value),(kO xs more).length<=xs.length+more.length:=by
 intro more
 unfold kO
 induction more generalizing xs with
 | nil=>exact XW _
 | cons x r ih=>
  have h1:=ih (storedH xs x.1 x.2.1 x.2.2)
  have h2:=EE xs x.1 x.2.1 x.2.2
  rw[List.foldl_cons,aai]
  omega
theorem Gw{nm:String}{o:Addr}{more:List (Z×Addr×Value)}{Q:Unit->Shared->Prop}(hu:knd.room A)(ne:d≠o)(lo:(o ==sysModules)=false)(oe:xs≠[])(md:s.heap.DictOfH knd d xs)(mo:s.heap.DictOfH knd o more)(hz:xs.length+more.length<=sizeLine)
  (q:∀h',h'.DictOfH knd d (kO xs more)->Heap.SameBut d s.heap h'->Q () {s with heap:=h'}):wpAny (model P w) A (Builtin.Dict.mergeDict nm d o) Q E s:=by
 obtain⟨od,Wv,epd,Ww,Co,O5,Rr,nq,Rt⟩:=id md
 obtain⟨oo,Jt,epo,Wx,hco,LR,LK,hio,hno⟩:=id mo
 have szo:=acy LK
 have szd:=acy Rr
 unfold Builtin.Dict.mergeDict Builtin.Dict.showsAll
 rw[aaw (by simpa using ne),lo,aaw (λz=>by cases z)]
 refine UW (aaz (UW (abw Wx LR ?_)))
 dsimp only
 have loop:wpAny (model P w) A (do
   let UN <-dictEpoch o
   let l <-dictEntries o
   forIn [:l.size] PUnit.unit λi (_:PUnit)=>(do
     let l' <-dictEntries o
     match l'[i]? with
      | some e=>do
       holding [e.key,e.val] (dictSetHashed d e.key e.hash e.val)
       let OV <-dictEpoch o
       if(OV != UN)=true then do (unsupported (toString nm++toString ":source-changed-during-callback"):Sem PUnit);pure (ForInStep.yield PUnit.unit)
        else pure (ForInStep.yield PUnit.unit)
      | _=>do (unsupported "internal:dict-merge":Sem PUnit);pure (ForInStep.yield PUnit.unit):Sem (ForInStep PUnit))
   pure ()) Q E s:=by
  refine UW (wpAny_dictEpoch Wx LR (UW (abw Wx LR (UW ?_))))
  rw[Std.Legacy.Range.forIn_eq_forIn_range']
  simp only [Std.Legacy.Range.size,Nat.sub_zero,Nat.add_sub_cancel,Nat.div_one]
  refine wpAny_forIn_list _ (λrest _ s'=>∃h' i,s'={s with heap:=h'}/\rest=List.range' i (Jt.size-i)/\i<=Jt.size/\h'.DictOfH knd d (kO xs (more.take i))/\Heap.SameBut d s.heap h') _ ?_ ?_ _ _ ⟨s.heap,0,rfl,by simp,aaZ _,by simpa[kO] using md,Heap.SameBut.refl _ _⟩
  ·rintro x rest b s' ⟨h',i,rfl,hr,hi,hm,hs⟩
   have j2:i<Jt.size:=by
    rcases Nat.lt_or_ge i Jt.size with z|z
    ·exact z
    ·rw[Nat.sub_eq_zero_of_le z] at hr;simp at hr
   obtain⟨ex,er⟩:x=i/\rest=List.range' (i+1) (Jt.size-(i+1)):=by
    rw[show Jt.size-i=(Jt.size-(i+1))+1 by omega,acF] at hr
    exact List.cons.inj hr
   subst ex
   have UO:h'.get? o=some oo:=(hs.2 o (ab1 ne)).trans Wx
   refine UW (abw UO LR ?_)
   obtain⟨⟨k,b2,v⟩,hx⟩:∃y,more[x]?=some y:=⟨more[x]'(by omega),UR _⟩
   rw[entry_at LK x,hx]
   show wpAny _ _ (holding [Value.ref b2,v] (dictSetHashed d (.ref b2) (knd.hash k) v) >>= _) _ _ _
   have hl:(kO xs (more.take x)).length<=sizeLine:=by
    have:=Gv xs (more.take x)
    rw[aaP] at this
    omega
   have hib:knd.is h' k b2:=knd.keeps (hio _ (XZ hx)) Ww O5 hs
   refine UW (abT (Kt (s:={s with heap:=h'}) hu hib hm hl λh2 m2 s2=>?_))
   refine UW (wpAny_dictEpoch ((s2.2 o (ab1 ne)).trans UO) LR ?_)
   rw[aaw (by simp)]
   exact aaz ⟨h2,x+1,rfl,er,j2,by rw[ED hx];exact m2,hs.trans s2⟩
  ·rintro b s' ⟨h',i,rfl,hr,hi,hm,hs⟩
   have e:i=Jt.size:=by
    rcases Nat.lt_or_ge i Jt.size with z|z
    ·rw[show Jt.size-i=(Jt.size-(i+1))+1 by omega,acF] at hr;cases hr
    ·omega
   refine aaz (q h' ?_ hs)
   rw[e,szo,aaE] at hm
   exact hm
 split
 ·refine UW (abw Ww O5 ?_)
  rw[aaw (λz=>?_)]
  ·exact loop
  ·have:Wv=#[]:=Array.isEmpty_iff.mp z
   rw[this] at szd
   exact oe (aaR.mp szd.symm)
 ·exact loop
theorem Kv{o:Addr}{more:List (Z×Addr×Value)}{Q:Qqq}(hu:knd.room A.in1)(ne:d≠o)(lo:(o ==sysModules)=false)(oe:xs≠[])(md:s.heap.DictOfH knd d xs)(mo:s.heap.DictOfH knd o more)(hz:xs.length+more.length<=sizeLine)
  (q:∀h',h'.DictOfH knd d (kO xs more)->Heap.SameBut d s.heap h'->Q .none {s with heap:=h'}):wpAny (model P w) A (call (.builtin "dict.update") [.ref d,.ref o]) Q E s:=by
 refine aca ach md.typeIs PySem.F.entry_dict_update ?_ (PySem.F.args_dict_update_2 _ _)
 unfold Builtin.«dict.update» Builtin.Dict.selfAndRest
 refine UW (UW (wpAny_notOrdered_dict md.typeIs (show wpAny _ _ (pure (d,[Value.ref o])) _ _ s from aaz ?_)))
 show wpAny _ _ (Builtin.Dict.updateFrom "dict.update" d (.ref o) [] .none) _ _ s
 unfold Builtin.Dict.updateFrom
 refine UW (wpAny_typeOf mo.typeIs ?_)
 rw[aaw (by decide)]
 unfold Builtin.Dict.merge Builtin.Dict.readDirectly
 refine UW (UW (UW (wpAny_isInstance mo.typeIs isSubtype_dict_dict ?_)))
 simp only [Bool.not_true,aa_,acd]
 refine UW (acw mo.typeIs F.slot_dict_iter.lookup (aaz ?_))
 simp only [beq_self_eq_true,if_true]
 refine UW (aaz (Gw hu ne lo oe md mo hz λh' m s'=>?_))
 show wpAny _ _ (Builtin.Dict.addKeywords d [] >>= _) _ _ _
 exact UW (aaz (aaz ⟨.none,rfl,q h' m s'⟩))
end
def putAll{Z:Type}[DecidableEq Z](kvs more:List (Z×V)):List (Z×V):=more.foldl (λacc kv=>putK acc kv.1 kv.2) kvs
section
variable{Z:Type}[DecidableEq Z]
theorem rL(kvs:List (Z×V))(p:Z×V)(r:List (Z×V)):putAll kvs (p::r)=putAll (putK kvs p.1 p.2) r:=rfl
theorem qm:∀(more kvs:List (Z×V)),(putAll kvs more).length<=kvs.length+more.length
 | [],kvs=>XW _
 | p::r,kvs=>by
  have h1:=qm r (putK kvs p.1 p.2)
  have h2:=jq kvs p.1 p.2
  rw[rL,aai]
  omega
theorem kt_merged{H:Hp}{more:List (List Key×V)}{ys:List (List Key×Addr×Value)}(r:KT H more ys):∀{kvs:List (List Key×V)} {xs:List (List Key×Addr×Value)},KT H kvs xs->KT H (putAll kvs more) (kO xs ys):=by
 induction r with
 | nil=>intro kvs xs r;exact r
 | @cons p q ps qs f t ih=>
  intro kvs xs r
  have z:=r.put p.1 (b:=q.2.1) f.2.1 f.2.2
  have z2:=ih z
  rw[show kO xs (q::qs)=kO (storedH xs q.1 q.2.1 q.2.2) qs from rfl,<-show p.1=q.1 from f.1]
  exact z2
theorem IG{more:List (Z×V)}{ys:List (Z×Value)}(r:KV more ys):∀{kvs:List (Z×V)} {xs:List (Z×Value)},KV kvs xs->KV (putAll kvs more) (merged xs ys):=by
 induction r with
 | nil=>intro kvs xs r;exact r
 | @cons p q ps qs f t ih=>
  intro kvs xs r
  have z:=ih (KV.put r p.1 f.2)
  rw[show merged xs (q::qs)=merged (stored xs q.1 q.2) qs from rfl,<-show p.1=q.1 from f.1]
  exact z
end
section
variable{X:Cx}{c_:Qqz}{Z:St}{H:Hp}{s:Shared}{a b:Addr}{A:Around}{E:Qqq}
theorem M4{kvs:List (List Key×V)}{xs:List (List Key×Addr×Value)}(r:KT H kvs xs)(k:List Key):KT H (jU kvs k) (EC xs k):=by
 induction r with
 | nil=>exact .nil
 | @cons p q ps qs f t ih=>
  unfold jU EC
  by_cases e:p.1=k
  ·have e':q.1=k:=f.1.symm.trans e
   rw[aaj (by simp[e]),aaj (by simp[e'])]
   exact ih
  ·have e':¬q.1=k:=λz=>e (f.1.trans z)
   rw[YS (by simp[e]),YS (by simp[e'])]
   exact .cons f ih
theorem Qn{kvs more:List (List Key×V)}{Q:Qqq}(hu:A.units+1<cLine)(I:Inv X c_ Z H s)(ha:H a=some (.dT kvs))(hb:Rd H b (.dT more))(ne:a≠b)(h0:kvs≠[])(hz:kvs.length+more.length<=sizeLine)
  (h:∀s',Inv X c_ Z (upd H a (.dT (putAll kvs more))) s'->Q .none s'):wpAny (model X.prog X.w) A (call (.builtin "dict.update") [.ref a,.ref b]) Q E s:=by
 obtain⟨z,lo,xs,rel,dd⟩:=JW I.iK ha
 obtain⟨z2,YJ,ys,LS,YK⟩:=xT I.iK hb
 have l1:=aav rel
 have l2:=aav LS
 have x0:xs≠[]:=λe=>h0 (aaR.mp (by rw[l1,e];rfl))
 refine Kv (abY hu) ne YJ x0 dd YK (by omega) λh' m hs=>h _ ?_
 obtain⟨q,es,ep,hq,h2,h3,h4,_,h5⟩:=m
 refine tj (t':=s.toks) I (by rw[ha];exact True.intro) hs ⟨q,hq⟩ ⟨aan (qm _ _) hz,lo,_,(kt_merged LS rel).keeps λc ys ec=>?_,q,es,ep,hq,h2,h3,h4,h5⟩
 rw[d_ (iR ec ha (λz=>nomatch z))]
 exact ec
theorem Qo{kvs more:List (Key×V)}{Q:Qqq}(I:Inv X c_ Z H s)(ha:H a=some (.dK kvs))(hb:Rd H b (.dK more))(ne:a≠b)(hz:kvs.length+more.length<=sizeLine)
  (h:∀s',Inv X c_ Z (upd H a (.dK (putAll kvs more))) s'->Q .none s'):wpAny (model X.prog X.w) A (call (.builtin "dict.update") [.ref a,.ref b]) Q E s:=by
 obtain⟨z,lo,xs,rel,dd⟩:=JV I.iK ha
 obtain⟨z2,YJ,ys,LS,YK⟩:=xS I.iK hb
 have l1:=rel.length
 have l2:=LS.length
 refine call_meetsIn ach dd.typeIs PySem.F.entry_dict_update (PySem.F.args_dict_update_2 _ _) (meets_dict_update (jc X.prog X.w) a b ne YJ) ⟨xs,ys,dd,YK,by omega,λh' Mr _ hs=>h _ ?_⟩
 have he:∃q,h'.get? a=some q:=let ⟨q,_,_,hq,_⟩:=Mr;⟨q,hq⟩
 exact tj (t':=s.toks) I (by rw[ha];exact True.intro) hs he (Gn (aan (qm _ _) hz) lo (IG LS rel) Mr)
theorem Qp{kvs:List (List Key×V)}{k:List Key}{v:V}{Q:Qqq}(hu:A.units+1<cLine)(I:Inv X c_ Z H s)(ha:H a=some (.dT kvs))(hb:H b=some (.tup (k.map kV)))(l:iN kvs k=some v)
  (h:∀w' s',Inv X c_ Z (upd H a (.dT (jU kvs k))) s'->RelV v w'->Q w' s'):wpAny (model X.prog X.w) A (call (.builtin "dict.pop") [.ref a,.ref b]) Q E s:=by
 obtain⟨z,lo,xs,rel,dd⟩:=JW I.iK ha
 have l1:=aav rel
 obtain⟨w',hw,By⟩:=pz.some_of (v:=v) (o:=(atKey xs k).map (·.2)) (by rw[<-l];exact rel.val k)
 obtain⟨p,hp,A8⟩:=Option.map_eq_some_iff.mp hw
 obtain⟨od,Wv,epd,Ww,Co,O5,Rr,nq,Rt⟩:=id dd
 refine aca acv dd.typeIs PySem.F.entry_dict_pop ?_ (PySem.F.args_dict_pop_2 _ _)
 unfold Builtin.«dict.pop» Builtin.Dict.keyAndDefault
 refine UW (UW (wpAny_notOrdered_dict dd.typeIs (show wpAny _ _ (pure (a,Value.ref b,none)) _ _ s from aaz ?_)))
 have part:(keyPart (Value.ref b)).isSome=false:=rfl
 simp only [part,aa_,acd]
 refine UW (abw Ww O5 (UW (aaz ?_)))
 have ne:Wv.isEmpty=false:=by
  rw[ab3]
  intro e
  have e:Wv=#[]:=Array.isEmpty_iff.mp e
  have sz:=acy Rr
  rw[e] at sz
  have:xs=[]:=aaR.mp sz.symm
  rw[this] at hp
  cases hp
 simp only [ne,aa_,acd]
 refine UW (Ku (abY hu) (uo I.iK hb) dd (by omega) hp λh' m hs=>?_)
 simp only [Option.isNone_some,aa_,acd]
 refine UW (wpAny_letGo (aaz ⟨p.2,rfl,?_⟩))
 rw[A8]
 refine h w' _ ?_ By
 obtain⟨q,es,ep,hq,h2,h3,h4,_,h5⟩:=m
 refine tj I (by rw[ha];exact True.intro) hs ⟨q,hq⟩ ⟨aan (Et _ _) z,lo,_,(M4 rel k).keeps λc ys ec=>?_,q,es,ep,hq,h2,h3,h4,h5⟩
 rw[d_ (iR ec ha (λz=>nomatch z))]
 exact ec
theorem M5{d:Addr}{es:Array DictEntry}{ep:Nat}{Q:Qqq}{P:Program}{w:World}(lo:(d ==sysModules)=false)(r:wV s.heap d es ep)(fit:(es.size:Int)<2 ^ 63)
  (h:Q (.int es.size (s.toks+1)) {s with toks:=s.toks+1+1}):wpAny (model P w) A (Builtin.«len» ⟨[.ref d],[]⟩) (λfin s'=>∃r,fin=.done (.ret r)/\Q r s') E s:=by
 obtain⟨o,ho,hc,hd⟩:=id r
 unfold Builtin.«len»
 refine UW (m:=oneArg "len" _) (aaz (UW (m:=callSpecial? (.ref d) (Str.ofString "__len__")) (wpAny_callSpecial?_slot (name:=Str.ofString "__len__") r.ty F.slot_dict_len (aca F.slot_dict_len r.ty F.entry_dict_len ?_ (F.args_dict_len_1 _)))))
 show wpAny _ _ (dictSize d >>= _) _ _ s
 unfold dictSize
 refine UW (UW (abw ho hd (aaz ?_)))
 show wpAny _ _ (Builtin.Dict.pendingCount d >>= _) _ _ s
 refine UW (wpAny_pendingCount_other lo (wpAny_ret_mkInt ?_))
 show wpAny _ _ _ _ _ {s with toks:=s.toks+1}
 refine UW (abT (aaz (UW (wpAny_letGo ?_))))
 show wpAny _ _ (if((es.size+0:Nat):Int)<0 then _ else _) _ _ _
 rw[aaw (by omega),Nat.add_zero]
 show wpAny _ _ (if((es.size:Nat):Int)>=2 ^ 63 then _ else _) _ _ _
 rw[aaw (by omega)]
 exact UW (wpAny_mkInt (aaz ⟨_,rfl,h⟩))
theorem Gx{d:Addr}{es:Array DictEntry}{ep:Nat}{Q:Bool->Shared->Prop}{P:Program}{w:World}(lo:(d ==sysModules)=false)(r:wV s.heap d es ep)(fit:(es.size:Int)<2 ^ 63)
  (h:Q ((es.size:Int) != 0) {s with toks:=s.toks+1+1}):wpAny (model P w) A (truthy (.ref d)) Q E s:=by
 have key:wpAny (model P w) A (runValue (.builtin "len" ⟨[.ref d],[]⟩)) (λr s'=>r=.int es.size (s.toks+1)/\Q ((es.size:Int) != 0) s') E s:=by
  refine wpAny_runValue (codeAny_builtin entry_len ?_)
  rw[Around.under_plainId plain_len _]
  refine abK (M5 (Q:=λr s'=>r=.int es.size (s.toks+1)/\Q ((es.size:Int) != 0) s') lo r fit ⟨rfl,h⟩) (λfin s' h'=>?_) λ_ _ e=>e
  obtain⟨r,rfl,hq⟩:=h'
  exact hq
 unfold truthy
 first
  | refine UW (wpAny_callSpecial?_none (name:=Str.ofString "__bool__") r.ty noBool_dict ?_)
  | refine UW (aaz (UW (wpAny_callSpecial?_none (name:=Str.ofString "__bool__") r.ty noBool_dict ?_)))
 first
  | refine UW (acw (name:=Str.ofString "__len__") r.ty F.slot_dict_len.lookup ?_)
  | refine UW (aaz (UW (acw (name:=Str.ofString "__len__") r.ty F.slot_dict_len.lookup ?_)))
 first
  | exact UW (abK key (λr s' h'=>by obtain⟨rfl,hq⟩:=h';exact aaz hq) λ_ _ e=>e)
  | exact UW (aaz (UW (abK key (λr s' h'=>by obtain⟨rfl,hq⟩:=h';exact aaz hq) λ_ _ e=>e)))
end
def Qq(td ty:TE):TE:=λZ H Q=>td Z H λx H1=>∃a,x=.ref a/\R6 H1 a/\ty Z H1 λy H2=>∃b kvs more,y=.ref b/\H2 a=some (.dT kvs)/\Rd H2 b (.dT more)/\a≠b/\kvs≠[]/\kvs.length+more.length<=sizeLine/\Q .jb (upd H2 a (.dT (putAll kvs more)))
def Qr(td ty:TE):TE:=λZ H Q=>td Z H λx H1=>∃a,x=.ref a/\R6 H1 a/\ty Z H1 λy H2=>∃b kvs more,y=.ref b/\H2 a=some (.dK kvs)/\Rd H2 b (.dK more)/\a≠b/\kvs.length+more.length<=sizeLine/\Q .jb (upd H2 a (.dK (putAll kvs more)))
def Qs(td ty:TE):TE:=λZ H Q=>td Z H λx H1=>∃a,x=.ref a/\R6 H1 a/\ty Z H1 λy H2=>∃b kvs k v,y=.ref b/\H2 a=some (.dT kvs)/\H2 b=some (.tup (k.map kV))/\iN kvs k=some v/\Q v (upd H2 a (.dT (jU kvs k)))
section
variable{X:Cx}{o e f:Expr}{apos kW:Pos}{td ty tx:TE}
theorem Kw(hu:X.A.units+1<cLine)(ho:PE X o td)(he:PE X e ty)(m:M1 X o "update" apos e kW):PE X (.Call (.Attribute o "update" apos) [e] [] kW) (Qq td ty):=by
 intro c_ s Z H Q I h
 refine wpAny_Call_method m.base m.jL m.line ab2 ach PySem.F.type_dict_update (i0 (ho c_ s Z H _ I h) λu s1 iH=>?_)
 obtain⟨x,H1,I1,rx,a,ex,d,q1⟩:=iH
 subst ex
 obtain rfl:u=Value.ref a:=rx
 obtain⟨t1,t2,_⟩:=zB I1 d
 refine⟨t1,t2,?_⟩
 rw[m.trees]
 refine abB rfl (abL (aby (i0 (he c_ s1 Z H1 _ I1 q1) λiv s2 iH=>?_)))
 obtain⟨y,H2,I2,ry,b,kvs,more,ey,ha,hb,ne,h0,hz,q2⟩:=iH
 refine abO ?_
 subst ey
 obtain rfl:iv=Value.ref b:=ry
 exact Qn hu I2 ha hb ne h0 hz λs3 I3=>⟨.jb,_,I3,rfl,q2⟩
theorem Kx(ho:PE X o td)(he:PE X e ty)(m:M1 X o "update" apos e kW):PE X (.Call (.Attribute o "update" apos) [e] [] kW) (Qr td ty):=by
 intro c_ s Z H Q I h
 refine wpAny_Call_method m.base m.jL m.line ab2 ach PySem.F.type_dict_update (i0 (ho c_ s Z H _ I h) λu s1 iH=>?_)
 obtain⟨x,H1,I1,rx,a,ex,d,q1⟩:=iH
 subst ex
 obtain rfl:u=Value.ref a:=rx
 obtain⟨t1,t2,_⟩:=zB I1 d
 refine⟨t1,t2,?_⟩
 rw[m.trees]
 refine abB rfl (abL (aby (i0 (he c_ s1 Z H1 _ I1 q1) λiv s2 iH=>?_)))
 obtain⟨y,H2,I2,ry,b,kvs,more,ey,ha,hb,ne,hz,q2⟩:=iH
 refine abO ?_
 subst ey
 obtain rfl:iv=Value.ref b:=ry
 exact Qo I2 ha hb ne hz λs3 I3=>⟨.jb,_,I3,rfl,q2⟩
theorem Ky(hu:X.A.units+1<cLine)(ho:PE X o td)(he:PE X e ty)(m:M1 X o "pop" apos e kW):PE X (.Call (.Attribute o "pop" apos) [e] [] kW) (Qs td ty):=by
 intro c_ s Z H Q I h
 refine wpAny_Call_method m.base m.jL m.line ab2 acv PySem.F.type_dict_pop (i0 (ho c_ s Z H _ I h) λu s1 iH=>?_)
 obtain⟨x,H1,I1,rx,a,ex,d,q1⟩:=iH
 subst ex
 obtain rfl:u=Value.ref a:=rx
 obtain⟨t1,t2,_⟩:=zB I1 d
 refine⟨t1,t2,?_⟩
 rw[m.trees]
 refine abB rfl (abL (aby (i0 (he c_ s1 Z H1 _ I1 q1) λiv s2 iH=>?_)))
 obtain⟨y,H2,I2,ry,b,kvs,k,v,ey,ha,hb,l,q2⟩:=iH
 refine abO ?_
 subst ey
 obtain rfl:iv=Value.ref b:=ry
 exact Qp hu I2 ha hb l λw' s3 I3 By=>⟨v,_,I3,By,q2⟩
theorem IH{a:Expr}{ta:TE}(ha:PE X a ta)(he:∀whole,isTrue a X.env whole=(do let v <-whole;standAt a.pos;holding [v] (truthy v))) :
  PT X a (λZ H Q=>ta Z H λx H'=>∃p kvs,x=.ref p/\H' p=some (.dT kvs)/\Q (!kvs.isEmpty) H'):=by
 intro c_ s Z H Q I h
 refine isTrue_plain (i0 (ha c_ s Z H _ I h) λv s1 iH=>?_) (he _)
 obtain⟨x,H1,I1,r1,p,kvs,ex,hp,q⟩:=iH
 subst ex
 obtain rfl:v=Value.ref p:=r1
 obtain⟨lo,hz,es,ep,raw,sz,_⟩:=zM (I1.iK p _ hp)
 have hs:sizeLine=16777216:=acI
 refine Gx lo raw (by omega) ?_
 have e:((es.size:Int) != 0)=!kvs.isEmpty:=by rw[sz];cases kvs<;>simp<;>omega
 rw[e]
 exact⟨H1,I1.tok _,q⟩
end
theorem II:bootBuiltins "enumerate"=some (.type "enumerate"):=by decide+kernel
section
variable{X:Cx}{c_:Qqz}{Z:St}{H:Hp}{s:Shared}{h':Heap}
theorem Inv.M6{t':Nat}{a b:Addr}(I:Inv X c_ Z H s)(k:∀c o,c≠a->c≠b->s.heap.get? c=some o->h'.get? c=some o)(fa:uk X c_ H a)(fb:uk X c_ H b)
  (ha:∃o,h'.get? a=some o) (hb:∃o,h'.get? b=some o):Inv X c_ Z H {s with heap:=h',toks:=t'}:=by
 obtain⟨a0,a1,a2,a3,a4,a5⟩:=fa
 obtain⟨b0,b1,b2,b3,b4,b5⟩:=fb
 have na:∀c u,H c=some u->c≠a:=λc u e z=>by rw[z,a0] at e;cases e
 have nb:∀c u,H c=some u->c≠b:=λc u e z=>by rw[z,b0] at e;cases e
 have out:∀c,c∉[a,b]->c≠a/\c≠b:=λc hc=>⟨λz=>hc (by simp[z]),λz=>hc (by simp[z])⟩
 refine I.step (g':=s.gens) (d':=s.drawn) (ch:=[a,b]) (λc hc=>?_) (λc o _ _ hc e _=>k c o (out c hc).1 (out c hc).2 e) (λc o _ _ hc e _=>⟨o.slots,k c o (out c hc).1 (out c hc).2 e⟩) (λ_ _ _ _ n=>n)
  (λc o hc e=>⟨o,k c o (out c hc).1 (out c hc).2 e⟩) (λ_ _ e=>e) (λ_ _ _ e=>e) (λc ps e=>⟨#[],by rw[e];simp⟩) (λm hm=>?_) (λc u e=>?_) I.bare
 ·rcases aah.mp hc with z|z
  ·rw[z];exact⟨a3,a1,a4,a5⟩
  ·rw[XT.mp z];exact⟨b3,b1,b4,b5⟩
 ·obtain⟨o,es,ep,ho,r⟩:=hm
  exact⟨o,es,ep,k _ o (ab1 a1) (ab1 b1) ho,r⟩
 ·refine(I.iK c u e).zr (λd v hd q=>k d v ?_ ?_ q) (λ_ q=>q) λ_ _ q=>q
  ·rcases hd with z|z
   ·rw[z];exact na c u e
   ·exact na d _ z
  ·rcases hd with z|z
   ·rw[z];exact nb c u e
   ·exact nb d _ z
end
def TJ(t:TT):TT:=λZ H Q=>∃M:Bool->Hp->Prop,t Z H M/\∀b H',M b H'->Q b H'
theorem Kz{X:Cx}{e:Expr}{t:TT}(h:PT X e t):PT X e (TJ t):=λc_ s Z H Q I ⟨M,h1,h2⟩=>i0 (h c_ s Z H M I h1) λb s' ⟨H',I',q⟩=>⟨H',I',h2 b H' q⟩
def TK(K:Qqy)(a:Addr):It:=
 ⟨λi H=>∃xs x,gN K H a xs/\xs[i]?=some x,λi H x H'=>∃t y,H t=none/\x=.ref t/\H'=upd H t (.tup [.int i,y])/\∀xs,gN K H a xs->xs[i]?=some y,λi H=>∃xs,gN K H a xs/\xs.length<=i⟩
theorem IJ{P:Program}{w:World}{K:Qqy}{elts:List Expr}{x1}{pos:Pos}(a e it:Addr)(oe:e≠it):Turn P w K (.Tuple elts x1 pos) (TK K a) [e,it] e (λi h=>(∃old,IsEnum h e it ((i:Nat):Int) old)/\h.IsListIter it a i) where
 mem:=by simp
 obj:=λi h ⟨⟨old,Js⟩,Bw⟩ b hb=>by
  rcases aah.mp hb with z|z
  ·subst z;exact⟨_,Js,λv z=>by have z':Data.fields _=Data.cell v:=z;cases z'⟩
  ·rw[XT.mp z]
   obtain⟨o,ho,c,d⟩:=Bw
   exact⟨o,ho,λv z=>by rw[d] at z;cases z⟩
 keep:=λi h h' ⟨⟨old,Js⟩,Bw⟩ k=>⟨⟨old,k e (by simp) _ Js⟩,Bw.at λo ho=>k it (by simp) o ho⟩
 item:=by
  intro X hP hw hK hc i c_ s Z H E I hf ⟨⟨old,Js⟩,Bw⟩ hg
  subst hP hw hK
  obtain⟨xs,x,hq,hx⟩:=hg
  obtain⟨g_,rv,p,hz⟩:=I.list hq
  obtain⟨u,hu,ru⟩:=rv.get hx
  have fe:=hf e (by simp)
  have fi:=hf it (by simp)
  have YL:e<s.heap.objs.size:=aaK Js
  refine wpAny_pyNext_enum_item Js Bw p.isList (x:=u) (by simpa using hu) oe λh₁ LK YM ht1 hz1 hk1=>?_
  refine⟨_,rfl,?_⟩
  refine wpAny_letOwnedTupleGo_enum LK λh₂ he2 UP=>?_
  replace UP:Heap.SameBut e h₁ h₂:=UP
  have ht2:h₂.get? s.heap.objs.size=some {cls:=.type "tuple",data:=.seq #[.int i s.toks,u]}:=(UP.2 _ (Nat.ne_of_gt YL)).trans ht1
  have UQ:h₂.IsListIter it a (i+1):=YM.extBut UP.extBut (ab1 oe)
  have hfr:H s.heap.objs.size=none:=I.iK.fresh (XW _)
  have rT:Vals [.int i,x] [.int i s.toks,u]:=.cons ⟨s.toks,rfl⟩ (.cons ru .nil)
  have I1:Inv X c_ Z (upd H s.heap.objs.size (.tup [.int i,x])) {s with heap:=s.heap.push {cls:=.type "tuple",data:=.seq #[.int i s.toks,u]},toks:=s.toks}:=
   I.laid (t':=s.toks) (λb u e=>aaC _ e) (XW _) ⟨L2.jL,_,rT,⟨_,aaO _ rfl,rfl,_,rfl⟩⟩
  have up:∀b,uk X c_ H b->b<s.heap.objs.size->uk X c_ (upd H s.heap.objs.size (.tup [.int i,x])) b:=λb f hb=>by
   obtain⟨f0,r⟩:=f
   exact⟨by rw[d_ (aa1 hb)];exact f0,r⟩
  have Sn:it<s.heap.objs.size:=by obtain⟨o,ho,_⟩:=id Bw;exact aaK ho
  obtain⟨oi,Wy,_⟩:=id UQ
  have I2:=I1.M6 (h':=h₂) (t':=s.toks+1) (a:=e) (b:=it) (λc o h1 h2 hc=>?_) (up e fe YL) (up it fi Sn) ⟨_,he2⟩ ⟨oi,Wy⟩
  ·refine⟨.ref s.heap.objs.size,_,I2,rfl,⟨_,x,hfr,rfl,rfl,λys hy=>by rw[I.pB hy hq];exact hx⟩,⟨⟨u,?_⟩,UQ⟩,λb hb=>?_⟩
   ·have:((i+1:Nat):Int)=(i:Int)+1:=by push_cast;rfl
    rw[this];exact he2
   ·rcases aah.mp hb with z|z
    ·subst z;exact(up _ fe YL).1
    ·rw[XT.mp z];exact(up it fi Sn).1
  ·by_cases Wz:c=s.heap.objs.size
   ·subst Wz
    have:(s.heap.push {cls:=.type "tuple",data:=.seq #[.int i s.toks,u]}).get? s.heap.objs.size=some {cls:=.type "tuple",data:=.seq #[.int i s.toks,u]}:=aaO _ rfl
    rw[this] at hc;cases hc
    exact ht2
   ·have Bv:s.heap.get? c=some o:=(Heap.get?_push_cases hc).elim (λz=>absurd z.1 Wz) id
    exact(UP.2 c h1).trans (hk1 c o h1 h2 Bv)
 done:=by
  intro X hP hw hK hc i c_ s Z H E I hf ⟨⟨old,Js⟩,Bw⟩ hg
  subst hP hw hK
  obtain⟨xs,hq,hx⟩:=hg
  obtain⟨g_,rv,p,hz⟩:=I.list hq
  obtain⟨f0,f1,f2,f3,f4,f5⟩:=hf it (by simp)
  have hl:=rv.length
  exact wpAny_pyNext_enum_end (I.ok.hd hc) Js Bw p.isList (Array.getElem?_eq_none (by simp;omega)) λh' eb=>⟨rfl,I.turned (t':=s.toks) (λb o hb e=>eb b o hb e) f0 f1 f3 f4 f5⟩
 self:=λ_ _ _ _ _ ⟨⟨old,Js⟩,Bw⟩ h=>wpAny_pyIter_enum Js h
def TL(K:Qqy)(ta:TA):TI:=λZ H R=>ta Z H λvs H1=>∃a,vs=[.ref a]/\(∃xs,gN K H1 a xs)/\R (TK K a) H1
section
variable{X:Cx}
theorem M7{a:Expr}{ta:TA}{p pos:Pos}{elts:List Expr}{x1}{Ri:Pos}(hg:Gl X "enumerate")(hm:X.mg "enumerate"=none)(ha:PA X [a] ta)(hs:starEach [a] X.env=[(false,eval a X.env)]:=by rfl):PI X (.Tuple elts x1 Ri) (.Call (.Name "enumerate" p) [a] [] pos) (TL X.K ta):=by
 intro c_ s Z H R I h
 refine Call_ (o3 I hg hm II (abh (i0 (ha pos c_ s Z H _ I h) λus s1 iH=>?_) hs rfl))
 obtain⟨vs,H1,I1,r1,q1⟩:=iH
 obtain⟨l,rfl,⟨xs,hq⟩,q⟩:=q1
 obtain⟨u,rfl,ru⟩:=vals1 r1
 cases (show u=Value.ref l from ru)
 obtain⟨g_,rv,pp,hz⟩:=I1.list hq
 refine call_enumerate_list pp.isList λh' he hit hsz hk=>?_
 have I2:Inv X c_ Z H1 {s1 with heap:=h'}:=I1.kept (t':=s1.toks) hk
 refine wpAny_pyIter_enum he ?_
 refine⟨s1.heap.objs.size+1,[s1.heap.objs.size+1,s1.heap.objs.size],_,_,H1,rfl,I2,IJ l (s1.heap.objs.size+1) s1.heap.objs.size (Nat.succ_ne_self _),⟨⟨_,he⟩,hit⟩,λb hb=>?_,q⟩
 rcases aah.mp hb with z|z
 ·subst z;exact I1.zt (by omega) (I1.iK.fresh (by omega))
 ·rw[XT.mp z];exact I1.zt (XW _) (I1.iK.fresh (XW _))
theorem KA{K:PySem.W.Frag}{a:Addr}{xs:List V}{g:TG}{tb:TS}{D:Ends}{Z:St}{H:Hp}(Pv:Nat->St->Hp->Prop)(h0:Pv 0 Z H)(hl:∀i Z H,i<=xs.length->Pv i Z H->gN K H a xs)
  (hs:∀i x t Z H,xs[i]?=some x->Pv i Z H->H t=none->g (.ref t) Z (upd H t (.tup [.int i,x])) λZ2 H2=>tb {D with nx:=Pv (i+1),ct:=Pv (i+1),bk:=D.nx} Z2 H2) (hd:∀Z H,Pv xs.length Z H->D.nx Z H) :
  ∃W:Nat->Nat->St->Hp->Prop,(∃m,W 0 m Z H)/\∀i m Z H,W i m Z H->
   ((TK K a).stop i H/\D.nx Z H)\/((TK K a).go i H/\∃N:St->Hp->Prop,(∀Z' H',N Z' H'->∃m',m'<m/\W (i+1) m' Z' H')/\∀x H',(TK K a).JK i H x H'->g x Z H' λZ2 H2=>tb {D with nx:=N,ct:=N,bk:=D.nx} Z2 H2):=by
 refine⟨λi m Z H=>m=xs.length-i/\i<=xs.length/\Pv i Z H,⟨xs.length,by simp,aaZ _,h0⟩,?_⟩
 rintro i m Z H ⟨rfl,hi,p⟩
 have q:=hl i Z H hi p
 by_cases j2:i<xs.length
 ·refine .inr ⟨⟨xs,xs[i],q,UR j2⟩,Pv (i+1),λZ' H' p'=>⟨xs.length-(i+1),by omega,rfl,j2,p'⟩,λx H' y=>?_⟩
  obtain⟨t,z,ht,rfl,rfl,y⟩:=y
  exact hs i z t Z _ (y xs q) p ht
 ·have e:i=xs.length:=by omega
  subst e
  exact .inl ⟨⟨xs,q,XW _⟩,hd Z H p⟩
end
structure DF(K:Qqy)(mg:Qqx)(x:Str)(st:Stmt)(a:Addr)(d:FuncData)(ps:List Str):Prop where
 f:xU K x x st a d
 b:Binds K d ps []
 m:mg x=some (.ref a)
structure DM(K:Qqy)(C:Addr)(x q:Str)(st:Stmt)(a:Addr)(d:FuncData)(ps:List Str):Prop where
 f:xU K x q st a d
 b:Binds K d ps []
 t:Meth K C x a
def FI(K:Qqy)(x:Str)(st:Stmt)(f:Addr):Prop:=W.nsIn K mainGlobals x=some (some (.ref f))/\∃d,xU K x x st f d
def MI(K:Qqy)(C:Addr)(x q:Str)(st:Stmt)(f:Addr):Prop:=Meth K C x f/\∃d,xU K x q st f d
section
variable{K:Qqy}{x q:Str}{st:Stmt}{f C:Addr}{oc kV doc pm jt ct:Value}{od an:Option Addr}{JB:Array (Option Value)}
theorem TM(a:W.nsIn K mainGlobals x=some (some (.ref f)))(l:K.lookup f=some ⟨oc,od,.func (W.fnOf x x (oC st) (k_ st) (gp st) .none kV doc pm an jt ct),JB⟩)(c:W.codeIn K jt x=true)(k:W.keepIn K (.ref f)=true):FI K x st f:=⟨a,_,J3 l c k⟩
theorem TN(a:W.findIn K (.ref C) x=some (some (.ref f)))(i:W.isFn K (.ref f)=true)(l:K.lookup f=some ⟨oc,od,.func (W.fnOf x q (oC st) (k_ st) (gp st) .none kV doc pm an jt ct),JB⟩)(c:W.codeIn K jt q=true)(k:W.keepIn K (.ref f)=true):MI K C x q st f:=⟨⟨a,i,k⟩,_,J3 l c k⟩
end
theorem KC{X:Cx}{st:Stmt}{t:TS}(h:PS X st t):PS X st (λD Z H=>∃d o u,H d=some (.nj o u)/\zL X d/\t D Z (upd H d u)):=λc_ s Z H D I ⟨d,o,u,hd,nf,q⟩=>h c_ s Z _ D (I.wQ hd nf) q
noncomputable def scT(N P:List Str)(sc:Scope):Bool:=decide (sc.kind=.function)&&!sc.isCoroutine&&!sc.isGenerator&&decide N.Nodup&&decide (N.take P.length=P)&&P.all (λx=>decide (sc.names.lookup x=some .local)||decide (sc.names.lookup x=some .cell))&&sc.names.all (λy=>decide (y.2≠.free))
theorem mS{N P:List Str}{sc:Scope}(h:scT N P sc=true:=by decide+kernel):gH N P sc:=by
 unfold scT at h
 simp only [abn,acg,Bool.not_eq_true',abD,acJ] at h
 obtain⟨⟨⟨⟨⟨⟨a,b⟩,c⟩,d⟩,e⟩,f⟩,g⟩:=h
 exact⟨a,b,c,d,e,f,g⟩
section
variable{X:Cx}{x q m:Str}{st:Stmt}{f C:Addr}{fd:FuncData}{ps:List Str}{sp:Sp}{k j:Nat}{e o:Expr}{es:List Expr}{t:TA}{ta:TE}{p pos apos:Pos}{E:XK}
theorem oh(D:DF X.K X.mg x st f fd ps)(F:ie X.prog X.w X.K X.mg X.base mL k f fd ps sp)(hr:kC j X.A)(ha:PA X (e::es) t)(hk:k<=j:=by decide)(hg:Gl X x:=by rfl)(G2:(x ==("__debug__":Str))=false:=by decide)(he:starEach (e::es) X.env=(false,eval e X.env)::starEach es X.env:=by rfl)(nK:(backTo pos (starEach es X.env)).any (·.1)=false:=by rfl):PE X (.Call (.Name x p) (e::es) [] pos) (JP sp [] E0 t):=uY F (hr.mono hk) hg D.m D.f.kp D.b .nil pF ha G2 he nK
theorem XY(b:Bx X E)(D:DF X.K X.mg x st f fd ps)(F:ie X.prog X.w X.K X.mg X.base (tU X.prog X.w) k f fd ps sp)(hr:kC j X.A)(ha:PA X (e::es) t)(hk:k<=j:=by decide)(hg:Gl X x:=by rfl)(G2:(x ==("__debug__":Str))=false:=by decide)(he:starEach (e::es) X.env=(false,eval e X.env)::starEach es X.env:=by rfl)(nK:(backTo pos (starEach es X.env)).any (·.1)=false:=by rfl):PE X (.Call (.Name x p) (e::es) [] pos) (JP sp [] E t):=uY F (hr.mono hk) hg D.m D.f.kp D.b .nil (OE b) ha G2 he nK
theorem xW{pl:Sem Bool}(h:PE X o ta)(c:FP X.K C)(D:DM X.K C m q st f fd ps)(F:ie X.prog X.w X.K X.mg X.base mL k f fd ps sp)(hr:kC j X.A)(ha:PA X (e::es) t)(hk:k<=j:=by decide)(uH:starEach (e::es) X.env=(false,eval e X.env)::starEach es X.env:=by rfl)(nK:(backTo pos (starEach es X.env)).any (·.1)=false:=by rfl)
 (ht:eval (.Call (.Attribute o m apos) (e::es) [] pos) X.env=(do
  let ov <-eval o X.env
  standAt apos.atName
  let (f,first) <-holding [ov] (getMethod ov m pl)
  callWith pos f first (backTo pos (starEach (e::es) X.env)) (backToKw pos (keywordEach [] X.env))):=by rfl):PE X (.Call (.Attribute o m apos) (e::es) [] pos) (Hn C m sp [] E0 ta t):=Ho h c D.t F (hr.mono hk) D.b .nil pF ha uH nK ht
theorem zO(b:Bx X E){pl:Sem Bool}(h:PE X o ta)(c:FP X.K C)(D:DM X.K C m q st f fd ps)(F:ie X.prog X.w X.K X.mg X.base (tU X.prog X.w) k f fd ps sp)(hr:kC j X.A)(ha:PA X (e::es) t)(hk:k<=j:=by decide)(uH:starEach (e::es) X.env=(false,eval e X.env)::starEach es X.env:=by rfl)(nK:(backTo pos (starEach es X.env)).any (·.1)=false:=by rfl)
 (ht:eval (.Call (.Attribute o m apos) (e::es) [] pos) X.env=(do
  let ov <-eval o X.env
  standAt apos.atName
  let (f,first) <-holding [ov] (getMethod ov m pl)
  callWith pos f first (backTo pos (starEach (e::es) X.env)) (backToKw pos (keywordEach [] X.env))):=by rfl):PE X (.Call (.Attribute o m apos) (e::es) [] pos) (Hn C m sp [] E ta t):=Ho h c D.t F (hr.mono hk) D.b .nil (OE b) ha uH nK ht
end
section
variable{P:Program}{w:World}{K:Qqy}{mg:Qqx}{base:Heap}
theorem xU.rB{x qual:Str}{st:Stmt}{f:Addr}{fd:FuncData}{N ps:List Str}{k:Nat}{sp:Sp}(F:xU K x qual st f fd)(S:gH N ps (gp st))(wo:∀(jt:Value)(A:Around)(outer:List Env)(s:Shared)(H:Hp)(vs:List V)(Q:VK)(E:XK),kC k (A.deeper (envOfC qual (gp st) s.heap.objs.size f jt))->sp vs H Q E->∃t,FO (wG mL P w K mg base N qual (gp st) f jt A outer s H E).S7 (k_ st) t/\t {nx:=λ_ H'=>Q .jb H',rt:=Q} (start N vs) H)(len:∀vs H Q E,sp vs H Q E->vs.length=ps.length:=by intro _ _ _ _ h;repeat (first|(obtain⟨rfl,_⟩:=h;rfl)|obtain⟨_,h⟩:=h)):ie P w K mg base mL (k+1) f fd ps sp:=F.ok S len wo
theorem xU.rC{x qual:Str}{st:Stmt}{f:Addr}{fd:FuncData}{N ps:List Str}{k:Nat}{sp:Sp}(F:xU K x qual st f fd)(S:gH N ps (gp st))(wo:∀(jt:Value)(A:Around)(outer:List Env)(s:Shared)(H:Hp)(vs:List V)(Q:VK)(E:XK),kC k (A.deeper (envOfC qual (gp st) s.heap.objs.size f jt))->sp vs H Q E->∃t,FO (wG (tU P w) P w K mg base N qual (gp st) f jt A outer s H E) (k_ st) t/\t {nx:=λ_ H'=>Q .jb H',rt:=Q} (start N vs) H)(len:∀vs H Q E,sp vs H Q E->vs.length=ps.length:=by intro _ _ _ _ h;repeat (first|(obtain⟨rfl,_⟩:=h;rfl)|obtain⟨_,h⟩:=h)):ie P w K mg base (tU P w) (k+1) f fd ps sp:=F.ok1 S len wo
end
section
variable{X:Cx}{pos:Pos}
theorem kZ(i:Nat){x:Str}{e:Expr}{te:TE}{pos':Pos}{N ps:List Str}{sc:Scope}(S:gH N ps sc)(he:PE X e te)(hN:X.N=N:=by rfl)(hi:X.N[i]?=some x:=by rfl)(hx:X.env.scope.names.lookup x=some .local:=by rfl)(hs:swapsWith e (some (.Name x pos')) pos.line X.env=pure false:=by rfl):PS X (.Assign [.Name x pos'] e pos) (JJ te (lA i)):=lx (hN▸S.nd) hi (.inl hx) he hs (.inr hx)
theorem tM(i:Nat){x:Str}{N ps:List Str}{sc:Scope}(S:gH N ps sc)(hN:X.N=N:=by rfl)(hi:X.N[i]?=some x:=by rfl)(hx:X.env.scope.names.lookup x=some .local:=by rfl):PG X (.Name x pos) (lA i):=ir (hN▸S.nd) hi (.inl hx) (.inr hx)
end
section
variable{K:Qqy}
theorem xU.bd{x qual:Str}{st:Stmt}{f:Addr}{fd:FuncData}{ps:List Str}(F:xU K x qual st f fd)(h:∀(kV doc pm:Value)(an:Option Addr)(jt ct:Value)(us:List Value),us.length=ps.length->bindArgs (W.fnOf x qual (oC st) (k_ st) (gp st) .none kV doc pm an jt ct) ⟨us,[]⟩=pure (ps.zip us):=by intro _ _ _ _ _ _ us hl;(repeat (rcases us with _|⟨_,us⟩<;>first|(simp at hl;done)|skip));rfl):Binds K fd ps []:=F.binds h
end
section
variable{X:Cx}{a b:Expr}{ta tb:TE}{pos:Pos}{k:Nat}
theorem kJ(ha:PE X a ta)(hb:PE X b tb)(hs:Hs b:=by exact λ_ _=>rfl):PE X (.Subscript a b pos) (Wc (Tr X.K) ta tb):=jo kK ha hb hs
theorem zP(hr:kC k X.A)(ha:PE X a ta)(hb:PE X b tb)(hs:P_ b:=by exact λ_ _=>rfl):PE X (.Subscript a b pos) (OC ta tb):=MR (iS hr) ha hb hs
theorem zc(h:PE X a ta)(e:ta=tb:=by(try simp only [kL]);rfl):∃t,PE X a t/\t=tb:=⟨_,h,e⟩
end
end L2
namespace K01
section
variable{Z:Type}[DecidableEq Z]
def lcs:List Z->List Z->Nat
 | [],_=>0
 | _::_,[]=>0
 | a::as,b::bs=>if b=a then lcs as bs+1 else max (lcs as (b::bs)) (lcs (a::as) bs)
termination_by x y=>x.length+y.length
def nQ(x y:List Z)(n:Nat):Prop:=(∀s:List Z,s.Sublist x->s.Sublist y->s.length<=n)/\∃s:List Z,s.Sublist x/\s.Sublist y/\s.length=n
theorem nQ.uniq{x y:List Z}{n m:Nat}(h:nQ x y n)(g:nQ x y m):n=m:=by
 obtain⟨h1,s,a,b,e⟩:=h
 obtain⟨g1,t,c,d,f⟩:=g
 have:=g1 s a b
 have:=h1 t c d
 omega
theorem nQ.EF(y:List Z):nQ [] y 0:=⟨λs a _=>by have:=a.length_le;simpa using this,[],aaV _,List.nil_sublist _,rfl⟩
theorem nQ.BV(x:List Z):nQ x [] 0:=⟨λs _ b=>by have:=b.length_le;simpa using this,[],List.nil_sublist _,aaV _,rfl⟩
theorem lQ{s as:List Z}{a:Z}(h:s.Sublist (a::as)):s.Sublist as\/∃t,s=a::t/\t.Sublist as:=by
 cases h with
 | cons _ h=>exact .inl h
 | cons_cons _ h=>exact .inr ⟨_,rfl,h⟩
theorem nQ.eq{as bs:List Z}{a:Z}{n:Nat}(h:nQ as bs n):nQ (a::as) (a::bs) (n+1):=by
 obtain⟨h1,s,x,y,e⟩:=h
 refine⟨λt c d=>?_,a::s,x.cons_cons a,y.cons_cons a,by rw[aai,e]⟩
 rcases lQ c with c2|⟨u,e2,c2⟩
 ·rcases lQ d with d2|⟨v,e3,d2⟩
  ·have:=h1 t c2 d2;omega
  ·subst e3
   have:=h1 v ((abM a v).trans c2) d2
   rw[aai];omega
 ·have d':u.Sublist bs:=by
   subst e2
   rcases lQ d with d2|⟨v,e',d2⟩
   ·exact(abM a u).trans d2
   ·cases e';exact d2
  have:=h1 u c2 d'
  subst e2
  rw[aai];omega
theorem nQ.ne{as bs:List Z}{a b:Z}{n m:Nat}(G4:a≠b)(h:nQ as (b::bs) n)(g:nQ (a::as) bs m):nQ (a::as) (b::bs) (max n m):=by
 obtain⟨h1,s,x,y,e⟩:=h
 obtain⟨g1,s',x',y',e'⟩:=g
 refine⟨λt c d=>?_,?_⟩
 ·rcases lQ c with c'|⟨u,rfl,_⟩
  ·have:=h1 t c' d;omega
  ·rcases lQ d with d'|⟨v,e,_⟩
   ·have:=g1 _ c d';omega
   ·cases e;exact absurd rfl G4
 ·by_cases Ru:m<=n
  ·exact⟨s,x.cons a,y,by omega⟩
  ·exact⟨s',x',y'.cons b,by omega⟩
theorem j4:∀x y:List Z,nQ x y (lcs x y)
 | [],y=>by rw[lcs];exact .EF y
 | a::as,[]=>by rw[lcs];exact .BV _
 | a::as,b::bs=>by
  rw[lcs]
  by_cases h:b=a
  ·rw[aay h];subst h;exact(j4 as bs).eq
  ·rw[aaw h];exact .ne (λe=>h e.symm) (j4 as (b::bs)) (j4 (a::as) bs)
termination_by x y=>x.length+y.length
theorem M8(x:List Z):lcs x []=0:=(j4 x []).uniq (.BV x)
theorem Hv(y:List Z):lcs [] y=0:=(j4 [] y).uniq (.EF y)
theorem zQ{x x' y y':List Z}(h:x.Sublist x')(g:y.Sublist y'):lcs x y<=lcs x' y':=by
 obtain⟨_,s,a,b,e⟩:=j4 x y
 rw[<-e]
 exact(j4 x' y').1 s (a.trans h) (b.trans g)
theorem EG(x y:List Z):lcs x y<=x.length:=by
 obtain⟨_,s,a,b,e⟩:=j4 x y
 rw[<-e];exact a.length_le
def i6(a:Z)(new:List Z)(j:Nat):Option Nat:=((new.drop j).findIdx? (·=a)).map (j+·)
def pH(new:List Z):Nat->List Z->Nat->List (Nat×Nat)
 | _,[],_=>[]
 | i,a::as,j=>match i6 a new j with
  | none=>pH new (i+1) as j
  | some k=>if lcs as (new.drop (k+1))+1=lcs (a::as) (new.drop j) then(i,k)::pH new (i+1) as (k+1) else pH new (i+1) as j
def kept(old new:List Z):List (Nat×Nat):=pH new 0 old 0
theorem kD{a:Z}{new:List Z}{j k:Nat}(h:i6 a new j=some k):j<=k/\new[k]?=some a/\∀l,j<=l->l<k->new[l]?≠some a:=by
 unfold i6 at h
 cases e:(new.drop j).findIdx? (·=a) with
 | none=>rw[e] at h;cases h
 | some d=>
  rw[e] at h
  have h:j+d=k:=aaF h
  subst h
  obtain⟨hd,h1,h2⟩:=List.findIdx?_eq_some_iff_getElem.mp e
  have h1:(new.drop j)[d]=a:=by simpa using h1
  refine⟨Nat.le_add_right _ _,?_,λl hl hk q=>?_⟩
  ·rw[<-acq,UR hd,h1]
  ·have:=h2 (l-j) (by omega)
   have hq:(new.drop j)[l-j]?=some a:=by rw[acq,show j+(l-j)=l by omega];exact q
   obtain⟨hh,he⟩:=List.getElem?_eq_some_iff.mp hq
   simp[he] at this
theorem nR{a:Z}{new:List Z}{j:Nat}(h:i6 a new j=none):∀l,j<=l->new[l]?≠some a:=by
 unfold i6 at h
 cases e:(new.drop j).findIdx? (·=a) with
 | some d=>rw[e] at h;cases h
 | none=>
  intro l hl q
  have hq:(new.drop j)[l-j]?=some a:=by rw[acq,show j+(l-j)=l by omega];exact q
  have:=List.findIdx?_eq_none_iff.mp e a (XZ hq)
  simp at this
theorem KD{a:Z}{as y:List Z}(h:a∉y):lcs (a::as) y=lcs as y:=by
 refine(j4 (a::as) y).uniq ⟨λs c d=>?_,?_⟩
 ·rcases lQ c with c|⟨t,rfl,c⟩
  ·exact(j4 as y).1 s c d
  ·exact absurd (d.subset aaD) h
 ·obtain⟨_,s,c,d,e⟩:=j4 as y
  exact⟨s,c.cons a,d,e⟩
theorem qo{new:List Z}{k:Nat}{a:Z}(h:new[k]?=some a):new.drop k=a::new.drop (k+1):=by
 obtain⟨hk,e⟩:=List.getElem?_eq_some_iff.mp h
 rw[aa7 hk,e]
theorem zR{new:List Z}{j k:Nat}(h:j<=k):(new.drop k).Sublist (new.drop j):=by
 have:new.drop k=(new.drop j).drop (k-j):=by rw[List.drop_drop];congr 1;omega
 rw[this];exact List.drop_sublist _ _
theorem CL{a:Z}{as new:List Z}{j l:Nat}(hl:j<=l)(h:new[l]?=some a):lcs as (new.drop (l+1))+1<=lcs (a::as) (new.drop j):=by
 have:lcs (a::as) (new.drop l)<=lcs (a::as) (new.drop j):=zQ (aaV _) (zR hl)
 rw[qo h,lcs,aay rfl] at this
 exact this
theorem zS{a:Z}{as new:List Z}{j k:Nat}(h:i6 a new j=some k)(oe:lcs as (new.drop (k+1))+1≠lcs (a::as) (new.drop j)):lcs (a::as) (new.drop j)=lcs as (new.drop j):=by
 obtain⟨US,hk,N5⟩:=kD h
 have h1:=CL (as:=as) US hk
 have h2:lcs as (new.drop j)<=lcs (a::as) (new.drop j):=zQ (abM a as) (aaV _)
 obtain⟨hs,s,c,d,e⟩:=j4 (a::as) (new.drop j)
 rcases lQ c with c2|⟨t,es,c2⟩
 ·have:=(j4 as (new.drop j)).1 s c2 d;omega
 ·exfalso
  subst es
  have key:∀(n:Nat)(j:Nat),k-j=n->j<=k->(∀l,j<=l->l<k->new[l]?≠some a)->(a::t).Sublist (new.drop j)->t.Sublist (new.drop (k+1)):=by
   intro n
   induction n with
   | zero=>
    intro j e1 e2 _ d
    have:j=k:=by omega
    subst this
    rw[qo hk] at d
    rcases lQ d with d|⟨u,e,d⟩
    ·exact(abM a t).trans d
    ·cases e;exact d
   | succ n ih=>
    intro j e1 e2 hm d
    have hj:j<new.length:=by
     have:=(List.getElem?_eq_some_iff.mp hk).1;omega
    rw[aa7 hj] at d
    rcases lQ d with d|⟨u,e,_⟩
    ·exact ih (j+1) (by omega) (by omega) (λl hl=>hm l (by omega)) d
    ·exfalso
     have e0:a=new[j]:=(List.cons.inj e).1
     exact hm j (XW _) (by omega) (by rw[UR hj,<-e0])
  have ht:=key _ j rfl US N5 d
  have:=(j4 as (new.drop (k+1))).1 t c2 ht
  rw[aai] at e
  omega
theorem IK{a:Z}{as new:List Z}{j:Nat}(h:i6 a new j=none):lcs (a::as) (new.drop j)=lcs as (new.drop j):=by
 refine KD λm=>?_
 obtain⟨l,hl⟩:=aaU.mp m
 rw[acq] at hl
 exact nR h (j+l) (Nat.le_add_right _ _) hl
theorem lR(new:List Z):∀(old:List Z)(i j:Nat),(pH new i old j).length=lcs old (new.drop j)
 | [],i,j=>by rw[pH,Hv];rfl
 | a::as,i,j=>by
  unfold pH
  cases h:i6 a new j with
  | none=>simp only;rw[lR new as,IK h]
  | some k=>
   simp only
   by_cases hc:lcs as (new.drop (k+1))+1=lcs (a::as) (new.drop j)
   ·rw[aay hc,aai,lR new as];exact hc
   ·rw[aaw hc,lR new as,zS h hc]
inductive Good(old new:List Z):Nat->Nat->List (Nat×Nat)->Prop
 | nil (i j):Good old new i j []
 | cons {i j p q r} (h1:i<=p) (h2:j<=q) (a:Z) (e1:old[p]?=some a) (e2:new[q]?=some a)
  (h3:∀l m,i<=l->l<=p->j<=m->(l<p\/m<q)->∀b,old[l]?=some b->new[m]?=some b->¬r.length<=lcs (old.drop (l+1)) (new.drop (m+1)))
  (t:Good old new (p+1) (q+1) r):Good old new i j ((p,q)::r)
theorem Good.back{old new:List Z}{i j:Nat}{a:Z}{r:List (Nat×Nat)}(ha:old[i]?=some a)(hl:r.length=lcs (old.drop (i+1)) (new.drop j))(hn:∀m,j<=m->new[m]?=some a->lcs (old.drop (i+1)) (new.drop (m+1))+1≠r.length/\lcs (old.drop (i+1)) (new.drop (m+1))+1<=r.length)
  (h:Good old new (i+1) j r):Good old new i j r:=by
 cases h with
 | nil=>exact .nil _ _
 | @cons _ _ p q r h1 h2 b e1 e2 h3 t=>
  refine .cons (by omega) h2 b e1 e2 (λl m N6 FR hm j2 c c1 c2 hle=>?_) t
  by_cases e:l=i
  ·subst e
   rw[ha] at c1
   cases c1
   have z:=hn m hm c2
   rw[aai] at z
   omega
  ·exact h3 l m (by omega) FR hm j2 c c1 c2 hle
theorem qp{old new:List Z}:∀(rest:List Z)(i j:Nat),old.drop i=rest->Good old new i j (pH new i rest j)
 | [],i,j,_=>by rw[pH];exact .nil _ _
 | a::as,i,j,e=>by
  have ha:old[i]?=some a:=by
   have:(old.drop i)[0]?=some a:=by rw[e];rfl
   rwa [acq,Nat.add_zero] at this
  have e':old.drop (i+1)=as:=by
   have:=qo ha;rw[e] at this;exact(List.cons.inj this).2.symm
  have L:=lR new as (i+1) j
  unfold pH
  cases h:i6 a new j with
  | none=>
   simp only
   refine Good.back ha (by rw[L,e']) (λm hm q=>absurd q (nR h m hm)) (qp as (i+1) j e')
  | some k=>
   obtain⟨US,hk,N5⟩:=kD h
   simp only
   by_cases hc:lcs as (new.drop (k+1))+1=lcs (a::as) (new.drop j)
   ·rw[aay hc]
    refine .cons (XW _) US a ha hk (λl m N6 FR hm j2 b c1 c2 _=>?_) (qp as (i+1) (k+1) e')
    have:l=i:=by omega
    subst this
    rw[ha] at c1
    cases c1
    exact N5 m hm (by omega) c2
   ·rw[aaw hc]
    have S:=zS h hc
    refine Good.back ha (by rw[L,e']) (λm hm q=>?_) (qp as (i+1) j e')
    rw[L,e',<-S]
    have h1:=CL (as:=as) hm q
    refine⟨λz=>?_,h1⟩
    have hkm:k<=m:=by
     rcases Nat.lt_or_ge m k with z'|z'
     ·exact absurd q (N5 m hm z')
     ·exact z'
    have h2:lcs as (new.drop (m+1))<=lcs as (new.drop (k+1)):=zQ (aaV _) (zR (by omega))
    have h3:=CL (as:=as) US hk
    omega
theorem BW(old new:List Z):Good old new 0 0 (kept old new):=qp old 0 0 rfl
theorem xX(old new:List Z):(kept old new).length=lcs old new:=lR new old 0 0
def pre(old new:List Z)(i k:Nat):Nat:=lcs (old.take i) (new.take k)
def wW(old new:List Z)(i j:Nat):Nat:=lcs (old.drop i) (new.drop j)
theorem zd{old new:List Z}{i j:Nat}(h:old.length<=i\/new.length<=j):wW old new i j=0:=by
 unfold wW
 rcases h with h|h
 ·rw[List.drop_eq_nil_of_le h,Hv]
 ·rw[List.drop_eq_nil_of_le h,M8]
theorem M9{old new:List Z}{i j:Nat}{a b:Z}(ha:old[i]?=some a)(hb:new[j]?=some b) :
  wW old new i j=if b=a then wW old new (i+1) (j+1)+1 else max (wW old new (i+1) j) (wW old new i (j+1)):=by
 unfold wW
 rw[qo ha,qo hb,lcs,<-qo ha,<-qo hb]
end
end K01
namespace PM
open PySem
abbrev Nm:=Str×Nat
structure Ln where
 nm:Nm
 tx:Str
 up:Option Nm
 lo:Option Nm
 deriving DecidableEq
structure Pt where
 nm:Str
 file:Option Str
 iw:List Ln
 js:List Nm
 other:Option Str
 deriving DecidableEq
noncomputable def nu:List Pt->List Str->List Pt
 | [],_=>[]
 | p::r,t=>if p.nm∈t then nu r t else p::nu r (match p.other with|some o=>o::t|none=>t)
noncomputable def live(ps:List Pt):List Pt:=(nu ps.reverse []).reverse
def gA(ps:List Pt)(f:Str):List Ln:=(ps.filter λp=>p.file=some f).flatMap (·.iw)
def gone(ps:List Pt):List Nm:=ps.flatMap (·.js)
noncomputable def ji(ps:List Pt)(f:Str):List Ln:=(gA (live ps) f).filter λl=>l.nm∉gone (live ps)
theorem wX:∀(ps:List Pt)(t:List Str),(nu ps t).Sublist ps
 | [],_=>aaV _
 | p::r,t=>by
  unfold nu
  split
  ·exact(wX r t).cons p
  ·exact(wX r _).cons_cons p
theorem vc(ps:List Pt):(live ps).Sublist ps:=by
 have:=(wX ps.reverse []).reverse
 rwa [List.reverse_reverse] at this
theorem vd{ps qs:List Pt}(h:ps.Sublist qs)(f:Str):(gA ps f).Sublist (gA qs f):=by
 unfold gA
 have h:=h.filter (λp=>decide (p.file=some f))
 generalize ps.filter _=a at h
 generalize qs.filter _=b at h
 induction h with
 | slnil=>exact aaV _
 | cons x _ ih=>rw[aaW];exact ih.trans (abk _ _)
 | cons_cons x _ ih=>rw[aaW,aaW];exact(aaV _).append ih
theorem j5(ps:List Pt)(f:Str):(ji ps f).Sublist (gA ps f):=
 aa6.trans (vd (vc ps) f)
def Sa(ls:List Ln)(m n:Nm):Prop:=∃l∈ls,(l.nm=n/\l.up=some m)\/(l.nm=m/\l.lo=some n)
inductive Ah(ls:List Ln):Nm->Nm->Prop
 | one {m n}:Sa ls m n->Ah ls m n
 | M_ {m k n}:Ah ls m k->Sa ls k n->Ah ls m n
theorem Ah.trans{ls:List Ln}{m k n:Nm}(a:Ah ls m k)(b:Ah ls k n):Ah ls m n:=by
 induction b with
 | one h=>exact .M_ a h
 | M_ _ h ih=>exact .M_ ih h
theorem Sa.mono{l1 l2:List Ln}(h:∀l∈l1,l∈l2){m n:Nm}(a:Sa l1 m n):Sa l2 m n:=by
 obtain⟨l,hl,q⟩:=a
 exact⟨l,h l hl,q⟩
theorem Ah.mono{l1 l2:List Ln}(h:∀l∈l1,l∈l2){m n:Nm}(a:Ah l1 m n):Ah l2 m n:=by
 induction a with
 | one x=>exact .one (x.mono h)
 | M_ _ x ih=>exact .M_ ih (x.mono h)
theorem Ah.last{ls:List Ln}{m n:Nm}:Ah ls m n↔Sa ls m n\/∃k,Ah ls m k/\Sa ls k n:=by
 constructor
 ·intro h
  cases h with
  | one x=>exact .inl x
  | M_ a x=>exact .inr ⟨_,a,x⟩
 ·rintro(x|⟨k,a,x⟩)
  ·exact .one x
  ·exact .M_ a x
def Rk(ls:List Ln)(rk:Nm->Nat):Prop:=∀l∈ls,(∀m,l.up=some m->rk m<rk l.nm)/\(∀m,l.lo=some m->rk l.nm<rk m)
def KG(ls:List Ln):Prop:=∃rk,Rk ls rk
theorem Rk.sa{ls:List Ln}{rk:Nm->Nat}(r:Rk ls rk){m n:Nm}(h:Sa ls m n):rk m<rk n:=by
 obtain⟨l,hl,⟨rfl,e⟩|⟨rfl,e⟩⟩:=h
 ·exact(r l hl).1 m e
 ·exact(r l hl).2 n e
theorem Rk.ah{ls:List Ln}{rk:Nm->Nat}(r:Rk ls rk){m n:Nm}(h:Ah ls m n):rk m<rk n:=by
 induction h with
 | one x=>exact r.sa x
 | M_ _ x ih=>exact Nat.lt_trans ih (r.sa x)
def qr(ls:List Ln):Prop:=∀l∈ls,(∀m,l.up=some m->m∈ls.map (·.nm))/\(∀m,l.lo=some m->m∈ls.map (·.nm))
theorem qr.sa{ls:List Ln}(c:qr ls){m n:Nm}(h:Sa ls m n):m∈ls.map (·.nm)/\n∈ls.map (·.nm):=by
 obtain⟨l,hl,⟨rfl,e⟩|⟨rfl,e⟩⟩:=h
 ·exact⟨(c l hl).1 m e,aaf hl⟩
 ·exact⟨aaf hl,(c l hl).2 n e⟩
theorem qr.ah{ls:List Ln}(c:qr ls){m n:Nm}(h:Ah ls m n):m∈ls.map (·.nm)/\n∈ls.map (·.nm):=by
 induction h with
 | one x=>exact c.sa x
 | M_ _ x ih=>exact⟨ih.1,(c.sa x).2⟩
section
open Classical
variable(lt:Nm->Nm->Prop)
noncomputable def free(ls:List Ln)(l:Ln):Bool:=decide (∀o∈ls,¬lt o.nm l.nm)
noncomputable def q9:Nat->List Ln->List Ln
 | 0,_=>[]
 | n+1,ls=>match ls.find? (free lt ls) with
  | none=>[]
  | some l=>l::q9 n (ls.filter λo=>o.nm≠l.nm)
noncomputable def rowOf(ls:List Ln):List Ln:=q9 lt ls.length ls
def ltAt(row:List Ln)(i j:Nat):Prop:=∃a b,row[i]?=some a/\row[j]?=some b/\lt a.nm b.nm
noncomputable def ja(row:List Ln):List (Nat×Nat):=
 (List.range row.length).flatMap λi=>((List.range' (i+1) (row.length-(i+1))).filter λj=>decide (¬ltAt lt row i j)).map λj=>(i,j)
variable{lt}
theorem rM{rk:Nm->Nat}(hr:∀m n,lt m n->rk m<rk n):∀(ls:List Ln),ls≠[]->∃l,ls.find? (free lt ls)=some l:=by
 intro ls hn
 have least:∀(xs:List Ln),xs≠[]->∃l∈xs,∀o∈xs,rk l.nm<=rk o.nm:=by
  intro xs
  induction xs with
  | nil=>intro h;exact absurd rfl h
  | cons x r ih=>
   intro _
   by_cases h:r=[]
   ·subst h;exact⟨x,by simp,λo ho=>by simp at ho;rw[ho];exact XW _⟩
   ·obtain⟨l,hl,hm⟩:=ih h
    by_cases hx:rk x.nm<=rk l.nm
    ·refine⟨x,by simp,λo ho=>?_⟩
     rcases aah.mp ho with rfl|ho
     ·exact XW _
     ·exact aan hx (hm o ho)
    ·refine⟨l,aam _ hl,λo ho=>?_⟩
     rcases aah.mp ho with rfl|ho
     ·omega
     ·exact hm o ho
 obtain⟨l,hl,hm⟩:=least ls hn
 have hf:free lt ls l=true:=X0 λo ho j2=>by have:=hr _ _ j2;have:=hm o ho;omega
 cases e:ls.find? (free lt ls) with
 | some x=>exact⟨x,rfl⟩
 | none=>exact absurd hf (by have:=List.find?_eq_none.mp e l hl;simpa using this)
theorem l_{ls:List Ln}(nd:(ls.map (·.nm)).Nodup){l:Ln}(hl:l∈ls):(ls.filter λo=>o.nm≠l.nm).length+1=ls.length:=by
 induction ls with
 | nil=>cases hl
 | cons x r ih=>
  rw[aaL,aa9] at nd
  rcases aah.mp hl with rfl|hl
  ·have e:r.filter (λo=>decide (o.nm≠l.nm))=r:=List.filter_eq_self.mpr λo ho=>X0 λz=>nd.1 (z▸aaf ho)
   rw[aaj (by simp),e,aai]
  ·have hx:x.nm≠l.nm:=λz=>nd.1 (z▸aaf hl)
   rw[YS (by simpa using hx),aai,aai,ih nd.2 hl]
theorem mT{ls:List Ln}(nd:(ls.map (·.nm)).Nodup)(p:Ln->Bool):((ls.filter p).map (·.nm)).Nodup:=(aa6.map _).nodup nd
theorem ur{rk:Nm->Nat}(hr:∀m n,lt m n->rk m<rk n):∀(n:Nat)(ls:List Ln),n=ls.length->(ls.map (·.nm)).Nodup->(q9 lt n ls).Perm ls
 | 0,ls,e,_=>by
  have:ls=[]:=aaR.mp e.symm
  subst this;exact List.Perm.refl _
 | n+1,ls,e,nd=>by
  have hn:ls≠[]:=λz=>by subst z;cases e
  obtain⟨l,hf⟩:=rM hr ls hn
  have hl:l∈ls:=List.mem_of_find?_eq_some hf
  unfold q9
  rw[hf]
  have hlen:=l_ nd hl
  have ih:=ur hr n (ls.filter λo=>o.nm≠l.nm) (by omega) (mT nd _)
  refine(ih.cons l).trans ?_
  clear ih hf hlen e hn
  induction ls with
  | nil=>cases hl
  | cons x r ih=>
   rw[aaL,aa9] at nd
   rcases aah.mp hl with rfl|hl
   ·have e:r.filter (λo=>decide (o.nm≠l.nm))=r:=List.filter_eq_self.mpr λo ho=>X0 λz=>nd.1 (z▸aaf ho)
    rw[aaj (by simp),e]
   ·have hx:x.nm≠l.nm:=λz=>nd.1 (z▸aaf hl)
    rw[YS (by simpa using hx)]
    exact(List.Perm.swap _ _ _).trans ((ih nd.2 hl).cons x)
theorem zT{rk:Nm->Nat}(hr:∀m n,lt m n->rk m<rk n){ls:List Ln}(nd:(ls.map (·.nm)).Nodup):(rowOf lt ls).Perm ls:=ur hr _ ls rfl nd
theorem ve{rk:Nm->Nat}(hr:∀m n,lt m n->rk m<rk n):∀(n:Nat)(ls:List Ln),n=ls.length->(ls.map (·.nm)).Nodup->(q9 lt n ls).Pairwise λa b=>¬lt b.nm a.nm
 | 0,ls,_,_=>List.Pairwise.nil
 | n+1,ls,e,nd=>by
  have hn:ls≠[]:=λz=>by subst z;cases e
  obtain⟨l,hf⟩:=rM hr ls hn
  have hl:l∈ls:=List.mem_of_find?_eq_some hf
  have hlen:=l_ nd hl
  unfold q9
  rw[hf]
  refine List.Pairwise.cons (λb hb=>?_) (ve hr n _ (by omega) (mT nd _))
  have hb:=(ur hr n (ls.filter λo=>o.nm≠l.nm) (by omega) (mT nd _)).subset hb
  have hp:=List.find?_some hf
  exact aaB hp b (aap.mp hb).1
theorem vg{rk:Nm->Nat}(hr:∀m n,lt m n->rk m<rk n){ls:List Ln}(nd:(ls.map (·.nm)).Nodup):(rowOf lt ls).Pairwise λa b=>¬lt b.nm a.nm:=ve hr _ ls rfl nd
end
def EH(sf:Nm->List Nm)(S:List Nm)(x:Nm):List Nm:=(sf x).filter λy=>y∉S
inductive Run(sf:Nm->List Nm)(B:Nat):Nat->List Nm->List Nm->Prop
 | nil {S}:Run sf B 0 [] S
 | skip {n x st S}:x∈S->(x::st).length<=B->Run sf B n st S->Run sf B (n+1) (x::st) S
 | fin {n x st S}:x∉S->EH sf S x=[]->(x::st).length<=B->Run sf B n st (S++[x])->Run sf B (n+1) (x::st) S
 | push {n x st S}:x∉S->EH sf S x≠[]->(x::st).length<=B->Run sf B n ((EH sf S x).reverse++x::st) S->Run sf B (n+1) (x::st) S
theorem CM{sf:Nm->List Nm}{S:List Nm}{x:Nm}:EH sf S x=[]↔∀y∈sf x,y∈S:=by
 unfold EH
 rw[List.filter_eq_nil_iff]
 exact⟨λh y hy=>by simpa using h y hy,λh y hy=>by simpa using h y hy⟩
theorem Na{sf:Nm->List Nm}{B N:Nat}(cr:Nm->Nat)(hN:∀x,(sf x).length<=N)(hc:∀x y,y∈sf x->cr y<cr x):∀(k:Nat)(x:Nm),cr x<=k->∀(st S:List Nm),st.length+1+N*cr x<=B->
  (∀S',(∀y∈S,y∈S')->x∈S'->∃n,Run sf B n st S')->∃n,Run sf B n (x::st) S:=by
 intro k
 induction k with
 | zero=>
  intro x hx st S hB go
  by_cases hm:x∈S
  ·obtain⟨n,r⟩:=go S (λ_ h=>h) hm
   exact⟨n+1,.skip hm (by rw[aai];omega) r⟩
  ·have e:EH sf S x=[]:=CM.mpr λy hy=>by have:=hc x y hy;omega
   obtain⟨n,r⟩:=go (S++[x]) (λ_ h=>aaJ _ h) (by simp)
   exact⟨n+1,.fin hm e (by rw[aai];omega) r⟩
 | succ k ih=>
  intro x hx st S hB go
  have hlen:(x::st).length<=B:=by rw[aai];omega
  by_cases hm:x∈S
  ·obtain⟨n,r⟩:=go S (λ_ h=>h) hm
   exact⟨n+1,.skip hm hlen r⟩
  ·by_cases e:EH sf S x=[]
   ·obtain⟨n,r⟩:=go (S++[x]) (λ_ h=>aaJ _ h) (by simp)
    exact⟨n+1,.fin hm e hlen r⟩
   ·
    have many:∀(ms:List Nm)(S0:List Nm),(∀y∈ms,y∈sf x)->ms.length<=N->(∀S',(∀y∈S0,y∈S')->(∀y∈ms,y∈S')->∃n,Run sf B n (x::st) S')->∃n,Run sf B n (ms++x::st) S0:=by
     intro ms
     induction ms with
     | nil=>intro S0 _ _ h;exact h S0 (λ_ z=>z) (λy hy=>by cases hy)
     | cons m r ihm=>
      intro S0 hs hl h
      have So:=hc x m (hs m aaD)
      rw[aai] at hl
      refine ih m (by omega) (r++x::st) S0 ?_ λS1 h1 YH=>ihm S1 (λy hy=>hs y (aam _ hy)) (by omega) λS2 h2 h3=>h S2 (λy hy=>h2 y (h1 y hy)) λy hy=>?_
      ·rw[YO,aai]
       have:N*cr m+N<=N*cr x:=by rw[<-Nat.mul_succ];exact Nat.mul_le_mul_left N So
       omega
      ·rcases aah.mp hy with z|z
       ·rw[z];exact h2 m YH
       ·exact h3 y z
    have BA:(EH sf S x).length<=N:=aan (aaY _ _) (hN x)
    have cont:∀S',(∀y∈S,y∈S')->(∀y∈(EH sf S x).reverse,y∈S')->∃n,Run sf B n (x::st) S':=λS' h1 h2=>by
     by_cases Ms:x∈S'
     ·obtain⟨n,r⟩:=go S' h1 Ms
      exact⟨n+1,.skip Ms hlen r⟩
     ·have e':EH sf S' x=[]:=CM.mpr λy hy=>by
       by_cases Wq:y∈S
       ·exact h1 y Wq
       ·exact h2 y (List.mem_reverse.mpr (aap.mpr ⟨hy,by simpa using Wq⟩))
      obtain⟨n,r⟩:=go (S'++[x]) (λy hy=>aaJ _ (h1 y hy)) (by simp)
      exact⟨n+1,.fin Ms e' hlen r⟩
    obtain⟨n,r⟩:=many (EH sf S x).reverse S (λy hy=>(aap.mp (List.mem_reverse.mp hy)).1) (by rw[abF];exact BA) cont
    exact⟨n+1,.push hm e hlen r⟩
def R_(ls:List Ln)(rk:Nm->Nat)(n:Nm):Nat:=(ls.filter λl=>rk l.nm<rk n).length
theorem Qt(ls:List Ln)(rk:Nm->Nat)(n:Nm):R_ ls rk n<=ls.length:=aaY _ _
theorem Qu{ls:List Ln}{rk:Nm->Nat}{m n:Nm}(hm:m∈ls.map (·.nm))(h:rk m<rk n):R_ ls rk m<R_ ls rk n:=by
 unfold R_
 have mono:∀{a b:Ln->Bool} {xs:List Ln},(∀x∈xs,a x=true->b x=true)->(xs.filter a).length<=(xs.filter b).length:=by
  intro a b xs G4
  induction xs with
  | nil=>exact XW _
  | cons x r ih=>
   have ih:=ih λy hy=>G4 y (aam _ hy)
   by_cases ha:a x=true
   ·rw[YS ha,YS (G4 x aaD ha),aai,aai];omega
   ·rw[aaj ha]
    by_cases hb:b x=true
    ·rw[YS hb,aai];omega
    ·rw[aaj hb];exact ih
 obtain⟨l,hl,rfl⟩:=List.mem_map.mp hm
 obtain⟨a,b,rfl⟩:=List.append_of_mem hl
 rw[aaI,aaI,YO,YO]
 rw[aaj (by simp),YS (by simpa using h),aai]
 have h1:=mono (a:=λx:Ln=>decide (rk x.nm<rk l.nm)) (b:=λx=>decide (rk x.nm<rk n)) (xs:=a) λx _ hx=>by simp at hx ⊢;omega
 have h2:=mono (a:=λx:Ln=>decide (rk x.nm<rk l.nm)) (b:=λx=>decide (rk x.nm<rk n)) (xs:=b) λx _ hx=>by simp at hx ⊢;omega
 omega
theorem len_sub{xs ys:List Nm}(nd:xs.Nodup)(h:∀x∈xs,x∈ys):xs.length<=ys.length:=by
 induction xs generalizing ys with
 | nil=>exact aaZ _
 | cons a r ih=>
  rw[aa9] at nd
  obtain⟨p,q,rfl⟩:=List.append_of_mem (h a aaD)
  have:=ih (ys:=p++q) nd.2 λz hz=>by
   have:=h z (aam _ hz)
   rcases aal.mp this with w|w
   ·exact aaJ _ w
   ·rcases aah.mp w with w|w
    ·exact absurd (w▸hz) nd.1
    ·exact aaX _ w
  rw[YO] at this
  rw[aai,YO,aai]
  omega
theorem KH{ls:List Ln}(cl:qr ls)(tp:KG ls){sf:Nm->List Nm}(hs:∀n,(sf n).Nodup/\∀m,m∈sf n↔Sa ls m n)(x:Nm)(S:List Nm):∃n,Run sf (1+ls.length*ls.length) n [x] S:=by
 obtain⟨rk,hr⟩:=tp
 have YN:∀n,(sf n).length<=ls.length:=λn=>by
  have:=len_sub (ys:=ls.map (·.nm)) (hs n).1 λy hy=>(cl.sa (((hs n).2 y).mp hy)).1
  rw[O7] at this
  exact this
 refine Na (N:=ls.length) (R_ ls rk) YN (λx y hy=>?_) _ x (XW _) [] S ?_ λS' _ _=>⟨0,.nil⟩
 ·have h:=((hs x).2 y).mp hy
  exact Qu (cl.sa h).1 (hr.sa h)
 ·have:=Nat.mul_le_mul_left ls.length (Qt ls rk x)
  show 0+1+ls.length*R_ ls rk x<=1+ls.length*ls.length
  omega
def EI(n m:Nat)(qs:List (Nat×Nat)):Prop:=qs.Pairwise (λa b=>a.1<b.1/\a.2<b.2)/\∀q∈qs,q.1<n/\q.2<m
theorem IL{Z:Type}[DecidableEq Z]{old new:List Z}{i j:Nat}{qs:List (Nat×Nat)}(g:K01.Good old new i j qs):EI old.length new.length qs/\∀q∈qs,i<=q.1/\j<=q.2:=by
 induction g with
 | nil=>exact⟨⟨List.Pairwise.nil,λq hq=>by cases hq⟩,λq hq=>by cases hq⟩
 | @cons i j p q r h1 h2 a e1 e2 h3 t ih=>
  obtain⟨⟨h4,h5⟩,h6⟩:=ih
  refine⟨⟨List.Pairwise.cons (λb hb=>?_) h4,λb hb=>?_⟩,λb hb=>?_⟩
  ·have:=h6 b hb
   exact⟨by show p<b.1;omega,by show q<b.2;omega⟩
  ·rcases aah.mp hb with rfl|hb
   ·exact⟨(List.getElem?_eq_some_iff.mp e1).1,(List.getElem?_eq_some_iff.mp e2).1⟩
   ·exact h5 b hb
  ·rcases aah.mp hb with rfl|hb
   ·exact⟨h1,h2⟩
   ·have:=h6 b hb
    omega
theorem pI{Z:Type}[DecidableEq Z](old new:List Z):EI old.length new.length (K01.kept old new):=(IL (K01.BW old new)).1
noncomputable def l6(row:List Ln):List (Nat×Nat)->Nat->Option Nm
 | [],_=>none
 | q::r,s=>if q.2=s then(row[q.1]?).map (·.nm) else l6 row r s
def qt(row:List Ln)(qs:List (Nat×Nat)):List Nm:=qs.filterMap λq=>(row[q.1]?).map (·.nm)
theorem CN{row:List Ln}{qs:List (Nat×Nat)}{s:Nat}{m:Nm}(h:l6 row qs s=some m):∃q∈qs,q.2=s/\∃l,row[q.1]?=some l/\l.nm=m:=by
 induction qs with
 | nil=>cases h
 | cons q r ih=>
  unfold l6 at h
  by_cases e:q.2=s
  ·rw[aay e] at h
   obtain⟨l,hl,e2⟩:=Option.map_eq_some_iff.mp h
   exact⟨q,aaD,e,l,hl,e2⟩
  ·rw[aaw e] at h
   obtain⟨q',hq,z⟩:=ih h
   exact⟨q',aam _ hq,z⟩
theorem CO{row:List Ln}{m:Nat}:∀{qs:List (Nat×Nat)},EI row.length m qs->∀s,(l6 row qs s).isSome=decide (s∈qs.map (·.2))
 | [],_,s=>rfl
 | q::r,h,s=>by
  have hr:EI row.length m r:=⟨(List.pairwise_cons.mp h.1).2,λx hx=>h.2 x (aam _ hx)⟩
  unfold l6
  by_cases e:q.2=s
  ·rw[aay e,UR (h.2 q aaD).1,X0 (by rw[aaL,e];exact aaD)];rfl
  ·rw[aaw e,CO hr s,aaL]
   by_cases z:s∈r.map (·.2)
   ·rw[X0 z,X0 (aam _ z)]
   ·rw[aaq z,aaq (λw=>(aah.mp w).elim (λw=>e w.symm) z)]
theorem Nb{row:List Ln}{qs:List (Nat×Nat)}{m:Nat}{rk:Nm->Nat}(h:EI row.length m qs)(hr:row.Pairwise λa b=>rk a.nm<rk b.nm){s t:Nat}{a b:Nm}(hs:l6 row qs s=some a)(ht:l6 row qs t=some b)(uH:s<t):rk a<rk b:=by
 obtain⟨q1,h1,e1,l1,r1,rfl⟩:=CN hs
 obtain⟨q2,h2,e2,l2,r2,rfl⟩:=CN ht
 have j2:q1.1<q2.1:=by
  obtain⟨i,hi,ei⟩:=List.mem_iff_getElem.mp h1
  obtain⟨j,hj,ej⟩:=List.mem_iff_getElem.mp h2
  have hp:=aa8.mp h.1
  rcases Nat.lt_trichotomy i j with z|z|z
  ·have:=hp i j hi hj z;rw[ei,ej] at this;exact this.1
  ·subst z;rw[ei] at ej;subst ej;omega
  ·have:=hp j i hj hi z;rw[ei,ej] at this;omega
 obtain⟨g1,w1⟩:=List.getElem?_eq_some_iff.mp r1
 obtain⟨g2,w2⟩:=List.getElem?_eq_some_iff.mp r2
 have:=aa8.mp hr _ _ g1 g2 j2
 rw[w1,w2] at this
 exact this
def Hw(kn:Nat->Option Nm):Nat->Nat->Option Nm
 | 0,_=>none
 | k+1,i=>match kn (i+1) with|some m=>some m|none=>Hw kn k (i+1)
noncomputable def qw(p:Str)(kn:Nat->Option Nm):Nat->Nat->Option Nm->List Str->List Ln
 | _,_,_,[]=>[]
 | i,j,u,t::r=>match kn i with
  | some m=>qw p kn (i+1) j (some m) r
  | none=>⟨(p,j),t,u,Hw kn r.length i⟩::qw p kn (i+1) (j+1) (some (p,j)) r
noncomputable def ki(p:Str)(texts:List Str)(kn:Nat->Option Nm):List Ln:=qw p kn 0 0 none texts
noncomputable def jV(p f:Str)(row:List Ln)(texts:List Str):Pt:=
 ⟨p,some f,ki p texts (l6 row (K01.kept (row.map (·.tx)) texts)),(row.filter λl=>l.nm∉qt row (K01.kept (row.map (·.tx)) texts)).map (·.nm),none⟩
theorem vj(p:Str)(kn:Nat->Option Nm):∀(r:List Str)(i j:Nat)(u:Option Nm),(qw p kn i j u r).map (·.nm)=(List.range' j (qw p kn i j u r).length).map λk=>(p,k)
 | [],_,_,_=>rfl
 | t::r,i,j,u=>by
  unfold qw
  cases h:kn i with
  | some m=>exact vj p kn r (i+1) j (some m)
  | none=>
   simp only [aaL,aai,acF]
   rw[vj p kn r (i+1) (j+1) (some (p,j))]
theorem zU(p:Str)(kn:Nat->Option Nm):∀(r:List Str)(i j:Nat)(u:Option Nm),(qw p kn i j u r).length=((List.range' i r.length).filter λk=>(kn k).isNone).length
 | [],_,_,_=>rfl
 | t::r,i,j,u=>by
  unfold qw
  rw[aai,acF]
  cases h:kn i with
  | some m=>rw[aaj (by simp[h])];exact zU p kn r (i+1) j (some m)
  | none=>rw[YS (by simp[h]),aai];simp only [aai];rw[zU p kn r (i+1) (j+1) (some (p,j))]
theorem CP{kn:Nat->Option Nm}{m:Nm}:∀{k i:Nat},Hw kn k i=some m->∃t,i<t/\t<=i+k/\kn t=some m
 | 0,_,h=>by cases h
 | k+1,i,h=>by
  unfold Hw at h
  cases e:kn (i+1) with
  | some m'=>
   rw[e] at h
   cases h
   exact⟨i+1,by omega,by omega,e⟩
  | none=>
   rw[e] at h
   obtain⟨t,h1,h2,h3⟩:=CP (k:=k) (i:=i+1) h
   exact⟨t,by omega,by omega,h3⟩
theorem ze{p:Str}{kn:Nat->Option Nm}:∀(r:List Str)(i j:Nat)(u:Option Nm),∀l∈qw p kn i j u r,∀m,l.up=some m\/l.lo=some m->(u=some m\/∃t,kn t=some m)\/m∈(qw p kn i j u r).map (·.nm)
 | [],_,_,_,l,hl,_,_=>by cases hl
 | t::r,i,j,u,l,hl,m,hm=>by
  unfold qw at hl ⊢
  cases h:kn i with
  | some m'=>
   rw[h] at hl
   rcases ze r (i+1) j (some m') l hl m hm with(z|z)|z
   ·exact .inl (.inr ⟨i,by rw[h];exact z⟩)
   ·exact .inl (.inr z)
   ·exact .inr z
  | none=>
   rw[h] at hl
   rcases aah.mp hl with rfl|hl
   ·rcases hm with hm|hm
    ·exact .inl (.inl hm)
    ·obtain⟨t,_,_,e⟩:=CP hm
     exact .inl (.inr ⟨t,e⟩)
   ·rcases ze r (i+1) (j+1) (some (p,j)) l hl m hm with(z|z)|z
    ·cases z
     exact .inr (by rw[aaL];exact aaD)
    ·exact .inl (.inr z)
    ·exact .inr (aam _ z)
def KI(rk:Nm->Nat)(kn:Nat->Option Nm):Nat->Nat
 | 0=>0
 | i+1=>match kn i with|some m=>rk m+1|none=>KI rk kn i
def X8(kn:Nat->Option Nm)(n j:Nat):Nat:=(((List.range n).filter λk=>(kn k).isNone)[j]?).getD 0
noncomputable def Gy(rk:Nm->Nat)(kn:Nat->Option Nm)(p:Str)(n:Nat)(x:Nm):Nat:=if x.1=p then KI rk kn (X8 kn n x.2)*(n+1)+x.2+1 else(rk x+1)*(n+1)
theorem KJ{rk:Nm->Nat}{kn:Nat->Option Nm}(hk:∀s t a b,kn s=some a->kn t=some b->s<t->rk a<rk b):∀i t b,kn t=some b->i<=t->KI rk kn i<=rk b
 | 0,_,_,_,_=>aaZ _
 | i+1,t,b,h,hi=>by
  unfold KI
  cases e:kn i with
  | some m=>exact hk i t m b e h (by omega)
  | none=>exact KJ hk i t b h (by omega)
theorem Qv{kn:Nat->Option Nm}{n i:Nat}(hi:i<n)(h:kn i=none):X8 kn n ((List.range i).filter λk=>(kn k).isNone).length=i:=by
 unfold X8
 have e:List.range n=List.range i++i::List.range' (i+1) (n-(i+1)):=by
  have h1:List.range n=List.range i++(List.range' i (n-i)):=by
   have:=List.range'_append_1 (s:=0) (m:=i) (n:=n-i)
   rw[Nat.zero_add,show i+(n-i)=n by omega] at this
   rw[List.range_eq_range',List.range_eq_range',this]
  rw[h1,show n-i=(n-(i+1))+1 by omega,acF]
 rw[e,aaI,YS (by simp[h]),abl (XW _),Nat.sub_self]
 rfl
theorem CQ{rk:Nm->Nat}{kn:Nat->Option Nm}{p:Str}{n:Nat}(hk:∀s t a b,kn s=some a->kn t=some b->s<t->rk a<rk b)(hp:∀s a,kn s=some a->a.1≠p) :
  ∀(r:List Str)(i j:Nat)(u:Option Nm),i+r.length=n->j=((List.range i).filter λk=>(kn k).isNone).length->(∀m,u=some m->Gy rk kn p n m<=KI rk kn i*(n+1)+j)->
   Rk (qw p kn i j u r) (Gy rk kn p n)
 | [],_,_,_,_,_,_=>λl hl=>by cases hl
 | t::r,i,j,u,hn,hj,hu=>by
  rw[aai] at hn
  have G3:i<n:=by omega
  have Ju:j<=i:=by rw[hj];exact aan (aaY _ _) (by rw[abR];exact XW _)
  have e1:(List.range (i+1)).filter (λk=>(kn k).isNone)=(List.range i).filter (λk=>(kn k).isNone)++if(kn i).isNone then[i] else[]:=by
   rw[acz,aaI]
   congr 1
   cases h:(kn i).isNone<;>simp[h]
  unfold qw
  cases h:kn i with
  | some m=>
   refine CQ hk hp r (i+1) j (some m) (by omega) (by rw[e1,h];simpa using hj) λm' e=>?_
   cases e
   unfold Gy
   rw[aaw (hp i m h),KI.eq_2,h]
   show(rk m+1)*(n+1)<=(rk m+1)*(n+1)+j
   omega
  | none=>
   have LU:Gy rk kn p n (p,j)=KI rk kn i*(n+1)+j+1:=by
    unfold Gy
    rw[aay rfl,hj,Qv G3 h]
   have hb:KI rk kn (i+1)=KI rk kn i:=by rw[KI.eq_2,h]
   intro l hl
   rcases aah.mp hl with rfl|hl
   ·refine⟨λm hm=>?_,λm hm=>?_⟩
    ·have:=hu m hm
     show Gy rk kn p n m<Gy rk kn p n (p,j)
     omega
    ·obtain⟨t',ht1,YQ,e⟩:=CP hm
     show Gy rk kn p n (p,j)<Gy rk kn p n m
     have hle:=KJ hk i t' m e (by omega)
     rw[LU]
     unfold Gy
     rw[aaw (hp t' m e)]
     have h1:KI rk kn i*(n+1)<=rk m*(n+1):=Nat.mul_le_mul_right _ hle
     have h2:(rk m+1)*(n+1)=rk m*(n+1)+(n+1):=Nat.succ_mul _ _
     omega
   ·refine CQ hk hp r (i+1) (j+1) (some (p,j)) (by omega) (by rw[e1,h,hj];simp) (λm' e=>?_) l hl
    cases e
    rw[LU,hb]
    omega
theorem KL{rk:Nm->Nat}{kn:Nat->Option Nm}{p:Str}(hk:∀s t a b,kn s=some a->kn t=some b->s<t->rk a<rk b)(hp:∀s a,kn s=some a->a.1≠p)(texts:List Str):Rk (ki p texts kn) (Gy rk kn p texts.length):=
 CQ hk hp texts 0 0 none (by omega) rfl λm e=>by cases e
theorem KN{rk:Nm->Nat}{kn:Nat->Option Nm}{p:Str}{n:Nat}{ls:List Ln}(r:Rk ls rk)(h:∀l∈ls,l.nm.1≠p/\∀m,l.up=some m\/l.lo=some m->m.1≠p):Rk ls (Gy rk kn p n):=by
 intro l hl
 obtain⟨h1,h2⟩:=h l hl
 have e:∀x:Nm,x.1≠p->Gy rk kn p n x=(rk x+1)*(n+1):=λx hx=>by unfold Gy;rw[aaw hx]
 refine⟨λm hm=>?_,λm hm=>?_⟩
 ·rw[e _ h1,e _ (h2 m (.inl hm))]
  exact Nat.mul_lt_mul_of_pos_right (Nat.succ_lt_succ ((r l hl).1 m hm)) (Nat.succ_pos _)
 ·rw[e _ h1,e _ (h2 m (.inr hm))]
  exact Nat.mul_lt_mul_of_pos_right (Nat.succ_lt_succ ((r l hl).2 m hm)) (Nat.succ_pos _)
theorem EJ{xs ys:List Nat}(nd:xs.Nodup)(h:∀x∈xs,x∈ys):xs.length<=ys.length:=by
 have:=len_sub (xs:=xs.map λk=>((Str.empty,k):Nm)) (ys:=ys.map λk=>(Str.empty,k)) (ab4.mpr (nd.imp λh z=>h (abe Prod.snd z))) λx hx=>by
  obtain⟨k,hk,rfl⟩:=List.mem_map.mp hx
  exact aaf (h k hk)
 rwa [O7,O7] at this
theorem zV{Z:Type}(p:Z->Bool):∀xs:List Z,(xs.filter p).length+(xs.filter λx=>!p x).length=xs.length
 | []=>rfl
 | x::r=>by
  have:=zV p r
  cases h:p x<;>simp[h]<;>omega
theorem Hx{row:List Ln}{texts:List Str}{qs:List (Nat×Nat)}(h:EI row.length texts.length qs)(p:Str):(ki p texts (l6 row qs)).length+qs.length=texts.length:=by
 unfold ki
 rw[zU,<-List.range_eq_range']
 have h2:=zV (λk=>(l6 row qs k).isNone) (List.range texts.length)
 rw[abR] at h2
 have h3:((List.range texts.length).filter λx=>!(l6 row qs x).isNone).length=qs.length:=by
  have nd:(qs.map (·.2)).Nodup:=ab4.mpr (h.1.imp λz e=>by omega)
  refine Nat.le_antisymm ?_ ?_
  ·have:=EJ (xs:=(List.range texts.length).filter λx=>!(l6 row qs x).isNone) (ys:=qs.map (·.2)) (List.nodup_range.sublist aa6) λx hx=>by
    have h4:=(aap.mp hx).2
    have h5:(l6 row qs x).isSome=true:=by cases e:l6 row qs x<;>simp[e] at h4 ⊢
    rw[CO h] at h5
    exact aaB h5
   rwa [O7] at this
  ·have:=EJ (xs:=qs.map (·.2)) (ys:=(List.range texts.length).filter λx=>!(l6 row qs x).isNone) nd λx hx=>by
    refine aap.mpr ⟨abt.mpr ?_,?_⟩
    ·obtain⟨q,hq,rfl⟩:=List.mem_map.mp hx
     exact(h.2 q hq).2
    ·have h5:=CO h x
     rw[X0 hx] at h5
     cases e:l6 row qs x<;>simp[e] at h5 ⊢
   rwa [O7] at this
 omega
structure Dk where
 made:List Pt
 iE:Str->List Str
 stores:List Str
 held:Str->List Str
def named(p:Pt):List Nm:=p.js++p.iw.flatMap λl=>l.up.toList++l.lo.toList
def ij(p:Pt):List Str:=((named p).filter λn=>n.1≠p.nm).map (·.1)++p.other.toList
def qx(nd:Str->List Str)(p:Pt):List Str:=(ij p).flatMap λy=>y::nd y
namespace Dk
def names(D:Dk):List Str:=D.made.map (·.nm)
noncomputable def keep(D:Dk)(s:Str)(p:Pt):Dk:=⟨D.made++[p],λx=>if x=p.nm then qx D.iE p else D.iE x,D.stores,λt=>if t=s then D.held s++[p.nm] else D.held t⟩
noncomputable def begin(D:Dk)(s:Str):Dk:=⟨D.made,D.iE,D.stores++[s],λt=>if t=s then[] else D.held t⟩
def jP(D:Dk)(s:Str):List Pt:=D.made.filter λp=>p.nm∈D.held s
def has(D:Dk)(s:Str):List Str:=D.names.filter λx=>x∈D.held s
def nS(D:Dk)(x:Str):List Str:=D.names.filter λy=>y∈D.iE x
def oj(D:Dk)(s x:Str):List Str:=(D.nS x++[x]).filter λy=>y∉D.held s
def take(D:Dk)(s x:Str):Dk:=⟨D.made,D.iE,D.stores,λt=>if t=s then D.held s++D.oj s x else D.held t⟩
def drop(D:Dk)(s x:Str):Dk:=⟨D.made,D.iE,D.stores,λt=>if t=s then(D.held s).filter (λy=>y≠x) else D.held t⟩
noncomputable def row(D:Dk)(s f:Str):List Ln:=rowOf (Ah (gA (D.jP s) f)) (ji (D.jP s) f)
noncomputable def jQ(D:Dk)(s f:Str):List (Nat×Nat):=ja (Ah (gA (D.jP s) f)) (D.row s f)
theorem qy(D:Dk)(s:Str):D.has s=(D.jP s).map (·.nm):=by
 unfold has jP names
 rw[List.filter_map];rfl
end Dk
structure Inv(D:Dk):Prop where
 nd:D.names.Nodup
 D1:∀p∈D.made,p.iw.map (·.nm)=(List.range p.iw.length).map λj=>(p.nm,j)
 refs:∀p∈D.made,∀l∈p.iw,∀m,l.up=some m\/l.lo=some m->∃q∈D.made,q.file=p.file/\m∈q.iw.map (·.nm)/\(q.nm=p.nm\/q.nm∈D.iE p.nm)
 rank:∃rk,∀p∈D.made,Rk p.iw rk
 before:∀i p,D.made[i]?=some p->∀x∈D.iE p.nm,x∈(D.made.take i).map (·.nm)
 trans:∀x∈D.names,∀y∈D.iE x,∀z∈D.iE y,z∈D.iE x
 stN:D.stores.Nodup
 lD:∀s∈D.stores,∀x∈D.held s,x∈D.names/\∀y∈D.iE x,y∈D.held s
 vk:∀s∈D.stores,(D.held s).Nodup
 KO:∀p∈D.made,∀n∈p.js,n.1≠p.nm
 need:∀p∈D.made,∀y,y∈D.iE p.nm↔∃z∈ij p,y=z\/y∈D.iE z
theorem me{p:Pt}(h:p.iw.map (·.nm)=(List.range p.iw.length).map λj=>(p.nm,j)){m:Nm}(hm:m∈p.iw.map (·.nm)):m.1=p.nm:=by
 rw[h] at hm
 obtain⟨j,_,rfl⟩:=List.mem_map.mp hm
 rfl
theorem Nc{ps:List Pt}(nd:(ps.map (·.nm)).Nodup){p q:Pt}(hp:p∈ps)(hq:q∈ps)(e:p.nm=q.nm):p=q:=by
 induction ps with
 | nil=>cases hp
 | cons x r ih=>
  rw[aaL,aa9] at nd
  rcases aah.mp hp with h1|h1
  ·rcases aah.mp hq with h2|h2
   ·rw[h1,h2]
   ·exact absurd (by rw[<-h1,e];exact aaf h2) nd.1
  ·rcases aah.mp hq with h2|h2
   ·exact absurd (by rw[<-h2,<-e];exact aaf h1) nd.1
   ·exact ih nd.2 h1 h2
theorem Gz{ps:List Pt}(nd:(ps.map (·.nm)).Nodup)(h:∀p∈ps,p.iw.map (·.nm)=(List.range p.iw.length).map λj=>(p.nm,j)):((ps.flatMap (·.iw)).map (·.nm)).Nodup:=by
 induction ps with
 | nil=>exact abu
 | cons x r ih=>
  rw[aaL,aa9] at nd
  rw[aaW,aaH,abi]
  refine⟨?_,ih nd.2 λp hp=>h p (aam _ hp),λa ha b hb e=>?_⟩
  ·rw[h x aaD]
   exact ab4.mpr (List.nodup_range.imp λz e=>z (abe Prod.snd e))
  ·have e1:=me (h x aaD) ha
   obtain⟨l,hl,rfl⟩:=List.mem_map.mp hb
   obtain⟨q,hq,hlq⟩:=abj.mp hl
   have e2:=me (h q (aam _ hq)) (aaf hlq)
   exact nd.1 (by rw[<-e1,e,e2];exact aaf hq)
theorem j6{ps:List Pt}{f:Str}{l:Ln}:l∈gA ps f↔∃p∈ps,p.file=some f/\l∈p.iw:=by
 unfold gA
 rw[abj]
 constructor
 ·rintro⟨p,hp,hl⟩
  obtain⟨h1,h2⟩:=aap.mp hp
  exact⟨p,h1,aaB h2,hl⟩
 ·rintro⟨p,h1,h2,hl⟩
  exact⟨p,aap.mpr ⟨h1,X0 h2⟩,hl⟩
theorem vp(ps:List Pt)(f:Str):(gA ps f).Sublist (ps.flatMap (·.iw)):=by
 unfold gA
 have h:=aa6 (p:=λp:Pt=>decide (p.file=some f)) (l:=ps)
 generalize ps.filter _=qs at h
 induction h with
 | slnil=>exact aaV _
 | cons x _ ih=>rw[aaW];exact ih.trans (abk _ _)
 | cons_cons x _ ih=>rw[aaW,aaW];exact(aaV _).append ih
namespace Inv
variable{D:Dk}
theorem lg{s:Str}{p:Pt}:p∈D.jP s↔p∈D.made/\p.nm∈D.held s:=by
 unfold Dk.jP
 rw[aap,aaT]
theorem zf(s:Str):(D.jP s).Sublist D.made:=aa6
theorem nodup(I:Inv D)(s f:Str):((gA (D.jP s) f).map (·.nm)).Nodup:=
 ((vp _ f).map _).nodup (Gz (((zf s).map _).nodup I.nd) λp hp=>I.D1 p (zf s |>.subset hp))
theorem wY(I:Inv D)(s f:Str):((ji (D.jP s) f).map (·.nm)).Nodup:=((j5 _ f).map _).nodup (I.nodup s f)
theorem closed(I:Inv D){s:Str}(hs:s∈D.stores)(f:Str):qr (gA (D.jP s) f):=by
 have key:∀l∈gA (D.jP s) f,∀m,l.up=some m\/l.lo=some m->m∈(gA (D.jP s) f).map (·.nm):=λl hl m hm=>by
  obtain⟨p,hp,hf,hl⟩:=j6.mp hl
  obtain⟨hp,hh⟩:=lg.mp hp
  obtain⟨q,hq,e,YR,hn⟩:=I.refs p hp l hl m hm
  obtain⟨l',yL,rfl⟩:=List.mem_map.mp YR
  refine aaf (j6.mpr ⟨q,lg.mpr ⟨hq,?_⟩,by rw[e];exact hf,yL⟩)
  rcases hn with hn|hn
  ·rw[hn];exact hh
  ·exact(I.lD s hs _ hh).2 _ hn
 exact λl hl=>⟨λm hm=>key l hl m (.inl hm),λm hm=>key l hl m (.inr hm)⟩
theorem Nd(I:Inv D)(s f:Str):KG (gA (D.jP s) f):=by
 obtain⟨rk,h⟩:=I.rank
 refine⟨rk,λl hl=>?_⟩
 obtain⟨p,hp,_,hl⟩:=j6.mp hl
 exact h p (lg.mp hp).1 l hl
theorem kE(I:Inv D)(s f:Str):(D.row s f).Perm (ji (D.jP s) f):=by
 obtain⟨rk,r⟩:=I.Nd s f
 exact zT (rk:=rk) (λm n z=>r.ah z) (I.wY s f)
theorem tq(I:Inv D){s f:Str}{l:Ln}(h:l∈D.row s f):∃p∈D.jP s,p.file=some f/\l∈p.iw:=
 j6.mp ((j5 _ f).subset ((I.kE s f).subset h))
theorem vq(I:Inv D)(s f:Str):(D.row s f).length<=(D.made.flatMap (·.iw)).length:=by
 rw[(I.kE s f).length_eq]
 refine aan (j5 _ f).length_le (aan (vp _ f).length_le ?_)
 have h:=zf (D:=D) s
 generalize D.jP s=qs at h
 generalize D.made=ms at h
 clear I
 induction h with
 | slnil=>exact XW _
 | cons x _ ih=>rw[aaW,YO];omega
 | cons_cons x _ ih=>rw[aaW,aaW,YO,YO];omega
open Classical in
theorem chain{lt:Nm->Nm->Prop}{row:List Ln}(hq:ja lt row=[]):row.Pairwise λa b=>lt a.nm b.nm:=by
 rw[aa8]
 intro i j hi hj Fy
 by_cases c:ltAt lt row i j
 ·obtain⟨a,b,ha,hb,z⟩:=c
  rw[UR hi] at ha
  rw[UR hj] at hb
  cases ha;cases hb
  exact z
 ·exfalso
  have:(i,j)∈ja lt row:=by
   unfold ja
   refine abj.mpr ⟨i,abt.mpr hi,List.mem_map.mpr ⟨j,aap.mpr ⟨List.mem_range'.mpr ⟨j-(i+1),by omega,by omega⟩,X0 c⟩,rfl⟩⟩
  rw[hq] at this
  cases this
theorem keep(I:Inv D){s:Str}{p:Pt}(hs:s∈D.stores)(fresh:p.nm∉D.names)(D1:p.iw.map (·.nm)=(List.range p.iw.length).map λj=>(p.nm,j))
  (refs:∀l∈p.iw,∀m,l.up=some m\/l.lo=some m->m∈p.iw.map (·.nm)\/∃q∈D.jP s,q.file=p.file/\m∈q.iw.map (·.nm))
  (js:∀m∈p.js,∃q∈D.jP s,m∈q.iw.map (·.nm)) (other:∀o,p.other=some o->o∈D.held s)
  (rank:∃rk,(∀q∈D.made,Rk q.iw rk)/\Rk p.iw rk):Inv (D.keep s p):=by
 have oe:∀x∈D.names,x≠p.nm:=λx hx e=>fresh (e▸hx)
 have Ru:∀q∈D.made,q.nm∈D.names:=λq hq=>aaf hq
 have LV:∀x,x≠p.nm->(D.keep s p).iE x=D.iE x:=λx hx=>aaw hx
 have UT:(D.keep s p).iE p.nm=qx D.iE p:=aay rfl
 have WA:∀x∈ij p,x∈D.held s:=λx hx=>by
  unfold ij at hx
  rcases aal.mp hx with hx|hx
  ·obtain⟨m,hm,rfl⟩:=List.mem_map.mp hx
   obtain⟨hm,hn⟩:=aap.mp hm
   have hn:m.1≠p.nm:=aaB hn
   have fin:(∃q∈D.jP s,m∈q.iw.map (·.nm))->m.1∈D.held s:=λ⟨q,hq,YR⟩=>by
    obtain⟨h1,h2⟩:=lg.mp hq
    rw[me (I.D1 q h1) YR];exact h2
   rcases aal.mp hm with hm|hm
   ·exact fin (js m hm)
   ·obtain⟨l,hl,hm⟩:=abj.mp hm
    have Ms:l.up=some m\/l.lo=some m:=by
     rcases aal.mp hm with hm|hm
     ·exact .inl (by simpa using hm)
     ·exact .inr (by simpa using hm)
    rcases refs l hl m Ms with z|⟨q,hq,_,z⟩
    ·exact absurd (me D1 z) hn
    ·exact fin ⟨q,hq,z⟩
  ·exact other x (by simpa using hx)
 have nh:∀x∈qx D.iE p,x∈D.held s:=λx hx=>by
  obtain⟨y,hy,hx⟩:=abj.mp hx
  rcases aah.mp hx with rfl|hx
  ·exact WA _ hy
  ·exact(I.lD s hs y (WA y hy)).2 x hx
 have nn:∀x∈qx D.iE p,x∈D.names:=λx hx=>(I.lD s hs x (nh x hx)).1
 have O6:∀x∈D.names,∀y∈D.iE x,y∈D.names:=λx hx y hy=>by
  obtain⟨q,hq,rfl⟩:=List.mem_map.mp hx
  obtain⟨i,hi⟩:=aaU.mp hq
  have:=I.before i q hi y hy
  exact(acA i D.made).map _ |>.subset this
 refine⟨?_,λq hq=>?_,λq hq l hl m hm=>?_,?_,λi q hq x hx=>?_,λx hx y hy z hz=>?_,I.stN,λt ht x hx=>?_,λt ht=>?_,λq hq n hn=>?_,λq hq y=>?_⟩
 ·show((D.made++[p]).map (·.nm)).Nodup
  rw[aaH,abi]
  exact⟨I.nd,by simp,λa ha b hb e=>fresh (by simp at hb;rw[<-hb,<-e];exact ha)⟩
 ·rcases aal.mp hq with hq|hq
  ·exact I.D1 q hq
  ·rw[XT.mp hq];exact D1
 ·rcases aal.mp hq with hq|hq
  ·obtain⟨q',h1,h2,h3,h4⟩:=I.refs q hq l hl m hm
   refine⟨q',aaJ _ h1,h2,h3,h4.imp id λz=>?_⟩
   rw[LV _ (oe _ (Ru q hq))];exact z
  ·rw[XT.mp hq] at hl ⊢
   rcases refs l hl m hm with z|⟨q',h1,h2,h3⟩
   ·exact⟨p,by show p∈D.made++[p];simp,rfl,z,.inl rfl⟩
   ·obtain⟨h4,h5⟩:=lg.mp h1
    refine⟨q',aaJ _ h4,h2,h3,.inr ?_⟩
    rw[UT]
    have e:=me (I.D1 q' h4) h3
    refine abj.mpr ⟨q'.nm,?_,aaD⟩
    unfold ij
    refine aaJ _ (List.mem_map.mpr ⟨m,aap.mpr ⟨?_,X0 ?_⟩,e⟩)
    ·unfold named
     refine aaX _ (abj.mpr ⟨l,hl,?_⟩)
     rcases hm with hm|hm
     ·exact aaJ _ (by rw[hm];simp)
     ·exact aaX _ (by rw[hm];simp)
    ·rw[e];exact oe _ (Ru q' h4)
 ·obtain⟨rk,h1,h2⟩:=rank
  refine⟨rk,λq hq=>?_⟩
  rcases aal.mp hq with hq|hq
  ·exact h1 q hq
  ·rw[XT.mp hq];exact h2
 ·show x∈((D.made++[p]).take i).map (·.nm)
  have hq:(D.made++[p])[i]?=some q:=hq
  by_cases hi:i<D.made.length
  ·rw[abU hi] at hq
   rw[List.take_append_of_le_length (by omega)]
   rw[LV _ (oe _ (Ru q (XZ hq)))] at hx
   exact I.before i q hq x hx
  ·have hl:=(List.getElem?_eq_some_iff.mp hq).1
   rw[YO] at hl
   have hi:i=D.made.length:=by have:[p].length=1:=rfl;omega
   subst hi
   rw[abl (XW _),Nat.sub_self] at hq
   cases hq
   rw[List.take_append_of_le_length (XW _),aaE]
   rw[UT] at hx
   exact nn x hx
 ·have hx:x∈(D.made++[p]).map (·.nm):=hx
  rw[aaH] at hx
  rcases aal.mp hx with hx|hx
  ·rw[LV _ (oe x hx)] at hy ⊢
   rw[LV _ (oe y (O6 x hx y hy))] at hz
   exact I.trans x hx y hy z hz
  ·have hx:x=p.nm:=by simpa using hx
   rw[hx,UT] at hy ⊢
   rw[LV _ (oe y (nn y hy))] at hz
   obtain⟨w,hw,hy⟩:=abj.mp hy
   refine abj.mpr ⟨w,hw,aam _ ?_⟩
   rcases aah.mp hy with rfl|hy
   ·exact hz
   ·exact I.trans w (I.lD s hs w (WA w hw)).1 y hy z hz
 ·have old:∀u∈D.stores,∀x∈D.held u,x∈(D.keep s p).names/\∀y∈(D.keep s p).iE x,y∈D.held u:=λu hu x hx=>by
   obtain⟨h1,h2⟩:=I.lD u hu x hx
   refine⟨?_,λy hy=>?_⟩
   ·show x∈(D.made++[p]).map (·.nm)
    rw[aaH];exact aaJ _ h1
   ·rw[LV _ (oe x h1)] at hy
    exact h2 y hy
  have hx:x∈(if t=s then D.held s++[p.nm] else D.held t):=hx
  show x∈(D.keep s p).names/\∀y∈(D.keep s p).iE x,y∈(if t=s then D.held s++[p.nm] else D.held t)
  by_cases e:t=s
  ·rw[aay e] at hx ⊢
   rcases aal.mp hx with hx|hx
   ·obtain⟨h1,h2⟩:=old s hs x hx
    exact⟨h1,λy hy=>aaJ _ (h2 y hy)⟩
   ·have hx:x=p.nm:=by simpa using hx
    rw[hx]
    refine⟨?_,λy hy=>?_⟩
    ·show p.nm∈(D.made++[p]).map (·.nm)
     simp
    ·rw[UT] at hy
     exact aaJ _ (nh y hy)
  ·rw[aaw e] at hx ⊢
   exact old t ht x hx
 ·show(if t=s then D.held s++[p.nm] else D.held t).Nodup
  by_cases e:t=s
  ·rw[aay e,abi]
   exact⟨I.vk s hs,by simp,λa ha b hb z=>fresh (by simp at hb;rw[<-hb,<-z];exact(I.lD s hs a ha).1)⟩
  ·rw[aaw e];exact I.vk t ht
 ·rcases aal.mp hq with hq|hq
  ·exact I.KO q hq n hn
  ·rw[XT.mp hq] at hn ⊢
   obtain⟨q',h1,h2⟩:=js n hn
   rw[me (I.D1 q' (lg.mp h1).1) h2]
   exact oe _ (Ru q' (lg.mp h1).1)
 ·rcases aal.mp hq with hq|hq
  ·rw[LV _ (oe _ (Ru q hq)),I.need q hq y]
   have e:∀z∈ij q,(D.keep s p).iE z=D.iE z:=λz hz=>LV z (oe z (O6 q.nm (Ru q hq) z ((I.need q hq z).mpr ⟨z,hz,.inl rfl⟩)))
   exact⟨λ⟨z,h1,h2⟩=>⟨z,h1,by rw[e z h1];exact h2⟩,λ⟨z,h1,h2⟩=>⟨z,h1,by rw[e z h1] at h2;exact h2⟩⟩
  ·rw[XT.mp hq,UT]
   have e:∀z∈ij p,(D.keep s p).iE z=D.iE z:=λz hz=>LV z (oe z (I.lD s hs z (WA z hz)).1)
   unfold qx
   rw[abj]
   exact⟨λ⟨z,h1,h2⟩=>⟨z,h1,by rw[e z h1];exact aah.mp h2⟩,λ⟨z,h1,h2⟩=>⟨z,h1,by rw[e z h1] at h2;exact aah.mpr h2⟩⟩
theorem record(I:Inv D){s f x:Str}(hs:s∈D.stores)(fresh:x∉D.names)(hq:D.jQ s f=[])(texts:List Str):Inv (D.keep s (jV x f (D.row s f) texts)):=by
 obtain⟨rk,LU⟩:=I.rank
 have rise:=pI ((D.row s f).map (·.tx)) texts
 rw[O7] at rise
 have UU:∀t m,l6 (D.row s f) (K01.kept ((D.row s f).map (·.tx)) texts) t=some m->∃q∈D.jP s,q.file=some f/\m∈q.iw.map (·.nm):=λt m h=>by
  obtain⟨q,_,_,l,hl,rfl⟩:=CN h
  obtain⟨p,h1,h2,h3⟩:=I.tq (XZ hl)
  exact⟨p,h1,h2,aaf h3⟩
 have own:∀q∈D.made,∀m∈q.iw.map (·.nm),m.1≠x:=λq hq m hm e=>fresh (by rw[<-e,me (I.D1 q hq) hm];exact aaf hq)
 have ch:(D.row s f).Pairwise λa b=>rk a.nm<rk b.nm:=by
  have tr:Rk (gA (D.jP s) f) rk:=λl hl=>by
   obtain⟨p,hp,_,hl⟩:=j6.mp hl
   exact LU p (lg.mp hp).1 l hl
  exact(chain hq).imp λz=>tr.ah z
 refine I.keep hs fresh ?_ (λl hl m hm=>?_) (λm hm=>?_) (λo ho=>by cases ho) ⟨Gy rk (l6 (D.row s f) (K01.kept ((D.row s f).map (·.tx)) texts)) x texts.length,λq hq=>?_,?_⟩
 ·show(ki x texts _).map (·.nm)=(List.range (ki x texts _).length).map λj=>(x,j)
  unfold ki
  rw[vj,<-List.range_eq_range']
 ·rcases ze texts 0 0 none l hl m hm with(z|⟨t,z⟩)|z
  ·cases z
  ·exact .inr (UU t m z)
  ·exact .inl z
 ·obtain⟨l,hl,rfl⟩:=List.mem_map.mp hm
  obtain⟨p,h1,_,h3⟩:=I.tq (aap.mp hl).1
  exact⟨p,h1,aaf h3⟩
 ·refine KN (LU q hq) λl hl=>⟨own q hq _ (aaf hl),λm hm=>?_⟩
  obtain⟨q',h1,_,h3,_⟩:=I.refs q hq l hl m hm
  exact own q' h1 m h3
 ·refine KL (λa b c d h1 h2 h3=>Nb rise ch h1 h2 h3) (λt m h=>?_) texts
  obtain⟨q,h1,_,h3⟩:=UU t m h
  exact own q (lg.mp h1).1 m h3
theorem cut(I:Inv D){s f x:Str}(hs:s∈D.stores)(fresh:x∉D.names){ms:List Nm}(hm:∀m∈ms,m∈(D.row s f).map (·.nm)):Inv (D.keep s ⟨x,some f,[],ms,none⟩):=by
 refine I.keep hs fresh rfl (λl hl=>by cases hl) (λm h=>?_) (λo ho=>by cases ho) ?_
 ·obtain⟨l,hl,rfl⟩:=List.mem_map.mp (hm m h)
  obtain⟨p,h1,_,h3⟩:=I.tq hl
  exact⟨p,h1,aaf h3⟩
 ·obtain⟨rk,h⟩:=I.rank
  exact⟨rk,h,λl hl=>by cases hl⟩
theorem back(I:Inv D){s x o:Str}(hs:s∈D.stores)(fresh:x∉D.names)(ho:o∈D.held s):Inv (D.keep s ⟨x,none,[],[],some o⟩):=by
 refine I.keep hs fresh rfl (λl hl=>by cases hl) (λm h=>by cases h) (λo' h=>by cases h;exact ho) ?_
 obtain⟨rk,h⟩:=I.rank
 exact⟨rk,h,λl hl=>by cases hl⟩
theorem BX(I:Inv D){x:Str}(hx:x∈D.names):x∉D.iE x:=λh=>by
 obtain⟨q,hq,rfl⟩:=List.mem_map.mp hx
 obtain⟨i,hi⟩:=aaU.mp hq
 have h1:=I.before i q hi _ h
 rw[List.map_take] at h1
 obtain⟨j,hj⟩:=aaU.mp h1
 have Ju:j<i:=by have:=(List.getElem?_eq_some_iff.mp hj).1;rw[aaP] at this;omega
 rw[acb,aay Ju] at hj
 have e3:(D.made.map (·.nm))[i]?=some q.nm:=by rw[aao,hi];rfl
 have:=(abS (List.getElem?_eq_some_iff.mp hj).1 I.nd).mp (hj.trans e3.symm)
 omega
theorem zg(I:Inv D){x y:Str}(hx:x∈D.names)(hy:y∈D.iE x):y∈D.names:=by
 obtain⟨q,hq,rfl⟩:=List.mem_map.mp hx
 obtain⟨i,hi⟩:=aaU.mp hq
 exact(acA i D.made).map _ |>.subset (I.before i q hi y hy)
theorem take(I:Inv D){s x:Str}(hs:s∈D.stores)(hx:x∈D.names):Inv (D.take s x):=by
 have cm:∀y∈D.oj s x,(y=x\/y∈D.iE x)/\y∉D.held s:=λy hy=>by
  obtain⟨h1,h2⟩:=aap.mp hy
  refine⟨?_,aaB h2⟩
  rcases aal.mp h1 with h|h
  ·exact .inr (aaB (aap.mp h).2)
  ·exact .inl (by simpa using h)
 have inn:∀y,y=x\/y∈D.iE x->y∈D.held s++D.oj s x:=λy hy=>by
  by_cases h:y∈D.held s
  ·exact aaJ _ h
  ·refine aaX _ (aap.mpr ⟨?_,X0 h⟩)
   rcases hy with rfl|hy
   ·simp
   ·exact aaJ _ (aap.mpr ⟨I.zg hx hy,X0 hy⟩)
 refine⟨I.nd,I.D1,I.refs,I.rank,I.before,I.trans,I.stN,λt ht z hz=>?_,λt ht=>?_,I.KO,I.need⟩
 ·have hz:z∈(if t=s then D.held s++D.oj s x else D.held t):=hz
  show z∈D.names/\∀y∈D.iE z,y∈(if t=s then D.held s++D.oj s x else D.held t)
  by_cases e:t=s
  ·rw[aay e] at hz ⊢
   rcases aal.mp hz with hz|hz
   ·obtain⟨h1,h2⟩:=I.lD s hs z hz
    exact⟨h1,λy hy=>aaJ _ (h2 y hy)⟩
   ·obtain⟨h1,_⟩:=cm z hz
    rcases h1 with rfl|h1
    ·exact⟨hx,λy hy=>inn y (.inr hy)⟩
    ·exact⟨I.zg hx h1,λy hy=>inn y (.inr (I.trans x hx z h1 y hy))⟩
  ·rw[aaw e] at hz ⊢
   exact I.lD t ht z hz
 ·show(if t=s then D.held s++D.oj s x else D.held t).Nodup
  by_cases e:t=s
  ·rw[aay e,abi]
   refine⟨I.vk s hs,?_,λa ha b hb z=>(cm b hb).2 (z▸ha)⟩
   refine acr aa6 ?_
   rw[abi]
   refine⟨acr aa6 I.nd,by simp,λa ha b hb z=>?_⟩
   rw[XT.mp hb] at z
   subst z
   exact I.BX hx (aaB (aap.mp ha).2)
  ·rw[aaw e];exact I.vk t ht
theorem drop(I:Inv D){s x:Str}(hs:s∈D.stores)(hx:∀z∈D.held s,x∉D.iE z):Inv (D.drop s x):=by
 refine⟨I.nd,I.D1,I.refs,I.rank,I.before,I.trans,I.stN,λt ht z hz=>?_,λt ht=>?_,I.KO,I.need⟩
 ·have hz:z∈(if t=s then(D.held s).filter (λy=>y≠x) else D.held t):=hz
  show z∈D.names/\∀y∈D.iE z,y∈(if t=s then(D.held s).filter (λy=>y≠x) else D.held t)
  by_cases e:t=s
  ·rw[aay e] at hz ⊢
   have hz:=(aap.mp hz).1
   obtain⟨h1,h2⟩:=I.lD s hs z hz
   exact⟨h1,λy hy=>aap.mpr ⟨h2 y hy,X0 λe=>hx z hz (e▸hy)⟩⟩
  ·rw[aaw e] at hz ⊢
   exact I.lD t ht z hz
 ·show(if t=s then(D.held s).filter (λy=>y≠x) else D.held t).Nodup
  by_cases e:t=s
  ·rw[aay e];exact acr aa6 (I.vk s hs)
  ·rw[aaw e];exact I.vk t ht
theorem begin(I:Inv D){s:Str}(hs:s∉D.stores):Inv (D.begin s):=by
 refine⟨I.nd,I.D1,I.refs,I.rank,I.before,I.trans,?_,λt ht z hz=>?_,λt ht=>?_,I.KO,I.need⟩
 ·show(D.stores++[s]).Nodup
  rw[abi]
  exact⟨I.stN,by simp,λa ha b hb e=>hs (by rw[<-XT.mp hb,<-e];exact ha)⟩
 ·have hz:z∈(if t=s then[] else D.held t):=hz
  show z∈D.names/\∀y∈D.iE z,y∈(if t=s then[] else D.held t)
  by_cases e:t=s
  ·rw[aay e] at hz;cases hz
  ·rw[aaw e] at hz ⊢
   rcases aal.mp ht with ht|ht
   ·exact I.lD t ht z hz
   ·exact absurd (XT.mp ht) e
 ·show(if t=s then[] else D.held t).Nodup
  by_cases e:t=s
  ·rw[aay e];exact abu
  ·rw[aaw e]
   rcases aal.mp ht with ht|ht
   ·exact I.vk t ht
   ·exact absurd (XT.mp ht) e
theorem BY(I:Inv D){s x:Str}{xs:List Str}(hs:s∈D.stores)(h:D.has s=xs++[x]):∀z∈D.held s,x∉D.iE z:=by
 intro z hz hx
 obtain⟨WB,_⟩:=I.lD s hs z hz
 obtain⟨q,hq,rfl⟩:=List.mem_map.mp WB
 obtain⟨i,hi⟩:=aaU.mp hq
 have h1:=I.before i q hi x hx
 have e:D.names=(D.made.take i).map (·.nm)++q.nm::(D.made.drop (i+1)).map (·.nm):=by
  have Bz:=(List.getElem?_eq_some_iff.mp hi).1
  unfold Dk.names
  conv=>lhs;rw[<-abW i D.made,aa7 Bz,(List.getElem?_eq_some_iff.mp hi).2]
  rw[aaH,aaL]
 have hn:=I.nd
 rw[e,abi,aa9] at hn
 unfold Dk.has at h
 rw[e,aaI,YS (p:=λy=>decide (y∈D.held s)) (X0 hz)] at h
 have hl:x∈q.nm::((D.made.drop (i+1)).map (·.nm)).filter λy=>decide (y∈D.held s):=by
  have h2:=abe List.getLast? h
  rw[List.getLast?_append,List.getLast?_append] at h2
  have h3:(q.nm::((D.made.drop (i+1)).map (·.nm)).filter λy=>decide (y∈D.held s)).getLast?=some x:=by
   cases e4:(q.nm::((D.made.drop (i+1)).map (·.nm)).filter λy=>decide (y∈D.held s)).getLast? with
   | none=>simp at e4
   | some y=>rw[e4] at h2;simpa using h2
  exact List.mem_of_getLast? h3
 have yL:x∈q.nm::(D.made.drop (i+1)).map (·.nm):=by
  rcases aah.mp hl with z|z
  ·rw[z];exact aaD
  ·exact aam _ (aap.mp z).1
 exact hn.2.2 x h1 x yL rfl
end Inv
end PM
namespace PK
open PySem L2
set_option genInjectivity false
set_option genSizeOf false
set_option genSizeOfSpec false
noncomputable def top(i:Nat):Stmt:=PySem.Challenge.pw_patchkin_k10_whole_recorded_stands.main.body.getD i (.Pass ⟨0,0,0,0⟩)
noncomputable section
noncomputable abbrev nL(l:List Str):List Str:=l
abbrev o5:=top 2
abbrev qz:=top 3
abbrev qA:=top 4
abbrev GA:=top 5
abbrev mU:=inClass (top 17) 0
abbrev mf:=inClass (top 18) 0
abbrev kP:=top 19
abbrev jR:=top 20
abbrev nU:=top 21
abbrev rN:=top 22
abbrev kQ:=top 23
abbrev nV:=top 24
abbrev mi:=top 25
abbrev zW:=top 26
abbrev oG:=top 27
abbrev qB:=top 28
abbrev vt:=top 29
abbrev mj:=inClass (top 30) 0
abbrev ml:=inClass (top 30) 1
abbrev kT:=inClass (top 30) 2
abbrev qC:=top 34
abbrev nX:=top 35
abbrev o6:=top 36
abbrev rO:=top 37
abbrev jW:=top 38
abbrev mV:=inClass (top 39) 0
abbrev qD:=inClass (top 39) 1
abbrev tV:=inClass (top 39) 2
abbrev rP:=inClass (top 39) 3
abbrev qE:=inClass (top 39) 4
abbrev my:=inClass (top 39) 5
abbrev qF:=inClass (top 39) 6
abbrev rQ:=inClass (top 39) 7
abbrev oH:=inClass (top 39) 8
abbrev rR:=inClass (top 39) 9
abbrev nG:=inClass (top 39) 10
abbrev vw:=inClass (top 39) 12
abbrev qG:=inClass (top 39) 13
abbrev mW:=inClass (top 39) 14
abbrev kx:=inClass (top 39) 16
abbrev mX:=inClass (top 39) 17
abbrev ly:=inClass (top 39) 18
abbrev lS:=inClass (top 39) 19
abbrev lT:=inClass (top 39) 20
abbrev mq:=inClass (top 39) 21
abbrev rS:=inClass (top 39) 22
abbrev nY:=top 41
abbrev rV:=top 42
abbrev rW:=top 43
abbrev oI:=top 44
abbrev rX:=top 45
abbrev oJ:=top 46
abbrev mG:=top 47
abbrev qH:=top 48
abbrev mY:=top 49
abbrev lU:=top 50
abbrev oK:=top 51
abbrev kR:=top 52
abbrev zX:=top 53
abbrev yQ:=nL ["self","name","text","upper_name","lower_name"]
theorem wZ:gH yQ ["self","name","text","upper_name","lower_name"] (gp mU):=mS
abbrev w_:=nL ["self","name","file","puts","cuts","other"]
theorem vy:gH w_ ["self","name","file","puts","cuts","other"] (gp mf):=mS
abbrev pJ:=nL ["patch","names","line","name"]
theorem ky:gH pJ ["patch"] (gp kP):=mS
abbrev nv:=nL ["patch","leant","name"]
theorem kF:gH nv ["patch"] (gp jR):=mS
noncomputable abbrev zY:=nL ["patches","taken_back","live","patch"]
theorem lh:gH zY ["patches"] (gp nU):=mS
abbrev EK:=nL ["patches","file","lines","patch"]
theorem qI:gH EK ["patches","file"] (gp rN):=mS
noncomputable abbrev pK:=nL ["patches","file","live","gone","patch","name","line"]
theorem jd:gH pK ["patches","file"] (gp kQ):=mS
abbrev xc:=nL ["lines","straight","line"]
theorem kA:gH xc ["lines"] (gp mi):=mS
abbrev KP:=nL ["names","ahead","found","name"]
theorem xf:gH KP ["names","ahead"] (gp zW):=mS
abbrev xY:=nL ["lines","straight","ahead","line","climb","name","missing","other"]
theorem jE:gH xY ["lines"] (gp oG):=mS
abbrev CS:=nL ["waiting","name"]
theorem tW:gH CS ["waiting"] (gp qB):=mS
abbrev EL:=nL ["lines","ahead","by_name","waiting","line","row","name","other"]
theorem lE:gH EL ["lines","ahead"] (gp vt):=mS
abbrev xg:=nL ["self","patches","file"]
theorem vz:gH xg ["self","patches","file"] (gp mj):=mS
abbrev xh:=nL ["self","first","second"]
theorem vA:gH xh ["self","first","second"] (gp ml):=mS
abbrev tN:=nL ["self","pairs","first","second"]
theorem jF:gH tN ["self"] (gp kT):=mS
abbrev CT:=nL ["name","sign"]
theorem tX:gH CT ["name"] (gp qC):=mS
abbrev zZ:=nL ["places","size","least","place"]
theorem lj:gH zZ ["places","size"] (gp nX):=mS
abbrev Ba:=nL ["kept_names","size","behind","place"]
theorem nZ:gH Ba ["kept_names","size"] (gp o6):=mS
abbrev EM:=nL ["patch","texts","kept_names","behind","lines","upper_name","place","text"]
theorem jG:gH EM ["patch","texts","kept_names"] (gp rO):=mS
abbrev mr:=nL ["patch","file","row","texts","kept_names","left","first","second","cuts","line"]
theorem iI:gH mr ["patch","file","row","texts"] (gp jW):=mS
abbrev yR:=nL ["self"]
theorem xi:gH yR ["self"] (gp mV):=mS
abbrev CU:=nL ["self","store"]
theorem Bb:gH CU ["self","store"] (gp qD):=mS
abbrev z8:=nL ["self","store","name"]
theorem xZ:gH z8 ["self","store"] (gp qE):=mS
abbrev tY:=nL ["self","store","patch","file","texts","sight","line"]
theorem n4:gH tY ["self","store","patch","file","texts"] (gp my):=mS
abbrev z_:=nL ["self","store","patch","file","places","row","place"]
theorem rY:gH z_ ["self","store","patch","file","places"] (gp qF):=mS
abbrev EN:=nL ["self","store","patch","other"]
theorem CV:gH EN ["self","store","patch","other"] (gp rQ):=mS
abbrev x5:=nL ["self","store","source","patch","wanted","came","name"]
theorem lV:gH x5 ["self","store","source","patch"] (gp oH):=mS
abbrev EO:=nL ["self","store","patch","name"]
theorem vB:gH EO ["self","store","patch"] (gp rR):=mS
abbrev vC:=nL ["self","patch","name"]
theorem tZ:gH vC ["self","patch"] (gp nG):=mS
abbrev Aa:=nL ["self","store","file","line"]
theorem x8:gH Aa ["self","store","file"] (gp qG):=mS
abbrev yS:=nL ["self","store","file"]
theorem xj:gH yS ["self","store","file"] (gp mW):=mS
abbrev oM:=nL ["self","store","name"]
theorem n5:gH oM ["self","store"] (gp kx):=mS
abbrev yT:=nL ["self","store","file"]
theorem xk:gH yT ["self","store","file"] (gp mX):=mS
abbrev uu:=nL ["self","store"]
theorem tO:gH uu ["self","store"] (gp ly):=mS
abbrev vD:=nL ["self","patch"]
theorem uv:gH vD ["self","patch"] (gp lS):=mS
abbrev vE:=nL ["self","store","patch"]
theorem uw:gH vE ["self","store","patch"] (gp lT):=mS
abbrev xl:=nL ["self","patch","files","name"]
theorem oN:gH xl ["self","patch","files"] (gp mq):=mS
abbrev ER:=nL ["self","store","patch","needs","name"]
theorem qJ:gH ER ["self","store","patch"] (gp rS):=mS
abbrev Ab:=nL ["script","k"]
theorem yU:gH Ab ["script","k"] (gp nY):=mS
abbrev ES:=nL ["cell","k","bound","stir"]
theorem qK:gH ES ["cell","k","bound"] (gp rV):=mS
abbrev ET:=nL ["cell","k","signs","size","base","far","found","j"]
theorem jk:gH ET ["cell","k"] (gp rW):=mS
abbrev x9:=nL ["cell","signs","size","j"]
theorem lW:gH x9 ["cell"] (gp oI):=mS
abbrev EU:=nL ["texts","cell","at","line","more","way","out","turned"]
theorem j7:gH EU ["texts","cell"] (gp rX):=mS
abbrev x_:=nL ["desk","stores","files","cell","name","backs","store","file","way","more","row","source","names","line"]
theorem jl:gH x_ ["desk","stores","files","cell","name","backs"] (gp oJ):=mS
abbrev rZ:=nL ["script","first","most","backs","desk","stores","files","store","k","cell"]
theorem i7:gH rZ ["script","first","most","backs"] (gp mG):=mS
abbrev CW:=nL ["found"]
theorem Bc:gH CW ["found"] (gp qH):=mS
abbrev yV:=nL ["row","line"]
theorem pL:gH yV ["row"] (gp mY):=mS
abbrev vF:=nL ["found","pair"]
theorem n6:gH vF ["found"] (gp lU):=mS
abbrev ya:=nL ["desk","store","files","file"]
theorem vG:gH ya ["desk","store","files"] (gp oK):=mS
abbrev pM:=nL ["before","behind","places","due","quarrels","pair","one","other","k"]
theorem iJ:gH pM ["before","behind","places"] (gp kR):=mS
abbrev EV:=nL ["script","built","desk","k","cell","store","at","name","before","mine","texts","behind","first","places","one","now","line","place"]
theorem jM:gH EV ["script"] (gp zX):=mS
structure Txt(mg:Qqx):Prop where
 jw:mg "len"=none
 ll:mg "range"=none
 TQ:mg "max"=none
 jH:mg "isinstance"=none
 TR:mg "int"=none
 Qw:mg "bool"=none
 xm:mg "list"=none
 Hy:mg "tuple"=none
 OI:mg "str"=none
 Ac:mg "reversed"=none
 EW:mg "sorted"=none
 abm:mg "set"=none
 EY:mg "enumerate"=none
 Nf:mg "ValueError"=none
structure Ad where
 Be:Addr
 Bg:FuncData
 CY:Addr
 CZ:FuncData
 C0:Addr
 C1:FuncData
 KQ:Addr
 KR:FuncData
 mZ:Addr
 q_:FuncData
 mv:Addr
 pN:FuncData
 pO:Addr
 pP:FuncData
 nz:Addr
 nA:FuncData
 r9:Addr
 r_:FuncData
 yb:Addr
 yc:FuncData
 pQ:Addr
 pR:FuncData
 ux:Addr
 uy:FuncData
 pS:Addr
 pT:FuncData
 EZ:Addr
 E1:FuncData
 yd:Addr
 ye:FuncData
 vH:Addr
 vI:FuncData
 E2:Addr
 E3:FuncData
 mw:Addr
 pU:FuncData
 pV:Addr
 pW:FuncData
 nB:Addr
 nE:FuncData
 vJ:Addr
 vK:FuncData
 sd:Addr
 se:FuncData
 t_:Addr
 ub:FuncData
 yf:Addr
 yg:FuncData
 pX:Addr
 pY:FuncData
 m_:Addr
 ra:FuncData
 vL:Addr
 vM:FuncData
 Bh:Addr
 Bi:FuncData
 Ae:Addr
 Af:FuncData
 Ag:Addr
 Ai:FuncData
 uc:Addr
 ud:FuncData
 Aj:Addr
 Ak:FuncData
 yh:Addr
 yi:FuncData
 yj:Addr
 yk:FuncData
 yl:Addr
 ym:FuncData
 vN:Addr
 vO:FuncData
 C2:Addr
 C3:FuncData
 Al:Addr
 Am:FuncData
 rb:Addr
 rf:FuncData
 oO:Addr
 oP:FuncData
 rg:Addr
 rh:FuncData
 n9:Addr
 n_:FuncData
 oQ:Addr
 oR:FuncData
 oS:Addr
 oT:FuncData
 pZ:Addr
 p0:FuncData
 yn:Addr
 yo:FuncData
 si:Addr
 sj:FuncData
 yp:Addr
 yq:FuncData
 yr:Addr
 yt:FuncData
 yu:Addr
 yv:FuncData
 yw:Addr
 yx:FuncData
 yy:Addr
 yz:FuncData
 yA:Addr
 yB:FuncData
 vP:Addr
 vQ:FuncData
 rj:Addr
 rl:FuncData
 oU:Addr
 oV:FuncData
 yC:Addr
 yD:FuncData
 p3:Addr
 p6:FuncData
 gS:Addr
 gT:Addr
 hZ:Addr
 gB:Addr
 lX:Addr
 jB:Addr
 jr:Addr
 iP:Addr
 jX:Addr
 oa:Addr
 lF:Addr
 uA:Addr
 tw:Addr
 nH:Tok
 lY:Tok
 z:Unit
structure Ok(K:Qqy)(mg:Qqx)(A:Ad):Prop where
 sr:DF K mg "counts_with" o5 A.Be A.Bg ["text","new","below"]
 uB:DF K mg "most_pairs" qz A.CY A.CZ ["old","new"]
 uC:DF K mg "place_from" qA A.C0 A.C1 ["texts","text","start"]
 kept:DF K mg "kept" GA A.KQ A.KR ["old","new"]
 ue:DM K A.gS "__init__" "Line.__init__" mU A.mZ A.q_ ["self","name","text","upper_name","lower_name"]
 lZ:DM K A.gT "__init__" "Patch.__init__" mf A.mv A.pN ["self","name","file","puts","cuts","other"]
 su:DF K mg "lines_named_by" kP A.pO A.pP ["patch"]
 oW:DF K mg "leans_straight_on" jR A.nz A.nA ["patch"]
 vR:DF K mg "live_patches" nU A.r9 A.r_ ["patches"]
 xn:DF K mg "lines_put" rN A.yb A.yc ["patches","file"]
 sx:DF K mg "standing_lines" kQ A.pQ A.pR ["patches","file"]
 IM:DF K mg "files_with_lines" nV A.ux A.uy ["patches"]
 sy:DF K mg "straight_ahead" mi A.pS A.pT ["lines"]
 joined:DF K mg "joined" zW A.EZ A.E1 ["names","ahead"]
 BZ:DF K mg "all_ahead" oG A.yd A.ye ["lines"]
 An:DF K mg "first_free" qB A.vH A.vI ["waiting"]
 KS:DF K mg "row_of" vt A.E2 A.E3 ["lines","ahead"]
 sA:DM K A.hZ "__init__" "Sight.__init__" mj A.mw A.pU ["self","patches","file"]
 sC:DM K A.hZ "is_ahead" "Sight.is_ahead" ml A.pV A.pW ["self","first","second"]
 jI:DM K A.hZ "quarrelling" "Sight.quarrelling" kT A.nB A.nE ["self"]
 uD:DF K mg "check_name" qC A.vJ A.vK ["name"]
 vS:DF K mg "check_places" nX A.sd A.se ["places","size"]
 yE:DF K mg "kept_behind" o6 A.t_ A.ub ["kept_names","size"]
 B0:DF K mg "new_lines" rO A.yf A.yg ["patch","texts","kept_names"]
 sD:DF K mg "changing_patch" jW A.pX A.pY ["patch","file","row","texts"]
 uf:DM K A.gB "__init__" "Desk.__init__" mV A.m_ A.ra ["self"]
 Ao:DM K A.gB "begin" "Desk.begin" qD A.vL A.vM ["self","store"]
 OJ:DM K A.gB "stores" "Desk.stores" tV A.Bh A.Bi ["self"]
 Ng:DM K A.gB "patches" "Desk.patches" rP A.Ae A.Af ["self"]
 k7:DM K A.gB "has" "Desk.has" qE A.Ag A.Ai ["self","store"]
 sE:DM K A.gB "record" "Desk.record" my A.uc A.ud ["self","store","patch","file","texts"]
 Ap:DM K A.gB "cut" "Desk.cut" qF A.Aj A.Ak ["self","store","patch","file","places"]
 B1:DM K A.gB "back" "Desk.back" rQ A.yh A.yi ["self","store","patch","other"]
 B2:DM K A.gB "take" "Desk.take" oH A.yj A.yk ["self","store","source","patch"]
 B3:DM K A.gB "drop" "Desk.drop" rR A.yl A.ym ["self","store","patch"]
 Aq:DM K A.gB "leans" "Desk.leans" nG A.vN A.vO ["self","patch"]
 Qx:DM K A.gB "files" "Desk.files" vw A.C2 A.C3 ["self","store"]
 vT:DM K A.gB "row" "Desk.row" qG A.Al A.Am ["self","store","file"]
 mz:DM K A.gB "quarrels" "Desk.quarrels" mW A.rb A.rf ["self","store","file"]
 rm:DM K A.gB "patches_of" "Desk.patches_of" kx A.oO A.oP ["self","store"]
 k8:DM K A.gB "sight_of" "Desk.sight_of" mX A.rg A.rh ["self","store","file"]
 iQ:DM K A.gB "check_store" "Desk.check_store" ly A.n9 A.n_ ["self","store"]
 rn:DM K A.gB "check_made" "Desk.check_made" lS A.oQ A.oR ["self","patch"]
 lr:DM K A.gB "check_held" "Desk.check_held" lT A.oS A.oT ["self","store","patch"]
 l4:DM K A.gB "check_new" "Desk.check_new" mq A.pZ A.p0 ["self","patch","files"]
 tE:DM K A.gB "keep" "Desk.keep" rS A.yn A.yo ["self","store","patch"]
 i8:DF K mg "_law_cell_at" nY A.si A.sj ["script","k"]
 B4:DF K mg "_law_draw" rV A.yp A.yq ["cell","k","bound"]
 p7:DF K mg "_law_name" rW A.yr A.yt ["cell","k"]
 xo:DF K mg "_law_text" oI A.yu A.yv ["cell"]
 xp:DF K mg "_law_edit" rX A.yw A.yx ["texts","cell"]
 B5:DF K mg "_law_deed" oJ A.yy A.yz ["desk","stores","files","cell","name","backs"]
 B6:DF K mg "_law_desk" mG A.yA A.yB ["script","first","most","backs"]
 qL:DF K mg "_law_whole" qH A.vP A.vQ ["found"]
 o7:DF K mg "_law_row_form" mY A.rj A.rl ["row"]
 rq:DF K mg "_law_pairs_form" lU A.oU A.oV ["found"]
 tF:DF K mg "_law_seen" oK A.yC A.yD ["desk","store","files"]
 sF:DF K mg "_law_cut_right" kR A.p3 A.p6 ["before","behind","places"]
 iL:FP K A.gS
 Qy:Mk K A.gS A.mZ
 Qz:mg "Line"=some (.ref A.gS)
 gQ:jT K A.gS "name"
 jJ:jT K A.gS "text"
 iF:jT K A.gS "upper_name"
 iG:jT K A.gS "lower_name"
 jm:FP K A.gT
 C4:Mk K A.gT A.mv
 C5:mg "Patch"=some (.ref A.gT)
 iT:jT K A.gT "name"
 ko:jT K A.gT "file"
 jN:jT K A.gT "puts"
 jO:jT K A.gT "cuts"
 iV:jT K A.gT "other"
 j8:FP K A.hZ
 Nh:Mk K A.hZ A.mw
 Ni:mg "Sight"=some (.ref A.hZ)
 jx:jT K A.hZ "ahead"
 ik:jT K A.hZ "lines"
 gO:FP K A.gB
 QA:Mk K A.gB A.m_
 QB:mg "Desk"=some (.ref A.gB)
 iW:jT K A.gB "made"
 i9:jT K A.gB "needs"
 iu:jT K A.gB "held"
 Nj:Exc K mg "PatchError" A.lX
 B7:Exc K mg "BadName" A.jB
 yF:Exc K mg "NameTaken" A.jr
 IP:Exc K mg "NoStore" A.iP
 B8:Exc K mg "NoPatch" A.jX
 KU:Exc K mg "NoLine" A.oa
 E5:Exc K mg "Unsettled" A.lF
 KW:Exc K mg "Same" A.uA
 Nk:Exc K mg "Leant" A.tw
 C6:mg "NAME_SIGNS"=some (.str (Str.ofString "abcdefghijklmnopqrstuvwxyz0123456789") A.nH)
 sG:mg "LONGEST_NAME"=some (.int 12 A.lY)
 z:True
end
open PySem L2 PM
noncomputable def nk(n:Nm):List Key:=[Sum.inr n.1,Sum.inl (n.2:Int)]
theorem o8{a b:Nm}(h:nk a=nk b):a=b:=by
 unfold nk at h
 injection h with h1 h2
 injection h2 with h2 _
 exact Prod.ext (acH h1) (by have:=Sum.inl.inj h2;omega)
noncomputable abbrev nT(n:Nm):HO:=.tup ((nk n).map kV)
def lI(H:Hp)(v:V)(n:Nm):Prop:=∃t,v=.ref t/\H t=some (nT n)
def GB(H:Hp)(v:V):Option Nm->Prop
 | none=>v=.jb
 | some n=>lI H v n
def Wf(v:V):Option Str->Prop
 | none=>v=.jb
 | some x=>v=.str x
def Nl(a b c d:V):List (Str×V):=[("name",a),("text",b),("upper_name",c),("lower_name",d)]
theorem iX{a b c d:V}:(Nl a b c d).lookup ("name":Str)=some a:=by kernel_rfl
theorem Ar{a b c d:V}:(Nl a b c d).lookup ("text":Str)=some b:=by kernel_rfl
theorem GD{a b c d:V}:(Nl a b c d).lookup ("upper_name":Str)=some c:=by kernel_rfl
theorem GF{a b c d:V}:(Nl a b c d).lookup ("lower_name":Str)=some d:=by kernel_rfl
noncomputable def Nn(a b c d e:V):List (Str×V):=[("name",a),("file",b),("puts",c),("cuts",d),("other",e)]
theorem sI{a b c d e:V}:(Nn a b c d e).lookup ("name":Str)=some a:=by kernel_rfl
theorem KY{a b c d e:V}:(Nn a b c d e).lookup ("file":Str)=some b:=by kernel_rfl
theorem E6{a b c d e:V}:(Nn a b c d e).lookup ("puts":Str)=some c:=by kernel_rfl
theorem E7{a b c d e:V}:(Nn a b c d e).lookup ("cuts":Str)=some d:=by kernel_rfl
theorem tG{a b c d e:V}:(Nn a b c d e).lookup ("other":Str)=some e:=by kernel_rfl
def mH(A:Ad)(H:Hp)(a:Addr)(l:Ln):Prop:=∃dx vn vu vl,H a=some (.ins A.gS dx (Nl vn (.str l.tx) vu vl))/\lI H vn l.nm/\GB H vu l.up/\GB H vl l.lo
def om(A:Ad)(H:Hp)(a:Addr)(ls:List Ln):Prop:=∃as:List Addr,H a=some (.lst (as.map V.ref))/\Paired (mH A H) as ls
def vU(H:Hp)(a:Addr)(ns:List Nm):Prop:=∃vs,H a=some (.lst vs)/\Paired (lI H) vs ns
def oq(A:Ad)(H:Hp)(a:Addr)(p:Pt):Prop:=∃dx vf pu cu vo,H a=some (.ins A.gT dx (Nn (.str p.nm) vf (.ref pu) (.ref cu) vo))/\Wf vf p.file/\om A H pu p.iw/\vU H cu p.js/\Wf vo p.other
def yW(A:Ad)(H:Hp)(a:Addr)(ps:List Pt):Prop:=∃as:List Addr,H a=some (.lst (as.map V.ref))/\Paired (oq A H) as ps
section
variable{A:Ad}{H H':Hp}{a:Addr}
theorem lI.same{v:V}{n:Nm}(x:lI H v n)(s:gv H H'):lI H' v n:=by obtain⟨t,e,h⟩:=x;exact⟨t,e,s _ _ h⟩
theorem GB.same{v:V}{o:Option Nm}(x:GB H v o)(s:gv H H'):GB H' v o:=by
 cases o with
 | none=>exact x
 | some n=>exact lI.same x s
theorem mH.same{l:Ln}(x:mH A H a l)(s:gv H H'):mH A H' a l:=by
 obtain⟨dx,vn,vu,vl,h,h1,h2,h3⟩:=x
 exact⟨dx,vn,vu,vl,s _ _ h,h1.same s,h2.same s,h3.same s⟩
theorem om.same{ls:List Ln}(x:om A H a ls)(s:gv H H'):om A H' a ls:=by
 obtain⟨as,h,p⟩:=x
 exact⟨as,s _ _ h,Paired.i3 p λ_ _ z=>z.same s⟩
theorem vU.same{ns:List Nm}(x:vU H a ns)(s:gv H H'):vU H' a ns:=by
 obtain⟨vs,h,p⟩:=x
 exact⟨vs,s _ _ h,Paired.i3 p λ_ _ z=>z.same s⟩
theorem oq.same{p:Pt}(x:oq A H a p)(s:gv H H'):oq A H' a p:=by
 obtain⟨dx,vf,pu,cu,vo,h,h1,h2,h3,h4⟩:=x
 exact⟨dx,vf,pu,cu,vo,s _ _ h,h1,h2.same s,h3.same s,h4⟩
theorem yW.same{ps:List Pt}(x:yW A H a ps)(s:gv H H'):yW A H' a ps:=by
 obtain⟨as,h,p⟩:=x
 exact⟨as,s _ _ h,Paired.i3 p λ_ _ z=>z.same s⟩
end
theorem ib{Z Y:Type}{F:Z->Y->Prop}{xs:List Z}{ys:List Y}(p:Paired F xs ys):∀{i:Nat} {x:Z},xs[i]?=some x->∃y,ys[i]?=some y/\F x y:=by
 induction p with
 | nil=>intro i x h;simp at h
 | cons f t ih=>
  intro i x h
  cases i with
  | zero=>simp at h;subst h;exact⟨_,rfl,f⟩
  | succ i=>simpa using ih (by simpa using h)
theorem iq{Z Y:Type}{F:Z->Y->Prop}{xs:List Z}{ys:List Y}(p:Paired F xs ys):∀{i:Nat} {y:Y},ys[i]?=some y->∃x,xs[i]?=some x/\F x y:=by
 induction p with
 | nil=>intro i x h;simp at h
 | cons f t ih=>
  intro i x h
  cases i with
  | zero=>simp at h;subst h;exact⟨_,rfl,f⟩
  | succ i=>simpa using ih (by simpa using h)
theorem uE{Z Y:Type}{F:Z->Y->Prop}{xs zs:List Z}{ys ws:List Y}(p:Paired F xs ys)(q:Paired F zs ws):Paired F (xs++zs) (ys++ws):=by
 induction p with
 | nil=>exact q
 | cons f t ih=>exact .cons f ih
theorem ig{Z Y:Type}{F:Z->Y->Prop}{xs:List Z}{ys:List Y}{x:Z}{y:Y}(p:Paired F xs ys)(h:F x y):Paired F (xs++[x]) (ys++[y]):=uE p (.cons h .nil)
theorem As{Z Y:Type}{F:Z->Y->Prop}{xs:List Z}{ys:List Y}(p:Paired F xs ys):Paired F xs.reverse ys.reverse:=by
 induction p with
 | nil=>exact .nil
 | cons f t ih=>rw[acD,acD];exact ig ih f
theorem j9{as:List Addr}{i:Nat}{v:V}(h:(as.map V.ref)[i]?=some v):∃b,as[i]?=some b/\v=.ref b:=by
 rw[aao] at h
 obtain⟨b,e,rfl⟩:=Option.map_eq_some_iff.mp h
 exact⟨b,e,rfl⟩
theorem Wf.eq{v:V}{o:Option Str}(h:Wf v o)(f:Str):decide (v=.str f)=decide (o=some f):=by
 cases o with
 | none=>rw[show v=.jb from h,aaq (λz=>by cases z),aaq (λz=>by cases z)]
 | some x=>
  rw[show v=.str x from h]
  by_cases e:x=f
  ·subst e;rw[X0 rfl,X0 rfl]
  ·rw[aaq (λz=>e (V.str.inj z)),aaq (λz=>e (aaF z))]
theorem OK{Z:Type}{xs:List Z}{x:Z}{i:Nat}(h:xs.length<=i:=by assumption):(xs++[x]).length<=i+1:=by rw[YO];exact Nat.succ_le_succ h
def xq(n:Nat):Prop:=n<=4000
theorem xq.sz{n:Nat}(h:xq n):n<=sizeLine:=aan h (by decide)
section
variable{P:Program}{w:World}{K:Qqy}{mg:Qqx}{base:Heap}{A:Ad}
def QC(A:Ad):Sp:=λvs H Q _=>∃(a:Addr)(ps:List Pt),vs=[.ref a]/\yW A H a ps/\xq ps.length/\∀p H',gv H H'->H p=none->yW A H' p (live ps)->Q (.ref p) H'
def Tb(kvs:List (Key×V))(t:List Str):Prop:=∀x,(iN kvs (Sum.inr x)).isSome=decide (x∈t)
theorem Tb.put{kvs:List (Key×V)}{t:List Str}(h:Tb kvs t)(y:Str)(v:V):Tb (putK kvs (Sum.inr y) v) (y::t):=λx=>by
 rw[kc]
 by_cases e:x=y
 ·subst e;rw[aay rfl,X0 aaD];rfl
 ·rw[aaw (λz=>e (acH z)),h x]
  by_cases m:x∈t
  ·rw[X0 m,X0 (aam _ m)]
  ·rw[aaq m,aaq (λz=>(aah.mp z).elim e m)]
theorem GG(p:Pt)(r:List Pt)(t:List Str):nu (p::r) t=if p.nm∈t then nu r t else p::nu r (match p.other with|some o=>o::t|none=>t):=rfl
theorem yX(T:Txt mg)(O:Ok K mg A):ie P w K mg base mL 1 A.r9 A.r_ ["patches"] (QC A):=by
 refine O.vR.f.rB lh λjt A0 outer s H vs Q E hr h=>?_
 obtain⟨a,ps,rfl,⟨as,ha,pa⟩,jL,q⟩:=h
 have hlen:=aav pa
 refine⟨_,(de (kZ 1 lh nM)
   (de (kZ 2 lh (iB e_))
   (de (iD aaN rfl (MY rfl T.Ac (a_ (pv 0) e_)) (tM 3 lh) (f_ (il (ju (lC (by exact iS hr) (gL (pv 3) rfl) (pv 1))) (de (hU (pC aa2 aba abb kl (pv 2) (a_ (pv 3) e_)))
   (f_ (il (ju (tf (gL (pv 3) rfl))) (f_ (jA (by exact iS hr) (pv 1) (gL (pv 3) rfl) j_ rfl)) hG))) hG)))
   (f_ (hE (Gr rfl (by rfl) T.xm (by rfl) T.Ac (a_ (pv 2) e_))))))),?_⟩
 refine OG ?_;intro _ _ _
 intro t ht
 have s1:gv H (upd H t (.dK [])):=(gv.refl H).new ht
 refine⟨L2.jL,λl hl=>?_⟩
 have s2:gv H (upd (upd H t (.dK [])) l (.lst [])):=s1.new hl
 have N7:t≠l:=λz=>by rw[z] at hl;rw[b_] at hl;cases hl
 refine⟨_,rfl,a,_,rfl,gN.of (s2 a _ ha),MZ (K:=K) (a:=a) (xs:=as.map V.ref) (λi Z H2=>∃(v:Option V)(kvs:List (Key×V))(tb:List Str)(ls:List Addr)(lp:List Pt),Z=[rr a,rr t,rr l,v]/\gv H H2/\H2 t=some (.dK kvs)/\Tb kvs tb/\kvs.length<=i/\H2 l=some (.lst (ls.map V.ref))/\ls.length<=i/\Paired (oq A H) ls lp/\lp++nu (ps.reverse.drop i) tb=nu ps.reverse [])
  ⟨none,[],[],[],[],rfl,s2,by rw[d_ N7];exact b_,(λx=>rfl),XW _,b_,XW _,.nil,rfl⟩ (by rintro _ _ _ _ ⟨_,_,_,_,_,_,s3,_⟩;exact gN.of (s3 a _ ha)) ?_ ?_⟩
 ·rintro i v Z H2 hx ⟨v0,kvs,tb,ls,lp,rfl,s3,h1,h2,h3,h4,h5,h6,h7⟩
  rw[<-List.map_reverse] at hx
  obtain⟨b,hb,rfl⟩:=j9 hx
  obtain⟨p,hp,dx,vf,pu,cu,vo,g1,g2,g3,g4,g5⟩:=ib (As pa) hb
  have hi:i<ps.reverse.length:=(List.getElem?_eq_some_iff.mp hp).1
  have Bz:i<4000:=by rw[abF] at hi;exact aaS hi jL
  have hd:ps.reverse.drop i=p::ps.reverse.drop (i+1):=by rw[aa7 hi];congr 1;exact(List.getElem?_eq_some_iff.mp hp).2
  rw[hd] at h7
  refine⟨_,rfl,b,A.gT,dx,_,_,rfl,s3 _ _ g1,O.jm,O.iT,sI,_,rfl,t,_,rfl,i5.k (k:=Sum.inr p.nm) h1,_,rfl,?_⟩
  rw[h2 p.nm]
  rw[GG] at h7
  by_cases hm:p.nm∈tb
  ·rw[aay hm] at h7
   rw[X0 hm]
   exact jf ⟨_,kvs,tb,ls,lp,rfl,s3,h1,h2,by omega,h4,by omega,h6,h7⟩
  ·rw[aaw hm] at h7
   rw[aaq hm]
   refine lL ?_
   refine⟨_,rfl,.inl ⟨rfl,_,gN.of h4⟩,_,rfl,l,_,_,rfl,rfl,h4,by rw[O7];exact abz h5 (Nat.lt_trans Bz (by decide)),?_⟩
   have YT:H l=none:=s1.free hl
   have s4:gv H (upd H2 l (.lst (ls.map V.ref++[V.ref b]))):=s3.upd YT
   have N0:upd H2 l (.lst (ls.map V.ref++[V.ref b])) t=some (.dK kvs):=by rw[d_ N7];exact h1
   have e4:upd H2 l (.lst (ls.map V.ref++[V.ref b])) l=some (.lst ((ls++[b]).map V.ref)):=by rw[b_,aaH];rfl
   have pp:Paired (oq A H) (ls++[b]) (lp++[p]):=ig h6 ⟨dx,vf,pu,cu,vo,g1,g2,g3,g4,g5⟩
   have hl5:(ls++[b]).length<=i+1:=OK
   refine⟨_,rfl,b,A.gT,dx,_,_,rfl,s4 _ _ g1,O.jm,O.iV,tG,_,rfl,?_⟩
   cases ho:p.other with
   | none=>
    rw[ho] at g5 h7
    rw[show vo=V.jb from g5]
    exact⟨_,kvs,tb,_,_,rfl,s4,N0,h2,by omega,e4,hl5,pp,by rw[aa5];exact h7⟩
   | some x=>
    rw[ho] at g5 h7
    rw[show vo=V.str x from g5] at g1 ⊢
    refine⟨_,rfl,_,rfl,b,A.gT,dx,_,_,rfl,s4 _ _ g1,O.jm,O.iV,tG,t,_,rfl,nF.k (k:=Sum.inr x) N0 (abz h3 (Nat.lt_trans Bz (by decide))),?_⟩
    have hlk:=jq kvs (Sum.inr x:Key) (V.bl true)
    have htH:H t=none:=ht
    exact⟨_,_,x::tb,_,_,rfl,s4.upd htH,b_,h2.put x _,by omega,by rw[d_ N7.symm];exact e4,hl5,pp,by rw[aa5];exact h7⟩
 ·rintro Z H2 ⟨v0,kvs,tb,ls,lp,rfl,s3,h1,h2,h3,h4,h5,h6,h7⟩
  rw[O7] at h3 h5 h7
  rw[hlen,<-abF,acG] at h7
  have h7:lp=nu ps.reverse []:=by rw[show nu [] tb=[] from rfl,aa0] at h7;exact h7
  refine⟨_,rfl,l,_,rfl,gN.of h4,λp hp=>?_⟩
  have s4:=s3.new (o:=.lst (ls.map V.ref).reverse) hp
  refine q p _ s4 (s3.free hp) ⟨ls.reverse,by rw[b_,List.map_reverse],?_⟩
  unfold live
  rw[<-h7]
  exact Paired.i3 (As h6) λ_ _ z=>z.same s4
theorem sJ{Z Y:Type}{f:Z->List Y}{ps qs:List Z}(h:ps.Sublist qs):(ps.flatMap f).Sublist (qs.flatMap f):=by
 induction h with
 | slnil=>exact aaV _
 | cons x _ ih=>rw[aaW];exact ih.trans (abk _ _)
 | cons_cons x _ ih=>rw[aaW,aaW];exact(aaV _).append ih
structure Small(ps:List Pt):Prop where
 many:xq ps.length
 iw:xq (ps.flatMap (·.iw)).length
 js:xq (ps.flatMap (·.js)).length
theorem Small.sub{ps qs:List Pt}(h:ps.Sublist qs)(s:Small qs):Small ps:=⟨aan h.length_le s.many,aan (sJ h).length_le s.iw,aan (sJ h).length_le s.js⟩
theorem qM(ps:List Pt)(f:Str):(gA ps f).length<=(ps.flatMap (·.iw)).length:=(sJ aa6).length_le
theorem Bj(ps:List Pt)(p:Pt)(f:Str):gA (ps++[p]) f=gA ps f++if p.file=some f then p.iw else[]:=by
 unfold gA
 rw[aaI,abd]
 by_cases h:p.file=some f
 ·rw[aay h,YS (by simpa using h),aa3,aaW,ab0,aa0]
 ·rw[aaw h,aaj (by simpa using h),aa3,ab0]
theorem take_snoc{Z:Type}{xs:List Z}{i:Nat}{x:Z}(h:xs[i]?=some x):xs.take (i+1)=xs.take i++[x]:=by rw[List.take_add_one,h];rfl
def Sb(kvs:List (List Key×V))(ns:List Nm):Prop:=∀n,(iN kvs (nk n)).isSome=decide (n∈ns)
theorem Sb.put{kvs:List (List Key×V)}{ns:List Nm}(h:Sb kvs ns)(y:Nm)(v:V):Sb (putK kvs (nk y) v) (ns++[y]):=λx=>by
 rw[kc]
 by_cases e:x=y
 ·subst e;rw[aay rfl,X0 (by simp)];rfl
 ·rw[aaw (λz=>e (o8 z)),h x]
  by_cases m:x∈ns
  ·rw[X0 m,X0 (aaJ _ m)]
  ·rw[aaq m,aaq (λz=>(aal.mp z).elim m λz=>e (XT.mp z))]
def TU(A:Ad):Sp:=λvs H Q _=>∃(a:Addr)(ps:List Pt)(f:Str),vs=[.ref a,.str f]/\yW A H a ps/\Small ps/\∀p H',gv H H'->H p=none->om A H' p (gA ps f)->Q (.ref p) H'
theorem vV(T:Txt mg)(O:Ok K mg A):ie P w K mg base mL 1 A.yb A.yc ["patches","file"] (TU A):=by
 refine O.xn.f.rB qI λjt A0 outer s H vs Q E hr h=>?_
 obtain⟨a,ps,f,rfl,⟨as,ha,pa⟩,sm,q⟩:=h
 have hlen:=aav pa
 refine⟨_,(de (kZ 2 qI (iB e_))
   (de (iD aaN rfl (ic (pv 0)) (tM 3 qI) (f_ (il (hV mB (gL (pv 3) rfl) (pv 1) (iA _)) (f_ (hU (pC aa2 PySem.F.slot_list_extend PySem.F.type_list_extend BJ (pv 2) (a_ (gL (pv 3) rfl) e_)))) hG)))
   (f_ (hE (pv 2))))),?_⟩
 refine Ey ?_;intro _ _
 refine⟨L2.jL,λl hl=>?_⟩
 have s1:gv H (upd H l (.lst [])):=(gv.refl H).new hl
 dsimp only [lA];refine JA ?_;intro _
 let Jv:=λ(i:Nat) (Z:St) (H2:Hp)=>∃(v:Option V)(ls:List Addr),Z=[rr a,rs f,rr l,v]/\gv H H2/\H2 l=some (.lst (ls.map V.ref))/\Paired (mH A H) ls (gA (ps.take i) f)
 refine⟨_,rfl,a,rfl,⟨_,gN.of (s1 a _ ha)⟩,iU (K:=K) (a:=a) (xs:=as.map V.ref) Jv
  ⟨none,[],rfl,s1,b_,.nil⟩ (by rintro _ _ _ _ ⟨_,_,_,s3,_⟩;exact gN.of (s3 a _ ha)) ?_ ?_⟩
 ·rintro i v Z H2 hx ⟨v0,ls,rfl,s3,h4,h6⟩
  obtain⟨b,hb,rfl⟩:=j9 hx
  obtain⟨p,hp,dx,vf,pu,cu,vo,g1,g2,⟨as2,g3,UX⟩,g4,g5⟩:=ib pa hb
  have e:gA (ps.take (i+1)) f=gA (ps.take i) f++if p.file=some f then p.iw else[]:=by rw[take_snoc hp,Bj]
  refine⟨_,rfl,b,A.gT,dx,_,_,rfl,s3 _ _ g1,O.jm,O.ko,KY,_,rfl,?_⟩
  have hf:PZ vf (V.str f)=true:=by
   cases hq:p.file with
   | none=>rw[hq] at g2;rw[show vf=V.jb from g2];rfl
   | some x=>rw[hq] at g2;rw[show vf=V.str x from g2];rfl
  refine⟨hf,_,rfl,?_⟩
  rw[g2.eq f]
  by_cases hm:p.file=some f
  ·rw[aay hm] at e
   rw[X0 hm]
   refine lL ?_
   refine⟨_,rfl,.inl ⟨rfl,_,gN.of h4⟩,_,rfl,b,A.gT,dx,_,_,rfl,s3 _ _ g1,O.jm,O.jN,E6,l,pu,_,_,rfl,rfl,h4,s3 _ _ g3,?_,?_⟩
   ·rw[O7,O7,aav h6,aav UX,<-YO,<-e]
    exact aan (qM _ f) (Small.sub (acA _ _) sm).iw.sz
   ·refine⟨_,ls++as2,rfl,s3.upd hl,by rw[b_,aaH],?_⟩
    rw[e]
    exact uE h6 UX
  ·rw[aaw hm,aa0] at e
   rw[aaq hm]
   exact jf ⟨_,ls,rfl,s3,h4,by rw[e];exact h6⟩
 ·rintro Z H2 ⟨v0,ls,rfl,s3,h4,h6⟩
  rw[O7,hlen,aaE] at h6
  exact⟨_,rfl,q l _ s3 hl ⟨ls,h4,Paired.i3 h6 λ_ _ z=>z.same s3⟩⟩
theorem IQ(ps:List Pt)(p:Pt):gone (ps++[p])=gone ps++p.js:=by
 unfold gone
 rw[abd,aaW,ab0,aa0]
def Np(A:Ad):Sp:=λvs H Q _=>∃(a:Addr)(ps:List Pt)(f:Str),vs=[.ref a,.str f]/\yW A H a ps/\Small ps/\∀p H',gv H H'->H p=none->om A H' p (ji ps f)->Q (.ref p) H'
theorem vW(T:Txt mg)(O:Ok K mg A):ie P w K mg base mL 2 A.pQ A.pR ["patches","file"] (Np A):=by
 have AK:=@yX P w K mg base A T O
 have sX:=@vV P w K mg base A T O
 refine O.sx.f.rB jd λjt A0 outer s H vs Q E hr h=>?_
 obtain⟨a,ps,f,rfl,pa,sm,q⟩:=h
 refine⟨_,(de (kZ 2 jd (oh O.vR AK hr (a_ (pv 0) e_)))
   (de (lx (i:=3) jd.nd rfl (Or.inr rfl) mE)
   (de (iD aaN rfl (ic (pv 2)) (tM 4 jd) (f_ (iD aaN rfl (ic (gL (pv 4) rfl)) (tM 5 jd) (f_ (jA (by exact iS hr) (pv 3) (pv 5) j_ rfl)))))
   (f_ (hE (zF pK (gp kQ).names [6] rfl (ic (oh O.xn sX hr (a_ (pv 2) (a_ (pv 1) e_)))) rfl (by decide+kernel) (λ_ _ _ _=>(ir (i:=6) jd.nd rfl (Or.inl rfl))) (λ_ _ _ _=>⟨_,nN (ju (lC (by exact iS hr) (gL (pv 6) rfl) (pv 3))),by(try simp only [kL]);rfl⟩) (λ_ _ _ _=>zc (pv 6)))))))),?_⟩
 refine OG ?_;intro _ _ _
 refine⟨_,rfl,a,ps,rfl,pa,sm.many,λl H1 s1 Sq O8=>?_⟩
 have YU:Small (live ps):=sm.sub (vc ps)
 obtain⟨as,ha,pl⟩:=id O8
 have hlen:=aav pl
 intro g hg
 have s2:gv H1 (upd H1 g (.dT [])):=(gv.refl H1).new hg
 dsimp only [lA];refine JA ?_;intro _
 let Jv:=λ(i:Nat) (Z:St) (H2:Hp)=>∃(v4 v5:Option V)(kvs:List (List Key×V)),Z=[rr a,rs f,rr l,rr g,v4,v5,none]/\gv H1 H2/\H2 g=some (.dT kvs)/\Sb kvs (gone ((live ps).take i))/\kvs.length<=(gone ((live ps).take i)).length
 refine⟨_,rfl,l,rfl,⟨_,gN.of (s2 l _ ha)⟩,iU (K:=K) (a:=l) (xs:=as.map V.ref) Jv
  ⟨none,none,[],rfl,s2,b_,(λx=>rfl),XW _⟩ (by rintro _ _ _ _ ⟨_,_,_,_,s3,_⟩;exact gN.of (s3 l _ ha)) ?_ ?_⟩
 ·rintro i v Z H2 hx ⟨v4,v5,kvs,rfl,s3,h1,h2,h3⟩
  obtain⟨b,hb,rfl⟩:=j9 hx
  obtain⟨p,hp,dx,vf,pu,cu,vo,g1,g2,g3,⟨cs,g4,Sr⟩,g5⟩:=ib pl hb
  have e:gone ((live ps).take (i+1))=gone ((live ps).take i)++p.js:=by rw[take_snoc hp,IQ]
  have hsz:(gone ((live ps).take i)++p.js).length<=4000:=by rw[<-e];exact(YU.sub (acA _ _)).js
  rw[YO] at hsz
  have Mt:=aav Sr
  let Jv:=λ(j:Nat) (Z:St) (H3:Hp)=>∃(v5:Option V)(kvs:List (List Key×V)),Z=[rr a,rs f,rr l,rr g,rr b,v5,none]/\gv H1 H3/\H3 g=some (.dT kvs)/\Sb kvs (gone ((live ps).take i)++p.js.take j)/\kvs.length<=(gone ((live ps).take i)).length+j
  refine⟨_,rfl,b,A.gT,dx,_,_,rfl,s3 _ _ g1,O.jm,O.jO,E7,cu,rfl,⟨_,gN.of (s3 _ _ g4)⟩,iU (K:=K) (a:=cu) (xs:=cs) Jv
   ⟨v5,kvs,rfl,s3,h1,by rw[abV,aa0];exact h2,by omega⟩ (by rintro _ _ _ _ ⟨_,_,_,s4,_⟩;exact gN.of (s4 cu _ g4)) ?_ ?_⟩
  ·rintro j v Z H3 hx ⟨v5,kvs,rfl,s4,h1,h2,h3⟩
   obtain⟨n,hn,t,rfl,ht⟩:=ib Sr hx
   have hj:j<cs.length:=(List.getElem?_eq_some_iff.mp hx).1
   refine⟨_,rfl,_,rfl,g,_,rfl,nF.t (k:=nk n) h1 (s4 _ _ ht) (abz (m:=4000) (by omega) (by decide)),?_⟩
   have hlk:=jq kvs (nk n) (V.bl true)
   refine⟨_,_,rfl,s4.upd hg,b_,?_,by omega⟩
   rw[take_snoc hn,<-aa5]
   exact h2.put n _
  ·rintro Z H3 ⟨v5,kvs,rfl,s4,h1,h2,h3⟩
   rw[Mt,aaE] at h2
   rw[Mt] at h3
   exact⟨_,v5,kvs,rfl,s4,h1,by rw[e];exact h2,by rw[e,YO];exact h3⟩
 ·rintro Z H2 ⟨v4,v5,kvs,rfl,s3,h1,h2,h3⟩
  rw[O7,hlen,aaE] at h2
  refine⟨_,rfl,_,rfl,l,live ps,f,rfl,O8.same s3,YU,λp H3 s4 pw ⟨YV,h3a,h3p⟩=>?_⟩
  have hlp:YV.length=(gA (live ps) f).length:=aav h3p
  have hbound:YV.length<=4000:=by rw[hlp];exact aan (qM _ _) YU.iw
  refine⟨p,rfl,⟨_,gN.of h3a⟩,jD (K:=K) (a:=p) (xs:=YV.map V.ref) (by rw[O7];exact aan hbound (by decide)) (λi ys Z H4=>∃(v6:Option V)(ls:List Addr),Z=[rr a,rs f,rr l,rr g,v4,v5,v6]/\H4=H3/\ys=ls.map V.ref/\ls.length<=i/\Paired (mH A H3) ls (((gA (live ps) f).take i).filter λl=>l.nm∉gone (live ps)))
   ⟨none,[],rfl,rfl,rfl,XW _,.nil⟩ (by rintro _ _ _ _ _ ⟨_,ls,_,e,e2,e3,_⟩;subst e e2;exact⟨gN.of h3a,by rw[O7];exact e3⟩) ?_ ?_⟩
  ·rintro i v ys Z H4 hx ⟨v6,ls,rfl,rfl,rfl,e3,h6⟩
   obtain⟨b,hb,rfl⟩:=j9 hx
   obtain⟨ln,tQ,dx,vn,vu,vl,k1,⟨t,rfl,k2⟩,k3,k4⟩:=ib h3p hb
   refine⟨_,rfl,b,A.gS,dx,_,_,rfl,k1,O.iL,O.gQ,iX,_,rfl,g,_,rfl,i5.t (k:=nk ln.nm) (s4 _ _ h1) k2,_,rfl,?_⟩
   rw[h2 ln.nm,take_snoc tQ,aaI]
   by_cases hm:ln.nm∈gone (live ps)
   ·rw[X0 hm]
    refine jf ⟨_,ls,rfl,rfl,rfl,by omega,?_⟩
    rw[aaj (by simpa using hm),aa3,aa0]
    exact h6
   ·rw[aaq hm]
    refine lL ⟨_,rfl,_,ls++[b],rfl,rfl,by rw[aaH];rfl,OK,?_⟩
    rw[YS (by simpa using hm),aa3]
    exact ig h6 ⟨dx,.ref t,vu,vl,k1,⟨t,rfl,k2⟩,k3,k4⟩
  ·rintro ys Z H4 ⟨v6,ls,rfl,rfl,rfl,e3,h6⟩ p2 A8
   rw[O7,hlp,aaE] at h6
   have s5:=((s1.trans s3).trans s4).new (o:=.lst (ls.map V.ref)) A8
   refine q p2 _ s5 (((s1.trans s3).trans s4).free A8) ⟨ls,b_,?_⟩
   exact Paired.i3 h6 λ_ _ z=>z.same ((gv.refl H4).new A8)
theorem p8{Z:Type}[DecidableEq Z](kvs:List (Z×V))(k:Z)(v:V):(putK kvs k v).map (·.1)=if k∈kvs.map (·.1) then kvs.map (·.1) else kvs.map (·.1)++[k]:=by
 unfold putK
 by_cases h:k∈kvs.map (·.1)
 ·have h':(kvs.any λkv=>decide (kv.1=k))=true:=by
   obtain⟨p,hp,e⟩:=List.mem_map.mp h
   exact List.any_eq_true.mpr ⟨p,hp,X0 e⟩
  rw[aay h',aay h,List.map_map]
  refine ab7 λp _=>?_
  show(if p.1=k then(p.1,v) else p).1=p.1
  split<;>rfl
 ·have h':¬(kvs.any λkv=>decide (kv.1=k))=true:=λz=>by
   obtain⟨p,hp,e⟩:=List.any_eq_true.mp z
   exact h (List.mem_map.mpr ⟨p,hp,aaB e⟩)
  rw[aaw h',aaw h,aaH]
  rfl
theorem tH{Z:Type}[DecidableEq Z]{kvs:List (Z×V)}{k:Z}:(iN kvs k).isSome=true↔k∈kvs.map (·.1):=by
 induction kvs with
 | nil=>exact⟨(λz=>by cases z),(λz=>by cases z)⟩
 | cons p r ih=>
  by_cases e:p.1=k
  ·rw[jh e,aaL,e];exact⟨λ_=>aaD,λ_=>rfl⟩
  ·rw[i_ e,ih,aaL]
   exact⟨λm=>aam _ m,λz=>(aah.mp z).elim (λz=>absurd z.symm e) id⟩
theorem E8{Z:Type}[DecidableEq Z]{kvs:List (Z×V)}{k:Z}(h:k∉kvs.map (·.1)):iN kvs k=none:=by
 cases e:iN kvs k with
 | none=>rfl
 | some v=>exact absurd (tH.mp (by rw[e];rfl)) h
theorem sL{n:Nm}{l:List Nm}:nk n∈l.map nk↔n∈l:=by
 constructor
 ·intro h
  obtain⟨m,hm,e⟩:=List.mem_map.mp h
  rw[<-o8 e];exact hm
 ·exact λh=>aaf h
def Bk(H:Hp)(a:Addr)(l:List Nm):Prop:=∃dk,H a=some (.dT dk)/\dk.map (·.1)=l.map nk
def ou(l:List Nm)(m:Nm):List Nm:=if m∈l then l else l++[m]
theorem sM{l:List Nm}{m x:Nm}:x∈ou l m↔x∈l\/x=m:=by
 unfold ou
 split
 ·rename_i h
  exact⟨.inl,λz=>z.elim id λz=>z▸h⟩
 ·simp
theorem zh{l:List Nm}{m:Nm}(h:l.Nodup):(ou l m).Nodup:=by
 unfold ou
 split
 ·exact h
 ·rename_i hm
  rw[abi]
  exact⟨h,by simp,λa ha b hb z=>hm (by rw[XT.mp hb] at z;exact z▸ha)⟩
theorem E9{l:List Nm}{m:Nm}:(ou l m).length<=l.length+1:=by
 unfold ou
 split
 ·omega
 ·rw[YO];exact XW _
theorem vX{dk:List (List Key×V)}{l:List Nm}(h:dk.map (·.1)=l.map nk)(m:Nm)(v:V):(putK dk (nk m) v).map (·.1)=(ou l m).map nk:=by
 rw[p8,h]
 unfold ou
 by_cases e:m∈l
 ·rw[aay (sL.mpr e),aay e]
 ·rw[aaw (λz=>e (sL.mp z)),aaw e,aaH];rfl
noncomputable def zk(ns:List Nm)(ds:List Addr):List (List Key×V):=List.zipWith (λn d=>(nk n,V.ref d)) ns ds
theorem Hz:∀{ns:List Nm} {ds:List Addr} (n:Nm) (d:Addr),ns.length=ds.length->zk (ns++[n]) (ds++[d])=zk ns ds++[(nk n,V.ref d)]
 | [],[],_,_,_=>rfl
 | [],_::_,_,_,h=>by simp at h
 | _::_,[],_,_,h=>by simp at h
 | x::r,y::t,n,d,h=>by
  show(nk x,V.ref y)::zk (r++[n]) (t++[d])=_
  rw[Hz n d (by simpa using h)]
  rfl
theorem C7:∀{ns:List Nm} {ds:List Addr},ns.length=ds.length->(zk ns ds).map (·.1)=ns.map nk
 | [],[],_=>rfl
 | [],_::_,h=>by simp at h
 | _::_,[],h=>by simp at h
 | x::r,y::t,h=>by
  show nk x::(zk r t).map (·.1)=nk x::r.map nk
  rw[C7 (by simpa using h)]
noncomputable def tP:List Nm->List Addr->Nm->Addr
 | x::r,d::t,n=>if x=n then d else tP r t n
 | _,_,_=>0
theorem KZ:∀{ns:List Nm} {ds:List Addr} {n:Nm},ns.length=ds.length->n∈ns->iN (zk ns ds) (nk n)=some (.ref (tP ns ds n))
 | [],_,_,_,hn=>by cases hn
 | _::_,[],_,h,_=>by simp at h
 | x::r,y::t,n,h,hn=>by
  show iN ((nk x,V.ref y)::zk r t) (nk n)=some (.ref (if x=n then y else tP r t n))
  by_cases e:x=n
  ·subst e
   rw[jh rfl,aay rfl]
  ·have hr:n∈r:=(aah.mp hn).elim (λz=>absurd z.symm e) id
   rw[i_ (λz=>e (o8 z)),KZ (by simpa using h) hr,aaw e]
theorem C8:∀{ns:List Nm} {ds:List Addr} {n:Nm},ns.length=ds.length->n∈ns->tP ns ds n∈ds
 | [],_,_,_,hn=>by cases hn
 | _::_,[],_,h,_=>by simp at h
 | x::r,y::t,n,h,hn=>by
  show(if x=n then y else tP r t n)∈y::t
  by_cases e:x=n
  ·rw[aay e];exact aaD
  ·rw[aaw e]
   exact aam _ (C8 (by simpa using h) ((aah.mp hn).elim (λz=>absurd z.symm e) id))
theorem K0:∀{ns:List Nm} {ds:List Addr} {n m:Nm},ns.length=ds.length->ds.Nodup->n∈ns->m∈ns->tP ns ds n=tP ns ds m->n=m
 | [],_,_,_,_,_,hn,_,_=>by cases hn
 | _::_,[],_,_,h,_,_,_,_=>by simp at h
 | x::r,y::t,n,m,h,nd,hn,hm,e=>by
  have hl:r.length=t.length:=by simpa using h
  rw[aa9] at nd
  have e:(if x=n then y else tP r t n)=(if x=m then y else tP r t m):=e
  by_cases e1:x=n
  ·by_cases e2:x=m
   ·exact e1.symm.trans e2
   ·rw[aay e1,aaw e2] at e
    exact absurd (e▸C8 hl ((aah.mp hm).elim (λz=>absurd z.symm e2) id)) nd.1
  ·have Sh:=(aah.mp hn).elim (λz=>absurd z.symm e1) id
   by_cases e2:x=m
   ·rw[aaw e1,aay e2] at e
    exact absurd (e▸C8 hl Sh) nd.1
   ·rw[aaw e1,aaw e2] at e
    exact K0 hl nd.2 Sh ((aah.mp hm).elim (λz=>absurd z.symm e2) id) e
structure X_(H:Hp)(p:Addr)(ns:List Nm)(ad:Nm->Addr)(sf:Nm->List Nm):Prop where
 at_:∃kvs,H p=some (.dT kvs)/\(∀n∈ns,iN kvs (nk n)=some (.ref (ad n)))/\kvs.map (·.1)=ns.map nk
 inj:∀n∈ns,∀m∈ns,ad n=ad m->n=m
 ks:∀n∈ns,Bk H (ad n) (sf n)
theorem Nq{ls:List Ln}{l:Ln}{m n:Nm}:Sa (ls++[l]) m n↔Sa ls m n\/(l.nm=n/\l.up=some m)\/(l.nm=m/\l.lo=some n):=by
 unfold Sa
 constructor
 ·rintro⟨x,hx,q⟩
  rcases aal.mp hx with h|h
  ·exact .inl ⟨x,h,q⟩
  ·rw[XT.mp h] at q;exact .inr q
 ·rintro(⟨x,hx,q⟩|q)
  ·exact⟨x,aaJ _ hx,q⟩
  ·exact⟨l,by simp,q⟩
def TV(A:Ad):Sp:=λvs H Q _=>∃(a:Addr)(ls:List Ln),vs=[.ref a]/\om A H a ls/\xq ls.length/\(ls.map (·.nm)).Nodup/\qr ls/\
 ∀p H' ad sf,gv H H'->H p=none->(∀n∈ls.map (·.nm),H (ad n)=none)->X_ H' p (ls.map (·.nm)) ad sf->(∀n,(sf n).Nodup/\∀m,m∈sf n↔Sa ls m n)->Q (.ref p) H'
theorem vY(T:Txt mg)(O:Ok K mg A):ie P w K mg base mL 1 A.pS A.pT ["lines"] (TV A):=by
 refine O.sy.f.rB kA λjt A0 outer s H vs Q E hr h=>?_
 obtain⟨a,ls,rfl,⟨as,ha,pa⟩,jL,nd,cl,q⟩:=h
 have hlen:=aav pa
 refine⟨_,(de (kZ 1 kA mE)
   (de (iD aaN rfl (ic (pv 0)) (tM 2 kA) (f_ (jA (by exact iS hr) (pv 1) (gL (pv 2) rfl) mE rfl)))
   (de (iD aaN rfl (ic (pv 0)) (tM 2 kA) (de (ql (il (ju (tf (gL (pv 2) rfl))) (f_ (jA (by exact iS hr) (zP hr (pv 1) (gL (pv 2) rfl)) (gL (pv 2) rfl) j_ rfl)) hG))
   (f_ (il (ju (tf (gL (pv 2) rfl))) (f_ (jA (by exact iS hr) (zP hr (pv 1) (gL (pv 2) rfl)) (gL (pv 2) rfl) j_ rfl)) hG))))
   (f_ (hE (pv 1)))))),?_⟩
 refine OG ?_;intro _ _ _
 intro p hp
 have s1:gv H (upd H p (.dT [])):=(gv.refl H).new hp
 dsimp only [lA];refine JA ?_;intro _
 let Jv:=λ(i:Nat) (Z:St) (H2:Hp)=>∃(v:Option V)(ds:List Addr),Z=[rr a,rr p,v]/\gv H H2/\H2 p=some (.dT (zk ((ls.take i).map (·.nm)) ds))/\ds.length=((ls.take i).map (·.nm)).length/\ds.Nodup/\(∀d∈ds,H d=none/\d≠p/\H2 d=some (.dT []))
 refine⟨_,rfl,a,rfl,⟨_,gN.of (s1 a _ ha)⟩,iU (K:=K) (a:=a) (xs:=as.map V.ref) Jv
  ⟨none,[],rfl,s1,b_,rfl,abu,λd hd=>by cases hd⟩ (by rintro _ _ _ _ ⟨_,_,_,s3,_⟩;exact gN.of (s3 a _ ha)) ?_ ?_⟩
 ·rintro i v Z H2 hx ⟨v0,ds,rfl,s3,h1,h2,h3,h4⟩
  obtain⟨b,hb,rfl⟩:=j9 hx
  obtain⟨l,hl,dx,vn,vu,vl,g1,⟨t,rfl,g2⟩,g3,g4⟩:=ib pa hb
  have hi:i<ls.length:=(List.getElem?_eq_some_iff.mp hl).1
  intro d hd
  have s4:gv H (upd H2 d (.dT [])):=s3.new hd
  have YW:d≠p:=λz=>by rw[z,h1] at hd;cases hd
  have Mu:d∉ds:=λz=>by rw[(h4 d z).2.2] at hd;cases hd
  have N0:upd H2 d (.dT []) p=some (.dT (zk ((ls.take i).map (·.nm)) ds)):=by rw[d_ YW.symm];exact h1
  have AL:l.nm∉(ls.take i).map (·.nm):=λz=>by
   have e2:(ls.map (·.nm)).take i=(ls.take i).map (·.nm):=List.map_take.symm
   rw[<-e2] at z
   obtain⟨j,hj,e⟩:=aaU.mp z |>.imp λj h=>(⟨(List.getElem?_eq_some_iff.mp h).1,h⟩:j<((ls.map (·.nm)).take i).length/\((ls.map (·.nm)).take i)[j]?=some l.nm)
   have Ju:j<i:=by rw[aaP] at hj;omega
   rw[acb,aay Ju] at e
   have e3:(ls.map (·.nm))[i]?=some l.nm:=by rw[aao,hl];rfl
   have:=(abS (List.getElem?_eq_some_iff.mp e).1 nd).mp (e.trans e3.symm)
   omega
  refine⟨_,rfl,_,rfl,b,A.gS,dx,_,_,rfl,s4 _ _ g1,O.iL,O.gQ,iX,p,_,rfl,nF.t (k:=nk l.nm) N0 (s4 _ _ g2) ?_,?_⟩
  ·have:(zk ((ls.take i).map (·.nm)) ds).length<=ds.length:=by unfold zk;rw[List.length_zipWith];exact Nat.min_le_right _ _
   rw[h2,O7,aaP] at this
   exact abz (m:=4000) (by have:xq ls.length:=jL;unfold xq at this;omega) (by decide)
  ·have e:putK (zk ((ls.take i).map (·.nm)) ds) (nk l.nm) (V.ref d)=zk ((ls.take (i+1)).map (·.nm)) (ds++[d]):=by
    rw[take_snoc hl,aaH]
    show _=zk (_++[l.nm]) _
    rw[Hz _ _ h2.symm]
    refine Es _ ?_
    exact E8 (by rw[C7 h2.symm];exact λz=>AL (sL.mp z))
   rw[e]
   refine⟨_,ds++[d],rfl,s4.upd hp,b_,?_,?_,?_⟩
   ·rw[take_snoc hl,aaH,YO,YO,h2];rfl
   ·rw[abi]
    exact⟨h3,by simp,λx hx y hy z=>Mu (by rw[XT.mp hy] at z;exact z▸hx)⟩
   ·intro x hx
    rcases aal.mp hx with hx|hx
    ·obtain⟨k1,k2,k3⟩:=h4 x hx
     refine⟨k1,k2,?_⟩
     rw[d_ k2,d_ (λz=>by rw[z] at hx;exact Mu hx)]
     exact k3
    ·rw[XT.mp hx]
     exact⟨s3.free hd,YW,by rw[d_ YW];exact b_⟩
 ·rintro Z H2 ⟨v0,ds,rfl,s3,h1,h2,h3,h4⟩
  have el:(as.map V.ref).length=ls.length:=by rw[O7];exact hlen
  rw[el,aaE] at h1 h2
  have WC:=h2.symm
  have Dz:∀n∈ls.map (·.nm),iN (zk (ls.map (·.nm)) ds) (nk n)=some (.ref (tP (ls.map (·.nm)) ds n)):=λn hn=>KZ WC hn
  have N8:∀n∈ls.map (·.nm),∀m∈ls.map (·.nm),tP (ls.map (·.nm)) ds n=tP (ls.map (·.nm)) ds m->n=m:=λn hn m hm e=>K0 WC h3 hn hm e
  have yJ:∀n∈ls.map (·.nm),H (tP (ls.map (·.nm)) ds n)=none/\tP (ls.map (·.nm)) ds n≠p/\H2 (tP (ls.map (·.nm)) ds n)=some (.dT []):=λn hn=>h4 _ (C8 WC hn)
  generalize tP (ls.map (·.nm)) ds=ad at Dz N8 yJ
  have O9:=C7 WC
  generalize zk (ls.map (·.nm)) ds=kvs at h1 Dz O9
  dsimp only [lA];refine JA ?_;intro _
  let Jv:=λ(i:Nat) (Z:St) (H3:Hp)=>∃(v:Option V)(sf:Nm->List Nm),Z=[rr a,rr p,v]/\gv H H3/\H3 p=some (.dT kvs)/\(∀n∈ls.map (·.nm),Bk H3 (ad n) (sf n))/\∀n,(sf n).Nodup/\(sf n).length<=2*i/\∀m,m∈sf n↔Sa (ls.take i) m n
  refine⟨_,rfl,a,rfl,⟨_,gN.of (s3 a _ ha)⟩,iU (K:=K) (a:=a) (xs:=as.map V.ref) Jv
   ⟨v0,λ_=>[],rfl,s3,h1,λn hn=>⟨[],(yJ n hn).2.2,rfl⟩,λn=>⟨abu,aaZ _,λm=>⟨(λz=>by cases z),λ⟨x,hx,_⟩=>by rw[abV] at hx;cases hx⟩⟩⟩ (by rintro _ _ _ _ ⟨_,_,_,s3,_⟩;exact gN.of (s3 a _ ha)) ?_ ?_⟩
  ·rintro i v Z H3 hx ⟨v1,sf,rfl,s4,k1,k2,k3⟩
   obtain⟨b,hb,rfl⟩:=j9 hx
   obtain⟨l,hl,dx,vn,vu,vl,g1,⟨t,rfl,g2⟩,g3,g4⟩:=ib pa hb
   have hi:i<ls.length:=(List.getElem?_eq_some_iff.mp hl).1
   have hi4:i<4000:=aaS hi jL
   have tQ:l.nm∈ls.map (·.nm):=aaf (XZ hl)
   have step:∀{H3:Hp} {sf:Nm->List Nm} {n m:Nm},gv H H3->H3 p=some (.dT kvs)->(∀n∈ls.map (·.nm),Bk H3 (ad n) (sf n))->n∈ls.map (·.nm)->∀dk,H3 (ad n)=some (.dT dk)->dk.map (·.1)=(sf n).map nk->
     gv H (upd H3 (ad n) (.dT (putK dk (nk m) (V.bl true))))/\upd H3 (ad n) (.dT (putK dk (nk m) (V.bl true))) p=some (.dT kvs)/\(∀x∈ls.map (·.nm),Bk (upd H3 (ad n) (.dT (putK dk (nk m) (V.bl true)))) (ad x) (if x=n then ou (sf n) m else sf x)):=λ{H3 sf n m} s4 k1 k2 hn dk hdk YX=>by
    refine⟨s4.upd (yJ n hn).1,by rw[d_ (yJ n hn).2.1.symm];exact k1,λx hx=>?_⟩
    by_cases e:x=n
    ·subst e
     rw[aay rfl]
     exact⟨_,b_,vX YX m _⟩
    ·rw[aaw e]
     obtain⟨Rv,e1,e2⟩:=k2 x hx
     exact⟨Rv,by rw[d_ (λz=>e (N8 x hx n hn z))];exact e1,e2⟩
   have WD:∀m n,Sa (ls.take (i+1)) m n↔Sa (ls.take i) m n\/(l.nm=n/\l.up=some m)\/(l.nm=m/\l.lo=some n):=λm n=>by rw[take_snoc hl];exact Nq
   refine⟨λZ H4=>∃sf:Nm->List Nm,Z=[rr a,rr p,rr b]/\gv H H4/\H4 p=some (.dT kvs)/\(∀n∈ls.map (·.nm),Bk H4 (ad n) (sf n))/\∀n,(sf n).Nodup/\(sf n).length<=2*i+1/\∀m,m∈sf n↔Sa (ls.take i) m n\/(l.nm=n/\l.up=some m),?_,?_⟩
   ·refine⟨_,rfl,b,A.gS,dx,_,_,rfl,s4 _ _ g1,O.iL,O.iF,GD,_,rfl,?_⟩
    cases hu:l.up with
    | none=>
     rw[hu] at g3
     rw[show vu=V.jb from g3]
     exact⟨sf,rfl,s4,k1,k2,λn=>⟨(k3 n).1,by have:=(k3 n).2.1;omega,λm=>by rw[(k3 n).2.2 m];exact⟨.inl,λz=>z.elim id λz=>by cases z.2⟩⟩⟩
    | some u=>
     rw[hu] at g3
     obtain⟨tu,rfl,gu⟩:=(show lI H vu u from g3)
     obtain⟨dk,e1,e2⟩:=k2 l.nm tQ
     have hdl:dk.length=(sf l.nm).length:=by have:=abe List.length e2;rwa [O7,O7] at this
     refine⟨_,rfl,_,rfl,b,A.gS,dx,_,_,rfl,s4 _ _ g1,O.iL,O.gQ,iX,p,.ref (ad l.nm),rfl,?_,_,rfl,b,A.gS,dx,_,_,rfl,s4 _ _ g1,O.iL,O.iF,GD,ad l.nm,_,rfl,nF.t (k:=nk u) e1 (s4 _ _ gu) (abz (m:=8000) (by have:=(k3 l.nm).2.1;omega) (by decide)),?_⟩
     ·have:=i5.t (k:=nk l.nm) k1 (s4 _ _ g2)
      rw[Dz _ tQ] at this
      exact this
     ·obtain⟨z1,z2,z3⟩:=step (m:=u) s4 k1 k2 tQ dk e1 e2
      refine⟨λx=>if x=l.nm then ou (sf l.nm) u else sf x,rfl,z1,z2,z3,λn=>?_⟩
      obtain⟨y1,y2,y3⟩:=k3 n
      show(if n=l.nm then ou (sf l.nm) u else sf n).Nodup/\(if n=l.nm then ou (sf l.nm) u else sf n).length<=_/\∀m,m∈(if n=l.nm then ou (sf l.nm) u else sf n)↔_
      by_cases e:n=l.nm
      ·subst e
       rw[aay rfl]
       have:=E9 (l:=sf l.nm) (m:=u)
       refine⟨zh y1,by omega,λm=>?_⟩
       rw[sM,y3 m]
       exact⟨λz=>z.elim .inl λz=>.inr ⟨rfl,by rw[z]⟩,λz=>z.elim .inl λz=>.inr (aaF z.2).symm⟩
      ·rw[aaw e]
       refine⟨y1,by omega,λm=>?_⟩
       rw[y3 m]
       exact⟨.inl,λz=>z.elim id λz=>absurd z.1.symm e⟩
   ·rintro Z H4 ⟨HY,rfl,s5,k4,k5,k6⟩
    have fin:∀(Rw:Nm->List Nm)(n:Nm),((Rw n).Nodup/\(Rw n).length<=2*i+2/\∀m,m∈Rw n↔(Sa (ls.take i) m n\/(l.nm=n/\l.up=some m))\/(l.nm=m/\l.lo=some n))->(Rw n).Nodup/\(Rw n).length<=2*(i+1)/\∀m,m∈Rw n↔Sa (ls.take (i+1)) m n:=λRw n ⟨z1,z2,z3⟩=>
     ⟨z1,by omega,λm=>by rw[z3 m,WD m n,or_assoc]⟩
    refine⟨_,rfl,b,A.gS,dx,_,_,rfl,s5 _ _ g1,O.iL,O.iG,GF,_,rfl,?_⟩
    cases hu:l.lo with
    | none=>
     rw[hu] at g4
     rw[show vl=V.jb from g4]
     refine⟨_,HY,rfl,s5,k4,k5,λn=>fin HY n ⟨(k6 n).1,by have:=(k6 n).2.1;omega,λm=>?_⟩⟩
     rw[(k6 n).2.2 m,hu]
     exact⟨.inl,λz=>z.elim id λz=>by cases z.2⟩
    | some d=>
     have Mu:d∈ls.map (·.nm):=(cl l (XZ hl)).2 d hu
     rw[hu] at g4
     obtain⟨td,rfl,gd⟩:=(show lI H vl d from g4)
     obtain⟨dk,e1,e2⟩:=k5 d Mu
     have hdl:dk.length=(HY d).length:=by have:=abe List.length e2;rwa [O7,O7] at this
     refine⟨_,rfl,_,rfl,b,A.gS,dx,_,_,rfl,s5 _ _ g1,O.iL,O.iG,GF,p,.ref (ad d),rfl,?_,_,rfl,b,A.gS,dx,_,_,rfl,s5 _ _ g1,O.iL,O.gQ,iX,ad d,_,rfl,nF.t (k:=nk l.nm) e1 (s5 _ _ g2) (abz (m:=8001) (by have:=(k6 d).2.1;omega) (by decide)),?_⟩
     ·have:=i5.t (k:=nk d) k4 (s5 _ _ gd)
      rw[Dz _ Mu] at this
      exact this
     ·obtain⟨z1,z2,z3⟩:=step (m:=l.nm) s5 k4 k5 Mu dk e1 e2
      refine⟨_,λx=>if x=d then ou (HY d) l.nm else HY x,rfl,z1,z2,z3,λn=>fin (λx=>if x=d then ou (HY d) l.nm else HY x) n ?_⟩
      obtain⟨y1,y2,y3⟩:=k6 n
      show(if n=d then ou (HY d) l.nm else HY n).Nodup/\(if n=d then ou (HY d) l.nm else HY n).length<=_/\∀m,m∈(if n=d then ou (HY d) l.nm else HY n)↔_
      by_cases e:n=d
      ·subst e
       rw[aay rfl]
       have:=E9 (l:=HY n) (m:=l.nm)
       refine⟨zh y1,by omega,λm=>?_⟩
       rw[sM,y3 m,hu]
       exact⟨λz=>z.elim .inl λz=>.inr ⟨z.symm,rfl⟩,λz=>z.elim .inl λz=>.inr z.1.symm⟩
      ·rw[aaw e]
       refine⟨y1,by omega,λm=>?_⟩
       rw[y3 m,hu]
       exact⟨.inl,λz=>z.elim id λz=>absurd (aaF z.2).symm e⟩
  ·rintro Z H3 ⟨v1,sf,rfl,s4,k1,k2,k3⟩
   rw[O7,hlen] at k3
   exact⟨_,rfl,q p _ ad sf s4 hp (λn hn=>(yJ n hn).1) ⟨⟨kvs,k1,Dz,O9⟩,N8,k2⟩ λn=>⟨(k3 n).1,λm=>by rw[(k3 n).2.2 m,aaE]⟩⟩
theorem lI.upd{H:Hp}{v:V}{n:Nm}{x:Addr}{o o':HO}(h:lI H v n)(hx:H x=some o')(ht:∀xs,o'≠.tup xs):lI (L2.upd H x o) v n:=by
 obtain⟨t,e,YQ⟩:=h
 exact⟨t,e,by rw[d_ (iR YQ hx (λz=>ht _ z.symm))];exact YQ⟩
theorem sN{dk:List (List Key×V)}{l:List Nm}(h:dk.map (·.1)=l.map nk):dk.length=l.length:=by
 have:=abe List.length h
 rwa [O7,O7] at this
theorem E_{dk:List (List Key×V)}{l:List Nm}(h:dk.map (·.1)=l.map nk){i:Nat}{k:List Key}{v:V}(hi:dk[i]?=some (k,v)):∃n,l[i]?=some n/\k=nk n:=by
 have h1:(dk.map (·.1))[i]?=some k:=by rw[aao,hi];rfl
 rw[h,aao] at h1
 obtain⟨n,e,e2⟩:=Option.map_eq_some_iff.mp h1
 exact⟨n,e,e2.symm⟩
theorem keys_has{dk:List (List Key×V)}{l:List Nm}(h:dk.map (·.1)=l.map nk)(n:Nm):(iN dk (nk n)).isSome=decide (n∈l):=by
 by_cases m:n∈l
 ·rw[X0 m];exact tH.mpr (by rw[h];exact sL.mpr m)
 ·rw[aaq m,ab3];exact λz=>m (sL.mp (by rw[<-h];exact tH.mp z))
theorem Fb:∀(more:List (List Key×V))(dk:List (List Key×V))(l r:List Nm),dk.map (·.1)=l.map nk->more.map (·.1)=r.map nk->l.Nodup->∃l':List Nm,(putAll dk more).map (·.1)=l'.map nk/\l'.Nodup/\∀m,m∈l'↔m∈l\/m∈r
 | [],dk,l,r,h1,h2,nd=>by
  have:r=[]:=by cases r with|nil=>rfl|cons _ _=>cases h2
  subst this
  exact⟨l,h1,nd,λm=>by simp⟩
 | p::t,dk,l,r,h1,h2,nd=>by
  cases r with
  | nil=>cases h2
  | cons x r=>
   rw[aaL,aaL] at h2
   injection h2 with e1 e2
   rw[rL,e1]
   obtain⟨l',z1,z2,z3⟩:=Fb t (putK dk (nk x) p.2) (ou l x) r (vX h1 x _) e2 (zh nd)
   refine⟨l',z1,z2,λm=>?_⟩
   rw[z3 m,sM,aah,or_assoc]
def QD:Sp:=λvs H Q _=>∃(d a:Addr)(xs:List Nm)(ka:List (List Key×V))(af:Nm->List Nm),vs=[.ref d,.ref a]/\Bk H d xs/\d≠a/\H a=some (.dT ka)/\(∀x∈xs,∃b,iN ka (nk x)=some (.ref b)/\b≠d/\Bk H b (af x))/\xs.length<=4000/\(∀x∈xs,(af x).length<=4000)/\
 ∀p H' rs,gv H H'->H p=none->Bk H' p rs->rs.Nodup->(∀m,m∈rs↔∃x∈xs,m=x\/m∈af x)->Q (.ref p) H'
theorem IS(T:Txt mg)(O:Ok K mg A):ie P w K mg base mL 1 A.EZ A.E1 ["names","ahead"] QD:=by
 refine O.joined.f.rB xf λjt A0 outer s H vs Q E hr h=>?_
 obtain⟨d,a,xs,ka,af,rfl,⟨kd,hd,hk⟩,hda,ha,hb,hx4,haf,q⟩:=h
 refine⟨_,(de (kZ 2 xf mE)
   (de (zb (iD aaN rfl (zN (pv 0)) (tM 3 xf) (de (jA (by exact iS hr) (pv 2) (pv 3) j_ rfl)
   (f_ (hU (Kw (by exact iS hr) (pv 2) (zP hr (pv 1) (pv 3)) ⟨rfl,rfl,rfl,rfl⟩))))))
   (f_ (hE (pv 2))))),?_⟩
 refine Ey ?_;intro _ _
 intro p hp
 have UY:p≠d:=(gr hd hp).symm
 have O_:p≠a:=(gr ha hp).symm
 refine⟨_,rfl,d,kd,rfl,by rw[d_ UY.symm];exact hd,λo uz=>?_⟩
 have JC:=sN hk
 let Jv:=λ(i:Nat) (Z:St) (H2:Hp)=>∃(v:Option V)(kf:List (List Key×V))(rs:List Nm),Z=[rr d,rr a,rr p,v]/\(∀b o,H b=some o->b≠d->H2 b=some o)/\H2 d=some (.nj o (.dT kd))/\H2 p=some (.dT kf)/\kf.map (·.1)=rs.map nk/\rs.Nodup/\kf.length<=i*4001/\∀m,m∈rs↔∃x∈xs.take i,m=x\/m∈af x
 refine BU (d:=d) (o:=o) (kvs:=kd) Jv
  ⟨none,[],[],rfl,λb o e nb=>by rw[d_ nb,d_ (gr e hp)];exact e,b_,by rw[d_ UY];exact b_,rfl,abu,by simp,λm=>by simp⟩ (by rintro _ _ _ ⟨_,_,_,_,_,e,_⟩;exact e) ?_ ?_
 ·rintro i k v t Z H2 hi ht ⟨v0,kf,rs,rfl,h1,h2,h3,h4,h5,h6,h7⟩
  obtain⟨x,hx,rfl⟩:=E_ hk hi
  have hxm:x∈xs:=XZ hx
  have Bz:i<xs.length:=(List.getElem?_eq_some_iff.mp hx).1
  obtain⟨b,e1,e2,kb,e3,e4⟩:=hb x hxm
  have WE:b≠p:=gr e3 hp
  have O4:=sN e4
  have hb4:=haf x hxm
  have htp:t≠p:=λz=>by rw[z,h3] at ht;cases ht
  have hl:=jq kf (nk x) (V.bl true)
  have sz:sizeLine=16777216:=aaQ
  have hmul:i*4001<=4000*4001:=Nat.mul_le_mul_right _ (by omega)
  refine⟨_,rfl,_,rfl,p,_,rfl,nF.t (k:=nk x) h3 ht (by omega),?_⟩
  have oe:putK kf (nk x) (V.bl true)≠[]:=λz=>by
   have:=vX h4 x (V.bl true)
   rw[z] at this
   have hm:x∈ou rs x:=sM.mpr (.inr rfl)
   cases hq:ou rs x with
   | nil=>rw[hq] at hm;cases hm
   | cons _ _=>rw[hq] at this;cases this
  refine⟨_,rfl,p,rfl,.inr ⟨_,.inl b_⟩,_,rfl,_,rfl,a,.ref b,rfl,?_,b,_,kb,rfl,b_,.inl (by rw[d_ WE];exact h1 _ _ e3 e2),WE.symm,oe,by omega,?_⟩
  ·have:=i5.t (H:=L2.upd H2 p (.dT (putK kf (nk x) (V.bl true)))) (k:=nk x) (by rw[d_ O_.symm];exact h1 a _ ha hda.symm) (b:=t) (by rw[d_ htp];exact ht)
   rw[e1] at this
   exact this
  ·obtain⟨l',z1,z2,z3⟩:=Fb kb _ (ou rs x) (af x) (vX h4 x (V.bl true)) e4 (zh h5)
   refine⟨_,_,l',rfl,λb o e nb=>?_,?_,b_,z1,z2,?_,λm=>?_⟩
   ·rw[d_ (gr e hp),d_ (gr e hp)];exact h1 b o e nb
   ·rw[d_ UY.symm,d_ UY.symm];exact h2
   ·have:=qm kb (putK kf (nk x) (V.bl true))
    have:(i+1)*4001=i*4001+4001:=Nat.succ_mul _ _
    omega
   ·rw[z3 m,sM,h7 m,take_snoc hx]
    constructor
    ·rintro((⟨y,hy,z⟩|z)|z)
     ·exact⟨y,aaJ _ hy,z⟩
     ·exact⟨x,by simp,.inl z⟩
     ·exact⟨x,by simp,.inr z⟩
    ·rintro⟨y,hy,z⟩
     rcases aal.mp hy with hy|hy
     ·exact .inl (.inl ⟨y,hy,z⟩)
     ·rw[XT.mp hy] at z
      exact z.elim (λz=>.inl (.inr z)) .inr
 ·rintro Z H2 ⟨v0,kf,rs,rfl,h1,h2,h3,h4,h5,h6,h7⟩
  rw[JC,aaE] at h7
  refine⟨d,o,_,h2,uz,_,rfl,q p _ rs (λb u e=>?_) hp ⟨kf,by rw[d_ UY];exact h3,h4⟩ h5 h7⟩
  by_cases YY:b=d
  ·subst YY;rw[b_];rw[hd] at e;exact e
  ·rw[d_ YY];exact h1 b u e YY
structure o9(ls:List Ln)(H1 H:Hp)(h:Addr)(S:List Nm)(af:Nm->List Nm):Prop where
 ex:∃kvs,H h=some (.dT kvs)/\kvs.map (·.1)=S.map nk/\∀n∈S,∃b,iN kvs (nk n)=some (.ref b)/\b≠h/\H1 b=none/\Bk H b (af n)
 nd:S.Nodup
 good:∀n∈S,n∈ls.map (·.nm)/\(af n).Nodup/\∀m,m∈af n↔Ah ls m n
theorem o9.same{ls:List Ln}{H1 H H':Hp}{h:Addr}{S:List Nm}{af:Nm->List Nm}(x:o9 ls H1 H h S af)(s:gv H H'):o9 ls H1 H' h S af:=by
 obtain⟨⟨kvs,e1,e2,e3⟩,nd,g⟩:=x
 refine⟨⟨kvs,s _ _ e1,e2,λn hn=>?_⟩,nd,g⟩
 obtain⟨b,z1,z2,z3,dk,z4,z5⟩:=e3 n hn
 exact⟨b,z1,z2,z3,dk,s _ _ z4,z5⟩
theorem o9.lst{ls:List Ln}{H1 H:Hp}{h c:Addr}{S:List Nm}{af:Nm->List Nm}{xs:List V}{o:HO}(x:o9 ls H1 H h S af)(hc:H c=some (.lst xs)):o9 ls H1 (L2.upd H c o) h S af:=by
 obtain⟨⟨kvs,e1,e2,e3⟩,nd,g⟩:=x
 refine⟨⟨kvs,by rw[d_ (iR e1 hc (λz=>by cases z))];exact e1,e2,λn hn=>?_⟩,nd,g⟩
 obtain⟨b,z1,z2,z3,dk,z4,z5⟩:=e3 n hn
 exact⟨b,z1,z2,z3,dk,by rw[d_ (iR z4 hc (λz=>by cases z))];exact z4,z5⟩
theorem HA{sf:Nm->List Nm}{B n:Nat}{st S:List Nm}(r:Run sf B n st S):st.length<=B:=by
 cases r with
 | nil=>exact aaZ _
 | skip _ h _=>exact h
 | fin _ _ h _=>exact h
 | push _ _ h _=>exact h
theorem Fc{Z Y:Type}{F:Z->Y->Prop}{vs:List Z}{xs:List Y}{x:Y}(p:Paired F vs (xs++[x])):∃WG v,vs=WG++[v]/\Paired F WG xs/\F v x:=by
 induction xs generalizing vs with
 | nil=>
  cases p with
  | cons f t=>cases t;exact⟨[],_,rfl,.nil,f⟩
 | cons y r ih=>
  cases p with
  | cons f t=>
   obtain⟨WG,v,rfl,h1,h2⟩:=ih t
   exact⟨_::WG,v,rfl,.cons f h1,h2⟩
def C9(H:Hp)(p:Addr)(ls:List Ln):Prop:=∃kvs,H p=some (.dT kvs)/\∀n∈ls.map (·.nm),∃b dk,iN kvs (nk n)=some (.ref b)/\H b=some (.dT dk)/\∀m,(iN dk (nk m)).isSome=true↔Ah ls m n
theorem C9.same{H H':Hp}{p:Addr}{ls:List Ln}(x:C9 H p ls)(s:gv H H'):C9 H' p ls:=by
 obtain⟨kvs,e1,e2⟩:=x
 refine⟨kvs,s _ _ e1,λn hn=>?_⟩
 obtain⟨b,dk,z1,z2,z3⟩:=e2 n hn
 exact⟨b,dk,z1,s _ _ z2,z3⟩
def TX(A:Ad):Sp:=λvs H Q _=>∃(a:Addr)(ls:List Ln),vs=[.ref a]/\om A H a ls/\xq ls.length/\(ls.map (·.nm)).Nodup/\qr ls/\KG ls/\∀p H',gv H H'->H p=none->C9 H' p ls->Q (.ref p) H'
theorem C_(T:Txt mg)(O:Ok K mg A):ie P w K mg base mL 2 A.yd A.ye ["lines"] (TX A):=by
 have xC:=@vY P w K mg base A T O
 have LW:=@IS P w K mg base A T O
 refine O.BZ.f.rB jE λjt A0 outer s H vs Q E hr h=>?_
 obtain⟨a,ls,rfl,la,jL,nd,cl,tp,q⟩:=h
 obtain⟨as,ha,pa⟩:=id la
 have hlen:=aav pa
 have y4:ls.length<=4000:=jL
 refine⟨_,(de (kZ 1 jE (oh O.sy xC hr (a_ (pv 0) e_)))
   (de (lx (i:=2) jE.nd rfl (Or.inr rfl) mE)
   (de (iD aaN rfl (ic (pv 0)) (tM 3 jE) (de (kZ 4 jE (iB (a_ (gL (pv 3) rfl) e_)))
   (f_ (Ec aaN (uX (pv 4) (λ_=>rfl)) (de (kZ 5 jE (P6 aa2 PySem.F.slot_list_pop PySem.F.type_list_pop P8 (pv 4)))
   (de (il (ju (o4 (by exact iS hr) (pv 5) (pv 2))) (f_ (Eb)) hG)
   (de (zb (wL (j:=6) xY (gp oG).names [7] jE.nd rfl rfl rfl (zN (zP hr (pv 1) (pv 5))) rfl (by decide+kernel) (λ_ _ _ _=>(ir (i:=7) jE.nd rfl (Or.inl rfl))) (λ_ _ _ _=>⟨_,nN (ju (lC (by exact iS hr) (pv 7) (pv 2))),by(try simp only [kL]);rfl⟩) (λ_ _ _ _=>zc (pv 7))))
   (f_ (il (uX (pv 6) (λ_=>rfl)) (de (hU (pC aa2 aba abb kl (pv 4) (a_ (pv 5) e_)))
   (f_ (hU (pC aa2 PySem.F.slot_list_extend PySem.F.type_list_extend BJ (pv 4) (a_ (pv 6) e_))))) (f_ (jA (by exact iS hr) (pv 2) (pv 5) (oh O.joined LW hr (a_ (zP hr (pv 1) (pv 5)) (a_ (pv 2) e_))) rfl)))))))))))
   (f_ (hE (pv 2)))))),?_⟩
 refine OG ?_;intro _ _ _
 refine⟨_,rfl,a,ls,rfl,la,jL,nd,cl,λst H1 ad sf s1 hst0 had0 uH Rx=>?_⟩
 obtain⟨⟨kst,N9,DA,hst3⟩,N8,YX⟩:=uH
 have hN:(1+ls.length*ls.length)<=16000001:=by have:=Nat.mul_le_mul y4 y4;omega
 have sz:sizeLine=16777216:=aaQ
 have UZ:∀n,(sf n).length<=4000:=λn=>by
  have:=len_sub (ys:=ls.map (·.nm)) (Rx n).1 λy hy=>(cl.sa (((Rx n).2 y).mp hy)).1
  rw[O7] at this;omega
 intro h hh
 have s2:gv H1 (L2.upd H1 h (.dT [])):=(gv.refl H1).new hh
 dsimp only [lA];refine JA ?_;intro _
 let Jv:=λ(i:Nat) (Z:St) (H2:Hp)=>∃(v3 v4 v5 v6:Option V)(S:List Nm)(af:Nm->List Nm),Z=[rr a,rr st,rr h,v3,v4,v5,v6,none]/\gv H1 H2/\o9 ls H1 H2 h S af/\∀l∈ls.take i,l.nm∈S
 refine⟨_,rfl,a,rfl,⟨_,gN.of (s2 _ _ (s1 _ _ ha))⟩,iU (K:=K) (a:=a) (xs:=as.map V.ref) Jv
  ⟨none,none,none,none,[],λ_=>[],rfl,s2,⟨⟨[],b_,rfl,λn hn=>by cases hn⟩,abu,λn hn=>by cases hn⟩,λl hl=>by rw[abV] at hl;cases hl⟩ (by rintro _ _ _ _ ⟨_,_,_,_,_,_,_,s3,_⟩;exact gN.of (s3 _ _ (s1 _ _ ha))) ?_ ?_⟩
 ·rintro i v Z H2 hx ⟨v3,v4,v5,v6,S0,af0,rfl,s3,D0,hS0⟩
  obtain⟨b,hb,rfl⟩:=j9 hx
  obtain⟨l,hl,dx,vn,vu,vl,g1,⟨t0,rfl,g2⟩,g3,g4⟩:=ib pa hb
  have tQ:l.nm∈ls.map (·.nm):=aaf (XZ hl)
  refine⟨_,rfl,b,A.gS,dx,_,_,rfl,s3 _ _ (s1 _ _ g1),O.iL,O.gQ,iX,L2.jL,λc hc=>?_⟩
  have LX:H1 c=none:=s3.free hc
  have s4:gv H1 (L2.upd H2 c (.lst [.ref t0])):=s3.new hc
  obtain⟨n0,r0⟩:=KH cl tp Rx l.nm S0
  refine⟨λm Z H3=>∃(v5 v6:Option V)(sk S:List Nm)(af:Nm->List Nm)(cv:List V),Z=[rr a,rr st,rr h,rr b,rr c,v5,v6,none]/\Run sf (1+ls.length*ls.length) m sk S/\gv H1 H3/\H3 c=some (.lst cv)/\Paired (lI H3) cv sk.reverse/\o9 ls H1 H3 h S af/\(∀y∈sk,y∈ls.map (·.nm))/\(l.nm∈sk\/l.nm∈S)/\(∀y∈S0,y∈S),
   ⟨n0,v5,v6,[l.nm],S0,af0,[.ref t0],rfl,r0,s4,b_,.cons ⟨t0,rfl,s4 _ _ (s1 _ _ g2)⟩ .nil,D0.same ((gv.refl H2).new hc),λy hy=>by rw[XT.mp hy];exact tQ,.inl (by simp),λ_ z=>z⟩,?_⟩
  rintro m Z H3 ⟨v5,v6,sk,S,af,cv,rfl,run,s5,Ry,YZ,D,Y0,G3,hS⟩
  cases sk with
  | nil=>
   have:cv=[]:=by cases YZ;rfl
   subst this
   refine⟨_,rfl,false,.inl ⟨_,gN.of Ry,rfl⟩,jf ?_⟩
   refine⟨_,_,_,_,S,af,rfl,s5,D,λy hy=>?_⟩
   rw[take_snoc hl] at hy
   rcases aal.mp hy with hy|hy
   ·exact hS _ (hS0 y hy)
   ·rw[XT.mp hy]
    exact G3.elim (λz=>by cases z) id
  | cons x sk=>
   rw[acD] at YZ
   obtain⟨JD,vx,rfl,U0,t,rfl,ht⟩:=Fc YZ
   have WH:x∈ls.map (·.nm):=Y0 x aaD
   have U1:∀y∈sk,y∈ls.map (·.nm):=λy hy=>Y0 y (aam _ hy)
   have Mt:JD.length=sk.length:=by have:=aav U0;rwa [abF] at this
   refine⟨_,rfl,true,.inl ⟨_,gN.of Ry,by simp⟩,lL ?_⟩
   obtain⟨n,hn,run'⟩:∃n,m=n+1/\(x∈S/\Run sf (1+ls.length*ls.length) n sk S\/x∉S/\EH sf S x=[]/\Run sf (1+ls.length*ls.length) n sk (S++[x])\/x∉S/\EH sf S x≠[]/\Run sf (1+ls.length*ls.length) n ((EH sf S x).reverse++x::sk) S):=by
    cases run with
    | skip z1 _ z2=>exact⟨_,rfl,.inl ⟨z1,z2⟩⟩
    | fin z1 z2 _ z3=>exact⟨_,rfl,.inr (.inl ⟨z1,z2,z3⟩)⟩
    | push z1 z2 _ z3=>exact⟨_,rfl,.inr (.inr ⟨z1,z2,z3⟩)⟩
   have Wt:sk.length+1<=16000001:=by have:=HA run;rw[aai] at this;omega
   subst hn
   refine⟨λZ H4=>∃(v5 v6:Option V)(sk S:List Nm)(af:Nm->List Nm)(cv:List V),Z=[rr a,rr st,rr h,rr b,rr c,v5,v6,none]/\Run sf (1+ls.length*ls.length) n sk S/\gv H1 H4/\H4 c=some (.lst cv)/\Paired (lI H4) cv sk.reverse/\o9 ls H1 H4 h S af/\(∀y∈sk,y∈ls.map (·.nm))/\(l.nm∈sk\/l.nm∈S)/\(∀y∈S0,y∈S),λZ' H' z=>⟨n,acE n,z⟩,?_⟩
   refine⟨_,rfl,.inl ⟨rfl,_,gN.of Ry⟩,c,_,.ref t,rfl,rfl,Ry,by simp,?_⟩
   rw[List.dropLast_concat]
   have D4:o9 ls H1 (L2.upd H3 c (.lst JD)) h S af:=D.lst Ry
   have s6:gv H1 (L2.upd H3 c (.lst JD)):=s5.upd LX
   have p4:Paired (lI (L2.upd H3 c (.lst JD))) JD sk.reverse:=Paired.i3 U0 λ_ _ z=>z.upd Ry (λ_ z=>by cases z)
   have Ss:L2.upd H3 c (.lst JD) t=some (nT x):=by rw[d_ (iR ht Ry (λz=>by cases z))];exact ht
   have Su:L2.upd H3 c (.lst JD) c=some (.lst JD):=b_
   generalize L2.upd H3 c (.lst JD)=H4 at D4 s6 p4 Ss Su ⊢
   obtain⟨⟨kvs,e1,e2,e3⟩,Rz,good⟩:=id D4
   refine⟨_,rfl,_,rfl,h,_,rfl,i5.t (k:=nk x) e1 Ss,_,rfl,?_⟩
   rw[keys_has e2 x]
   rcases run' with⟨Sv,r⟩|Pa
   ·rw[X0 Sv]
    refine lL ⟨_,_,sk,S,af,JD,rfl,r,s6,Su,p4,D4,U1,?_,hS⟩
    exact G3.elim (λz=>(aah.mp z).elim (λz=>.inr (z▸Sv)) .inl) .inr
   ·have Sv:x∉S:=Pa.elim (·.1) (·.1)
    rw[aaq Sv]
    refine jf ?_
    obtain⟨dk,Y1,hd2⟩:=YX x WH
    have Y2:=s6 _ _ Y1
    have U2:ad x≠h:=gr Y1 hh
    refine⟨_,rfl,_,rfl,st,.ref (ad x),rfl,?_,ad x,dk,rfl,Y2,λo uz=>?_⟩
    ·have:=i5.t (k:=nk x) (s6 _ _ N9) Ss
     rw[DA x WH] at this
     exact this
    have Y3:∀{y:Addr} {u:HO},y≠ad x->H4 y=some u->L2.upd H4 (ad x) (.nj o (.dT dk)) y=some u:=λny e=>by rw[d_ ny];exact e
    refine Ks (d:=ad x) (o:=o) (kvs:=dk) (by rw[sN hd2];exact aan (UZ x) (by decide)) (λi ys Z H5=>∃(v7:Option V),Z=[rr a,rr st,rr h,rr b,rr c,rr t,v6,v7]/\H5=L2.upd H4 (ad x) (.nj o (.dT dk))/\ys.length<=i/\Paired (lI (L2.upd H4 (ad x) (.nj o (.dT dk)))) ys (((sf x).take i).filter λy=>y∉S))
     ⟨none,rfl,rfl,XW _,.nil⟩ (by rintro _ _ _ _ ⟨_,_,e,e4,_⟩;subst e;exact⟨b_,e4⟩) ?_ ?_
    ·rintro i k v tb ys Z H5 hi Y4 ⟨v7,rfl,rfl,e4,e5⟩
     obtain⟨y,hy,rfl⟩:=E_ hd2 hi
     refine⟨_,rfl,_,rfl,h,_,rfl,i5.t (k:=nk y) (Y3 U2.symm e1) Y4,_,rfl,?_⟩
     rw[keys_has e2 y,take_snoc hy,aaI]
     by_cases hm:y∈S
     ·rw[X0 hm]
      refine jf ⟨_,rfl,rfl,by omega,?_⟩
      rw[aaj (by simpa using hm),aa3,aa0]
      exact e5
     ·rw[aaq hm]
      refine lL ⟨_,rfl,_,rfl,rfl,OK,?_⟩
      rw[YS (by simpa using hm),aa3]
      exact ig e5 ⟨tb,rfl,Y4⟩
    ·rintro ys Z H5 ⟨v7,rfl,rfl,e4,e5⟩ p hp
     rw[sN hd2,aaE] at e5
     have O_:p≠ad x:=λz=>by rw[z,b_] at hp;cases hp
     have U3:H4 p=none:=by rw[d_ O_] at hp;exact hp
     refine⟨ad x,o,_,by rw[d_ O_.symm];exact b_,uz,?_⟩
     rw[CJ Y2 O_]
     have pm:Paired (lI H4) ys (EH sf S x):=Paired.i3 e5 λv y ⟨tb,e,z⟩=>⟨tb,e,by
      have:tb≠ad x:=λw=>by rw[w,b_] at z;cases z
      rwa [d_ this] at z⟩
     have s7:gv H4 (L2.upd H4 p (.lst ys)):=(gv.refl H4).new U3
     have Sw:ys.length=(EH sf S x).length:=aav pm
     refine⟨_,rfl,!ys.isEmpty,.inl ⟨_,gN.of b_,rfl⟩,?_⟩
     rcases Pa with⟨_,WI,r⟩|⟨_,WI,r⟩
     ·
      have:ys=[]:=aaR.mp (by rw[Sw,WI];rfl)
      subst this
      refine jf ?_
      have wq:=CM.mp WI
      refine⟨_,rfl,_,rfl,st,.ref (ad x),rfl,?_,_,rfl,ad x,h,sf x,kvs,af,rfl,⟨dk,s7 _ _ Y2,hd2⟩,U2,s7 _ _ e1,λy hy=>?_,UZ x,λy hy=>?_,λp2 H6 rs s8 A8 U4 nd2 hm2=>?_⟩
      ·have:=i5.t (k:=nk x) (s7 _ _ (s6 _ _ N9)) (s7 _ _ Ss)
       rw[DA x WH] at this
       exact this
      ·obtain⟨bb,z1,z2,z3,Rv,z4,z5⟩:=e3 y (wq y hy)
       exact⟨bb,z1,(gr Y1 z3).symm,Rv,s7 _ _ z4,z5⟩
      ·obtain⟨z1,z2,z3⟩:=good y (wq y hy)
       have:=len_sub (ys:=ls.map (·.nm)) z2 λm hm=>(cl.ah ((z3 m).mp hm)).1
       rw[O7] at this;omega
      ·have s9:=s7.trans s8
       have hSl:S.length<=4000:=by
        have:=len_sub (ys:=ls.map (·.nm)) Rz λm hm=>(good m hm).1
        rw[O7] at this;omega
       have e6:H6 h=some (.dT kvs):=s9 _ _ e1
       refine⟨_,rfl,_,rfl,h,_,rfl,nF.t (k:=nk x) e6 (s9 _ _ Ss) (by rw[sN e2];omega),?_⟩
       have U5:p2≠h:=(gr (s7 _ _ e1) A8).symm
       have Y5:H1 p2=none:=(s6.trans s7).free A8
       have key:putK kvs (nk x) (V.ref p2)=kvs++[(nk x,V.ref p2)]:=Es _ (E8 (by rw[e2];exact λz=>Sv (sL.mp z)))
       have hhT:H1 h=none:=hh
       refine⟨_,_,sk,S++[x],λy=>if y=x then rs else af y,JD,rfl,r,(s6.trans s9).upd hhT,?_,?_,⟨⟨_,b_,?_,λy hy=>?_⟩,?_,λy hy=>?_⟩,U1,?_,λy hy=>aaJ _ (hS y hy)⟩
       ·rw[d_ (iR (s9 _ _ Su) e6 (λz=>by cases z))];exact s9 _ _ Su
       ·exact Paired.i3 p4 λ_ _ z=>(z.same s9).upd e6 (λ_ z=>by cases z)
       ·rw[key,aaH,e2,aaH];rfl
       ·show ∃bb,iN (putK kvs (nk x) (V.ref p2)) (nk y)=some (V.ref bb)/\bb≠h/\H1 bb=none/\Bk _ bb (if y=x then rs else af y)
        rw[kc]
        by_cases e:y=x
        ·subst e
         rw[aay rfl,aay rfl]
         obtain⟨Rv,w1,w2⟩:=U4
         exact⟨p2,rfl,U5,Y5,Rv,by rw[d_ U5];exact w1,w2⟩
        ·rw[aaw (λz=>e (o8 z)),aaw e]
         have hyS:y∈S:=(aal.mp hy).elim id λz=>absurd (XT.mp z) e
         obtain⟨bb,z1,z2,z3,Rv,z4,z5⟩:=e3 y hyS
         exact⟨bb,z1,z2,z3,Rv,by rw[d_ z2];exact s9 _ _ z4,z5⟩
       ·rw[abi]
        exact⟨Rz,by simp,λu hu w hw z=>Sv (by rw[XT.mp hw] at z;have z:u=x:=z;exact z▸hu)⟩
       ·show y∈ls.map (·.nm)/\(if y=x then rs else af y).Nodup/\∀m,m∈(if y=x then rs else af y)↔Ah ls m y
        by_cases e:y=x
        ·subst e
         rw[aay rfl]
         refine⟨WH,nd2,λm=>?_⟩
         rw[hm2 m,Ah.last]
         constructor
         ·rintro⟨u,hu,z⟩
          have WD:=((Rx y).2 u).mp hu
          rcases z with z|z
          ·exact .inl (z▸WD)
          ·exact .inr ⟨u,((good u (wq u hu)).2.2 m).mp z,WD⟩
         ·rintro(z|⟨u,z1,z2⟩)
          ·exact⟨m,((Rx y).2 m).mpr z,.inl rfl⟩
          ·have hu:=((Rx y).2 u).mpr z2
           exact⟨u,hu,.inr (((good u (wq u hu)).2.2 m).mpr z1)⟩
        ·rw[aaw e]
         exact good y ((aal.mp hy).elim id λz=>absurd (XT.mp z) e)
       ·exact G3.elim (λz=>(aah.mp z).elim (λz=>.inr (by rw[z];simp)) .inl) λz=>.inr (aaJ _ z)
     ·
      have Pb:(!ys.isEmpty)=true:=by
       cases ys with
       | nil=>exact absurd (aaR.mp Sw.symm) WI
       | cons _ _=>rfl
      refine Ki Pb ?_
      have Dy:=HA r
      rw[YO,abF,aai] at Dy
      have WJ:=s7 _ _ Su
      refine⟨_,rfl,.inl ⟨rfl,_,gN.of WJ⟩,_,rfl,c,_,_,rfl,rfl,WJ,by omega,?_⟩
      have hpc:p≠c:=(gr Su U3).symm
      refine⟨_,rfl,.inl ⟨rfl,_,gN.of b_⟩,_,rfl,c,p,_,_,rfl,rfl,b_,by rw[d_ hpc];exact b_,by rw[YO];show JD.length+1+ys.length<=_;omega,?_⟩
      refine⟨_,_,(EH sf S x).reverse++x::sk,S,af,_,rfl,r,((s6.trans s7).upd LX).upd LX,b_,?_,((D4.same s7).lst WJ).lst b_,λy hy=>?_,?_,hS⟩
      ·rw[List.reverse_append,List.reverse_reverse,acD]
       refine Paired.i3 (F:=lI (L2.upd H4 p (.lst ys))) (uE (ig (Paired.i3 p4 λ_ _ z=>z.same s7) ⟨t,rfl,s7 _ _ Ss⟩) (Paired.i3 pm λ_ _ z=>z.same s7)) λ_ _ z=>?_
       exact(z.upd WJ (λ_ z=>by cases z)).upd b_ (λ_ z=>by cases z)
      ·rcases aal.mp hy with hy|hy
       ·have hy:=(aap.mp (List.mem_reverse.mp hy)).1
        exact(cl.sa (((Rx x).2 y).mp hy)).1
       ·exact Y0 y hy
      ·exact G3.elim (λz=>.inl (aaX _ z)) .inr
 ·rintro Z H2 ⟨v3,v4,v5,v6,S,af,rfl,s3,⟨⟨kvs,e1,e2,e3⟩,Rz,good⟩,hS⟩
  rw[O7,hlen,aaE] at hS
  refine⟨_,rfl,q h _ (s1.trans s3) (s1.free hh) ⟨kvs,e1,λn hn=>?_⟩⟩
  obtain⟨l,hl,rfl⟩:=List.mem_map.mp hn
  obtain⟨bb,z1,z2,z3,dk,z4,z5⟩:=e3 _ (hS l hl)
  exact⟨bb,dk,z1,z4,λm=>by rw[tH,z5,sL];exact(good _ (hS l hl)).2.2 m⟩
theorem K1{Z:Type}[DecidableEq Z]:∀{kvs:List (Z×V)} {i:Nat} {k:Z} {v:V},(kvs.map (·.1)).Nodup->kvs[i]?=some (k,v)->iN kvs k=some v
 | [],_,_,_,_,h=>by simp at h
 | p::r,i,k,v,nd,h=>by
  rw[aaL,aa9] at nd
  cases i with
  | zero=>simp at h;subst h;exact jh rfl
  | succ i=>
   have h:r[i]?=some (k,v):=by simpa using h
   have hm:k∈r.map (·.1):=List.mem_map.mpr ⟨_,XZ h,rfl⟩
   rw[i_ (λz=>nd.1 (by rw[z];exact hm))]
   exact K1 nd.2 h
theorem K2{Z:Type}[DecidableEq Z](kvs:List (Z×V))(k j:Z)(h:j≠k):iN (jU kvs k) j=iN kvs j:=by
 induction kvs with
 | nil=>rfl
 | cons p r ih=>
  by_cases e:p.1=k
  ·rw[wI e,ih,i_ (λz=>h (z.symm.trans e))]
  ·rw[wJ e]
   by_cases e2:p.1=j
   ·rw[jh e2,jh e2]
   ·rw[i_ e2,i_ e2,ih]
theorem IT{kvs:List (List Key×V)}{rem:List Ln}{n:Nm}(h:kvs.map (·.1)=rem.map λl=>nk l.nm):(jU kvs (nk n)).map (·.1)=(rem.filter λo=>o.nm≠n).map λl=>nk l.nm:=by
 induction kvs generalizing rem with
 | nil=>cases rem with|nil=>rfl|cons _ _=>cases h
 | cons p r ih=>
  cases rem with
  | nil=>cases h
  | cons x t=>
   rw[aaL,aaL] at h
   injection h with h1 h2
   by_cases e:x.nm=n
   ·rw[wI (by rw[h1,e]),aaj (by simpa using e)]
    exact ih h2
   ·rw[wJ (λz=>e (o8 (h1.symm.trans z))),YS (by simpa using e),aaL,aaL,ih h2,h1]
structure Wait(kw:List (List Key×V))(rem:List Ln)(f:Ln->Nat):Prop where
 keys:kw.map (·.1)=rem.map λl=>nk l.nm
 val:∀o∈rem,iN kw (nk o.nm)=some (.int (f o:Nat))
theorem Wait.len{kw:List (List Key×V)}{rem:List Ln}{f:Ln->Nat}(w:Wait kw rem f):kw.length=rem.length:=by
 have:=abe List.length w.keys
 rwa [O7,O7] at this
theorem QE{rem:List Ln}:(rem.map λl=>nk l.nm)=(rem.map (·.nm)).map nk:=by rw[List.map_map];rfl
theorem TY{xs:List Nm}(h:xs.Nodup):(xs.map nk).Nodup:=by
 induction xs with
 | nil=>exact abu
 | cons x r ih=>
  rw[aa9] at h
  rw[aaL,aa9]
  exact⟨λz=>h.1 (sL.mp z),ih h.2⟩
theorem Wait.nd{kw:List (List Key×V)}{rem:List Ln}{f:Ln->Nat}(w:Wait kw rem f)(h:(rem.map (·.nm)).Nodup):(kw.map (·.1)).Nodup:=by rw[w.keys,QE];exact TY h
theorem Wait.get{kw:List (List Key×V)}{rem:List Ln}{f:Ln->Nat}(w:Wait kw rem f)(h:(rem.map (·.nm)).Nodup){i:Nat}{k:List Key}{v:V}(hi:kw[i]?=some (k,v)):∃o,rem[i]?=some o/\k=nk o.nm/\v=.int (f o:Nat):=by
 have h1:(kw.map (·.1))[i]?=some k:=by rw[aao,hi];rfl
 rw[w.keys,aao] at h1
 obtain⟨o,e,e2⟩:=Option.map_eq_some_iff.mp h1
 refine⟨o,e,e2.symm,?_⟩
 have h2:=K1 (w.nd h) hi
 rw[<-e2,w.val o (XZ e)] at h2
 exact(aaF h2).symm
def Ya:Sp:=λvs H Q _=>∃(d:Addr)(kw:List (List Key×V))(rem:List Ln)(f:Ln->Nat)(l:Ln),vs=[.ref d]/\H d=some (.dT kw)/\Wait kw rem f/\(rem.map (·.nm)).Nodup/\rem.find? (λo=>f o ==0)=some l/\∀t,H t=some (nT l.nm)->Q (.ref t) H
theorem Bl(T:Txt mg)(O:Ok K mg A):ie P w K mg base mL 1 A.vH A.vI ["waiting"] Ya:=by
 refine O.An.f.rB tW λjt A0 outer s H vs Q E hr h=>?_
 obtain⟨d,kw,rem,f,l,rfl,hd,W,nd,hf,q⟩:=h
 refine⟨_,(de (zb (iD aaN rfl (zN (pv 0)) (tM 1 tW) (f_ (il (hV mB (zP hr (pv 0) (pv 1)) gm (iA _)) (f_ (hE (pv 1))) hG))))
   (f_ (hE uj))),?_⟩
 refine Mo ?_;intro _
 refine⟨_,rfl,d,kw,rfl,hd,λo uz=>?_⟩
 let Jv:=λ(i:Nat) (Z:St) (H2:Hp)=>∃(v:Option V),Z=[rr d,v]/\H2=L2.upd H d (.nj o (.dT kw))/\(rem.drop i).find? (λo=>f o ==0)=some l
 refine BU (d:=d) (o:=o) (kvs:=kw) Jv ⟨none,rfl,rfl,hf⟩ (by rintro _ _ _ ⟨_,_,e,_⟩;subst e;exact b_) ?_ ?_
 ·rintro i k v t Z H2 hi ht ⟨v0,rfl,rfl,h1⟩
  obtain⟨x,hx,rfl,rfl⟩:=W.get nd hi
  have j2:i<rem.length:=(List.getElem?_eq_some_iff.mp hx).1
  have hdr:rem.drop i=x::rem.drop (i+1):=by rw[aa7 j2];congr 1;exact(List.getElem?_eq_some_iff.mp hx).2
  rw[hdr] at h1
  refine⟨_,rfl,_,rfl,d,_,rfl,.inr ⟨kw,nk x.nm,t,.inr ⟨o,b_⟩,rfl,ht,(W.val x (XZ hx)).symm⟩,rfl,_,rfl,?_⟩
  refine kY (λh=>?_) (λh=>?_)
  ·have h:f x=0:=by have:=V.int.inj (aaB h);omega
   rw[List.find?_cons_of_pos (by simpa using h)] at h1
   cases h1
   refine⟨_,rfl,d,o,_,b_,uz,?_⟩
   rw[wR hd]
   exact q t (by
    have:t≠d:=λz=>by rw[z,b_] at ht;cases ht
    rwa [d_ this] at ht)
  ·have h:¬f x=0:=λz=>h (X0 (by rw[z];rfl))
   rw[List.find?_cons_of_neg (by simpa using h)] at h1
   exact⟨_,rfl,rfl,h1⟩
 ·rintro Z H2 ⟨v0,rfl,rfl,h1⟩
  rw[W.len,acG] at h1
  cases h1
end
section
open Classical
noncomputable def ow(lt:Nm->Nm->Prop)(rem:List Ln)(l:Ln):Nat:=(rem.filter λo=>decide (lt o.nm l.nm)).length
theorem K3(lt:Nm->Nm->Prop)(rem:List Ln):(λo=>ow lt rem o ==0)=free lt rem:=by
 funext o
 unfold ow free
 rw[abo,acp,aaR,List.filter_eq_nil_iff,aaT]
 exact⟨λh x hx=>by simpa using h x hx,λh x hx=>by simpa using h x hx⟩
theorem K4{lt:Nm->Nm->Prop}{rem:List Ln}(nd:(rem.map (·.nm)).Nodup){l:Ln}(hl:l∈rem)(o:Ln):ow lt rem o=ow lt (rem.filter λx=>x.nm≠l.nm) o+if lt l.nm o.nm then 1 else 0:=by
 unfold ow
 induction rem with
 | nil=>cases hl
 | cons x r ih=>
  rw[aaL,aa9] at nd
  rcases aah.mp hl with rfl|hl
  ·have e:r.filter (λx=>decide (x.nm≠l.nm))=r:=List.filter_eq_self.mpr λy hy=>X0 λz=>nd.1 (z▸aaf hy)
   rw[aaj (p:=λx:Ln=>decide (x.nm≠l.nm)) (by simp),e]
   by_cases h:lt l.nm o.nm
   ·rw[YS (by simpa using h),aay h,aai]
   ·rw[aaj (by simpa using h),aaw h,Nat.add_zero]
  ·have hx:x.nm≠l.nm:=λz=>nd.1 (z▸aaf hl)
   rw[YS (p:=λx:Ln=>decide (x.nm≠l.nm)) (by simpa using hx)]
   by_cases h:lt x.nm o.nm
   ·rw[YS (by simpa using h),YS (by simpa using h),aai,aai,ih nd.2 hl];omega
   ·rw[aaj (by simpa using h),aaj (by simpa using h),ih nd.2 hl]
end
theorem K5{lt:Nm->Nm->Prop}{n:Nat}{rem:List Ln}{l:Ln}(h:rem.find? (free lt rem)=some l):q9 lt (n+1) rem=l::q9 lt n (rem.filter λo=>o.nm≠l.nm):=by
 rw[q9,h]
section
variable{P:Program}{w:World}{K:Qqy}{mg:Qqx}{base:Heap}{A:Ad}
def TZ(A:Ad):Sp:=λvs H Q _=>∃(a h:Addr)(ls al:List Ln),vs=[.ref a,.ref h]/\om A H a ls/\C9 H h al/\xq ls.length/\(ls.map (·.nm)).Nodup/\(∀l∈ls,l.nm∈al.map (·.nm))/\KG al/\
 ∀p H',gv H H'->H p=none->om A H' p (rowOf (Ah al) ls)->Q (.ref p) H'
theorem IU(T:Txt mg)(O:Ok K mg A):ie P w K mg base mL 2 A.E2 A.E3 ["lines","ahead"] (TZ A):=by
 have DB:=@Bl P w K mg base A T O
 refine O.KS.f.rB lE λjt A0 outer s H vs Q E hr h=>?_
 obtain⟨a,h,ls,al,rfl,⟨as,ha,pa⟩,⟨kh,Pc,hh2⟩,jL,nd,BA,tp,q⟩:=h
 have hlen:=aav pa
 have y4:ls.length<=4000:=jL
 have sz:sizeLine=16777216:=aaQ
 have tpl:∃rk:Nm->Nat,∀m n,Ah al m n->rk m<rk n:=by obtain⟨rk,r⟩:=tp;exact⟨rk,λm n z=>r.ah z⟩
 refine⟨_,(de (kZ 2 lE mE)
   (de (kZ 3 lE mE)
   (de (iD aaN rfl (ic (pv 0)) (ir (i:=4) lE.nd rfl (Or.inr rfl)) (de (jA (by exact iS hr) (pv 2) (gL (pv 4) rfl) (pv 4) rfl)
   (f_ (jA (by exact iS hr) (pv 3) (gL (pv 4) rfl) (gK gE (by rfl) T.jw aaM (a_ (zF EL (gp vt).names [7] rfl (ic (pv 0)) rfl (by decide+kernel) (λ_ _ _ _=>(ir (i:=7) lE.nd rfl (Or.inl rfl))) (λ_ _ _ _=>⟨_,nN (ju (o4 (by exact iS hr) (gL (pv 7) rfl) (zP hr (pv 1) (gL (pv 4) rfl)))),by(try simp only [kL]);rfl⟩) (λ_ _ _ _=>zc (pv 7))) e_)) rfl))))
   (de (kZ 5 lE (iB e_))
   (de (Ec aaN (IH (pv 3) (λ_=>rfl)) (de (kZ 6 lE (oh O.An DB hr (a_ (pv 3) e_)))
   (de (hU (Ky (by exact iS hr) (pv 3) (pv 6) ⟨rfl,rfl,rfl,rfl⟩))
   (de (hU (pC aa2 aba abb kl (pv 5) (a_ (zP hr (pv 2) (pv 6)) e_)))
   (f_ (iD aaN rfl (ic (wH (yP rfl) (by rfl) T.xm ab9 (a_ (pv 3) e_))) (tM 7 lE) (f_ (il (ju (o4 (by exact iS hr) (pv 6) (zP hr (pv 1) (pv 7)))) (f_ (jA (by exact iS hr) (pv 3) (pv 7) (gD Cu (zP hr (pv 3) (pv 7)) gm) rfl)) hG))))))))
   (f_ (hE (pv 5)))))))),?_⟩
 refine R8 ?_;intro _ _ _ _ _
 intro bn U6 wt Sx
 have s1:gv H (L2.upd (L2.upd H bn (.dT [])) wt (.dT [])):=((gv.refl H).new U6).new Sx
 have RA:H wt=none:=((gv.refl H).new (o:=.dT []) U6).free Sx
 have U7:bn≠wt:=λz=>by rw[z,b_] at Sx;cases Sx
 dsimp only [lA];refine JA ?_;intro _
 let Jv:=λ(i:Nat) (Z:St) (H2:Hp)=>∃(v4:Option V)(kb kw:List (List Key×V)),Z=[rr a,rr h,rr bn,rr wt,v4,none,none,none]/\gv H H2/\H2 bn=some (.dT kb)/\H2 wt=some (.dT kw)/\kb.length<=i/\(∀l∈ls.take i,∃b,iN kb (nk l.nm)=some (.ref b)/\mH A H b l)/\Wait kw (ls.take i) (ow (Ah al) ls)
 refine⟨_,rfl,a,rfl,⟨_,gN.of (s1 _ _ ha)⟩,iU (K:=K) (a:=a) (xs:=as.map V.ref) Jv
  ⟨none,[],[],rfl,s1,by rw[d_ U7];exact b_,b_,XW _,(λl hl=>by rw[abV] at hl;cases hl),⟨rfl,(λl hl=>by rw[abV] at hl;cases hl)⟩⟩ (by rintro _ _ _ _ ⟨_,_,_,_,s3,_⟩;exact gN.of (s3 _ _ ha)) ?_ ?_⟩
 ·rintro i v Z H2 hx ⟨v4,kb,kw,rfl,s3,h1,h2,h3,h4,W⟩
  obtain⟨b,hb,rfl⟩:=j9 hx
  obtain⟨l,hl,dx,vn,vu,vl,g1,⟨t,rfl,g2⟩,g3,g4⟩:=ib pa hb
  have WK:l∈ls:=XZ hl
  have hi:i<ls.length:=(List.getElem?_eq_some_iff.mp hl).1
  have AL:∀x∈ls.take i,x.nm≠l.nm:=λx hx z=>by
   obtain⟨j,hj⟩:=aaU.mp hx
   have Ju:j<i:=by have:=(List.getElem?_eq_some_iff.mp hj).1;rw[aaP] at this;omega
   rw[acb,aay Ju] at hj
   have e1:(ls.map (·.nm))[j]?=some l.nm:=by rw[aao,hj,<-z];rfl
   have e2:(ls.map (·.nm))[i]?=some l.nm:=by rw[aao,hl];rfl
   have:=(abS (List.getElem?_eq_some_iff.mp e1).1 nd).mp (e1.trans e2.symm)
   omega
  obtain⟨bb,dk,z1,z2,z3⟩:=hh2 l.nm (BA l WK)
  have N6:=jq kb (nk l.nm) (V.ref b)
  refine⟨_,rfl,_,rfl,_,rfl,b,A.gS,dx,_,_,rfl,s3 _ _ g1,O.iL,O.gQ,iX,bn,_,rfl,nF.t (k:=nk l.nm) h1 (s3 _ _ g2) (by omega),?_⟩
  have s4:gv H (L2.upd H2 bn (.dT (putK kb (nk l.nm) (V.ref b)))):=s3.upd U6
  have N0:L2.upd H2 bn (.dT (putK kb (nk l.nm) (V.ref b))) bn=some (.dT (putK kb (nk l.nm) (V.ref b))):=b_
  have WL:L2.upd H2 bn (.dT (putK kb (nk l.nm) (V.ref b))) wt=some (.dT kw):=by rw[d_ U7.symm];exact h2
  generalize L2.upd H2 bn (.dT (putK kb (nk l.nm) (V.ref b)))=H3 at s4 N0 WL ⊢
  refine⟨_,rfl,a,rfl,⟨_,gN.of (s4 _ _ ha)⟩,jD (K:=K) (a:=a) (xs:=as.map V.ref) (by rw[O7,hlen];omega) (λj ys Z H4=>∃v7:Option V,Z=[rr a,rr h,rr bn,rr wt,rr b,none,none,v7]/\H4=H3/\ys.length=ow (Ah al) (ls.take j) l)
   ⟨none,rfl,rfl,rfl⟩ (by rintro _ _ _ _ _ ⟨_,_,e,e2⟩;subst e;exact⟨gN.of (s4 _ _ ha),by rw[e2];unfold ow;exact aan (aaY _ _) (by rw[aaP];omega)⟩) ?_ ?_⟩
  ·rintro j v ys Z H4 hx ⟨v7,rfl,rfl,e2⟩
   obtain⟨b2,JE,rfl⟩:=j9 hx
   obtain⟨l2,FR,dx2,vn2,vu2,vl2,k1,⟨t2,rfl,k2⟩,k3,k4⟩:=ib pa JE
   refine⟨_,rfl,b2,A.gS,dx2,_,_,rfl,s4 _ _ k1,O.iL,O.gQ,iX,_,rfl,_,rfl,b,A.gS,dx,_,_,rfl,s4 _ _ g1,O.iL,O.gQ,iX,h,.ref bb,rfl,?_,bb,_,rfl,i5.t (k:=nk l2.nm) (s4 _ _ z2) (s4 _ _ k2),_,rfl,?_⟩
   ·have:=i5.t (k:=nk l.nm) (s4 _ _ Pc) (s4 _ _ g2)
    rw[z1] at this
    exact this
   ·unfold ow at e2 ⊢
    rw[take_snoc FR,aaI,YO]
    by_cases hm:Ah al l2.nm l.nm
    ·rw[(z3 l2.nm).mpr hm]
     refine lL ⟨_,rfl,_,rfl,rfl,?_⟩
     rw[YS (by simpa using hm),aa3,YO,e2];rfl
    ·rw[ab3.mpr λz=>hm ((z3 l2.nm).mp z)]
     refine jf ⟨_,rfl,rfl,?_⟩
     rw[aaj (by simpa using hm),aa3,e2];rfl
  ·rintro ys Z H4 ⟨v7,rfl,rfl,e2⟩ p hp
   rw[O7,hlen,aaE] at e2
   have s5:=s4.new (o:=.lst ys) hp
   have O0:=W.len
   rw[aaP] at O0
   refine⟨p,_,rfl,.inl (gN.of b_),_,rfl,_,rfl,b,A.gS,dx,_,_,rfl,s5 _ _ g1,O.iL,O.gQ,iX,wt,_,rfl,nF.t (k:=nk l.nm) (hX hp WL) (s5 _ _ g2) (by omega),?_⟩
   refine⟨_,_,_,rfl,s5.upd RA,by rw[d_ U7];exact hX hp N0,b_,by omega,λx hx=>?_,⟨?_,λx hx=>?_⟩⟩
   ·rw[take_snoc hl] at hx
    rcases aal.mp hx with hx|hx
    ·obtain⟨c,c1,c2⟩:=h4 x hx
     exact⟨c,by rw[kc,aaw (λz=>AL x hx (o8 z))];exact c1,c2⟩
    ·rw[XT.mp hx]
     exact⟨b,by rw[kc,aay rfl],dx,_,vu,vl,g1,⟨t,rfl,g2⟩,g3,g4⟩
   ·rw[p8,W.keys,take_snoc hl,aaH]
    exact aaw λz=>by
     obtain⟨x,hx,e⟩:=List.mem_map.mp z
     exact AL x hx (o8 e)
   ·rw[take_snoc hl] at hx
    rw[kc]
    rcases aal.mp hx with hx|hx
    ·rw[aaw (λz=>AL x hx (o8 z))];exact W.val x hx
    ·rw[XT.mp hx,aay rfl,e2]
 ·rintro Z H2 ⟨v4,kb,kw,rfl,s3,h1,h2,h3,h4,W⟩
  have el:(as.map V.ref).length=ls.length:=by rw[O7];exact hlen
  rw[el,aaE] at h4 W
  refine⟨L2.jL,λr tK=>?_⟩
  have hrH:H r=none:=s3.free tK
  have hrb:bn≠r:=gr h1 tK
  have U8:wt≠r:=gr h2 tK
  obtain⟨rk,LU⟩:=tpl
  refine⟨λm Z H3=>∃(v6 v7:Option V)(kw:List (List Key×V))(rem row:List Ln)(rs:List Addr),m=rem.length/\Z=[rr a,rr h,rr bn,rr wt,v4,rr r,v6,v7]/\gv H H3/\H3 bn=some (.dT kb)/\H3 wt=some (.dT kw)/\H3 r=some (.lst (rs.map V.ref))/\Paired (mH A H) rs row/\Wait kw rem (ow (Ah al) rem)/\rem.Sublist ls/\row.length+rem.length=ls.length/\row++q9 (Ah al) rem.length rem=rowOf (Ah al) ls,
   ⟨ls.length,none,none,kw,ls,[],[],rfl,rfl,s3.new tK,hX tK h1,hX tK h2,b_,.nil,W,aaV _,by simp,rfl⟩,?_⟩
  rintro m Z H3 ⟨v6,v7,kw,rem,row,rs,rfl,rfl,s4,b1,w1,r1,pr,W,sub,hsum,BB⟩
  have Sy:(rem.map (·.nm)).Nodup:=(sub.map _).nodup nd
  refine⟨_,rfl,wt,kw,rfl,w1,?_⟩
  have O0:=W.len
  cases rem with
  | nil=>
   have:kw=[]:=aaR.mp O0
   subst this
   refine jf ⟨_,rfl,q r _ s4 hrH ⟨rs,r1,?_⟩⟩
   rw[show q9 (Ah al) ([]:List Ln).length []=[] from rfl,aa0] at BB
   rw[<-BB]
   exact Paired.i3 pr λ_ _ z=>z.same s4
  | cons x0 Y6=>
   generalize Y7:x0::Y6=rem at *
   have oe:rem≠[]:=by rw[<-Y7];exact λz=>by cases z
   obtain⟨l,LY⟩:=rM (lt:=Ah al) LU rem oe
   have N_:l∈rem:=List.mem_of_find?_eq_some LY
   have Y8:l∈ls:=sub.subset N_
   have Pd:=l_ Sy N_
   refine Ki (by cases kw with|nil=>exact absurd (aaR.mp O0.symm) oe|cons _ _=>rfl) ?_
   refine⟨λZ H4=>∃(v6 v7:Option V)(kw:List (List Key×V))(l7 row:List Ln)(rs:List Addr),l7.length<rem.length/\Z=[rr a,rr h,rr bn,rr wt,v4,rr r,v6,v7]/\gv H H4/\H4 bn=some (.dT kb)/\H4 wt=some (.dT kw)/\H4 r=some (.lst (rs.map V.ref))/\Paired (mH A H) rs row/\Wait kw l7 (ow (Ah al) l7)/\l7.Sublist ls/\row.length+l7.length=ls.length/\row++q9 (Ah al) l7.length l7=rowOf (Ah al) ls,
    λZ' H' ⟨u6,u7,U9,l7,Oa,rs2,j2,z⟩=>⟨l7.length,j2,u6,u7,U9,l7,Oa,rs2,rfl,z⟩,?_⟩
   refine⟨_,rfl,wt,kw,rem,ow (Ah al) rem,l,rfl,w1,W,Sy,by rw[K3];exact LY,λt ht=>?_⟩
   have Dz:=W.val l N_
   refine⟨_,rfl,wt,rfl,.inr ⟨_,.inl w1⟩,_,rfl,t,kw,nk l.nm,_,rfl,w1,ht,Dz,?_⟩
   have s5:gv H (L2.upd H3 wt (.dT (jU kw (nk l.nm)))):=s4.upd RA
   have b2:L2.upd H3 wt (.dT (jU kw (nk l.nm))) bn=some (.dT kb):=by rw[d_ U7];exact b1
   have r2:L2.upd H3 wt (.dT (jU kw (nk l.nm))) r=some (.lst (rs.map V.ref)):=by rw[d_ U8.symm];exact r1
   have t2:L2.upd H3 wt (.dT (jU kw (nk l.nm))) t=some (nT l.nm):=by rw[d_ (iR ht w1 (λz=>by cases z))];exact ht
   have w2:L2.upd H3 wt (.dT (jU kw (nk l.nm))) wt=some (.dT (jU kw (nk l.nm))):=b_
   have W2:Wait (jU kw (nk l.nm)) (rem.filter λo=>o.nm≠l.nm) (ow (Ah al) rem):=⟨IT W.keys,λo ho=>by
    have qg:=aap.mp ho
    rw[K2 _ _ _ (λz=>by have:=o8 z;simpa[this] using qg.2)]
    exact W.val o qg.1⟩
   generalize L2.upd H3 wt (.dT (jU kw (nk l.nm)))=H4 at s5 b2 r2 t2 w2 ⊢
   generalize jU kw (nk l.nm)=U9 at w2 W2
   obtain⟨bl,O4,hLn⟩:=h4 l Y8
   have Y9:=aav pr
   refine⟨_,rfl,.inl ⟨rfl,_,gN.of r2⟩,_,rfl,_,rfl,bn,.ref bl,rfl,?_,r,_,_,rfl,rfl,r2,by rw[O7,Y9];omega,?_⟩
   ·have:=i5.t (k:=nk l.nm) b2 t2
    rw[O4] at this
    exact this
   have s6:gv H (L2.upd H4 r (.lst (rs.map V.ref++[V.ref bl]))):=s5.upd hrH
   have b3:L2.upd H4 r (.lst (rs.map V.ref++[V.ref bl])) bn=some (.dT kb):=by rw[d_ hrb];exact b2
   have w3:L2.upd H4 r (.lst (rs.map V.ref++[V.ref bl])) wt=some (.dT U9):=by rw[d_ U8];exact w2
   have t3:L2.upd H4 r (.lst (rs.map V.ref++[V.ref bl])) t=some (nT l.nm):=by rw[d_ (iR t2 r2 (λz=>by cases z))];exact t2
   have r3:L2.upd H4 r (.lst (rs.map V.ref++[V.ref bl])) r=some (.lst ((rs++[bl]).map V.ref)):=by rw[b_,aaH];rfl
   generalize L2.upd H4 r (.lst (rs.map V.ref++[V.ref bl]))=H5 at s6 b3 w3 t3 r3 ⊢
   have HZ:(rem.filter λo=>o.nm≠l.nm).Sublist rem:=aa6
   generalize hR:(rem.filter λo=>decide (o.nm≠l.nm))=l7 at W2 HZ Pd
   have U_:(l7.map (·.nm)).Nodup:=(HZ.map _).nodup Sy
   refine⟨_,rfl,wt,U9,rfl,w3,λp bs hp pbs=>?_⟩
   have s7:=s6.new (o:=.lst (bs.map V.ref)) hp
   have Y_:=aav pbs
   have U4:=W2.len
   let Jv:=λ(j:Nat) (Z:St) (H6:Hp)=>∃(v7:Option V)(LZ:List (List Key×V)),Z=[rr a,rr h,rr bn,rr wt,v4,rr r,rr t,v7]/\gv H H6/\H6 bn=some (.dT kb)/\H6 wt=some (.dT LZ)/\H6 t=some (nT l.nm)/\H6 r=some (.lst ((rs++[bl]).map V.ref))/\H6 p=some (.lst (bs.map V.ref))/\(∀b∈bs,∀xs,H5 b=some (.tup xs)->H6 b=some (.tup xs))/\LZ.map (·.1)=l7.map (λl=>nk l.nm)/\∀(i:Nat)(o:Ln),l7[i]?=some o->iN LZ (nk o.nm)=some (.int ((if i<j then ow (Ah al) l7 o else ow (Ah al) rem o:Nat):Int))
   refine⟨p,rfl,⟨_,gN.of b_⟩,iU (K:=K) (a:=p) (xs:=bs.map V.ref) Jv
    ⟨v7,U9,rfl,s7,hX hp b3,hX hp w3,hX hp t3,hX hp r3,b_,λb _ xs e=>hX hp e,W2.keys,λi o ho=>by rw[aaw (by omega)];exact W2.val o (XZ ho)⟩ (by rintro _ _ _ _ ⟨_,_,_,_,_,_,_,_,e,_⟩;exact gN.of e) ?_ ?_⟩
   ·rintro j v Z H6 hx ⟨v7,LZ,rfl,s8,b4,w4,t4,r4,p4,Ob,Cq,L0⟩
    obtain⟨c,hc,rfl⟩:=j9 hx
    obtain⟨⟨k,v⟩,hkv,Za⟩:=iq pbs hc
    obtain⟨o,ho,rfl,rfl⟩:=W2.get U_ hkv
    have RB:o∈rem:=HZ.subset (XZ ho)
    have Zb:H6 c=some (nT o.nm):=Ob c (XZ hc) _ Za
    obtain⟨bb,dk,z1,z2,z3⟩:=hh2 o.nm (BA o (sub.subset RB))
    have Co:=K4 (lt:=Ah al) Sy N_ o
    have upv:∀(Va:List (List Key×V)),Va.map (·.1)=l7.map (λl=>nk l.nm)->(∀x∈l7,x.nm≠o.nm->iN Va (nk x.nm)=iN LZ (nk x.nm))->iN Va (nk o.nm)=some (.int ((ow (Ah al) l7 o:Nat):Int))->∀(i:Nat)(x:Ln),l7[i]?=some x->iN Va (nk x.nm)=some (.int ((if i<j+1 then ow (Ah al) l7 x else ow (Ah al) rem x:Nat):Int)):=λVa _ h1 h2 i x Vb=>by
     by_cases e:i=j
     ·subst e
      rw[ho] at Vb
      cases Vb
      rw[aay (acE _)]
      exact h2
     ·have Zc:x.nm≠o.nm:=λz=>by
       have e1:(l7.map (·.nm))[i]?=some o.nm:=by rw[aao,Vb,<-z];rfl
       have e2:(l7.map (·.nm))[j]?=some o.nm:=by rw[aao,ho];rfl
       exact e ((abS (List.getElem?_eq_some_iff.mp e1).1 U_).mp (e1.trans e2.symm))
      rw[h1 x (XZ Vb) Zc,L0 i x Vb]
      by_cases Fy:i<j
      ·rw[aay Fy,aay (by omega)]
      ·rw[aaw Fy,aaw (by omega)]
    rw[hR] at Co
    refine⟨_,rfl,_,rfl,_,rfl,h,.ref bb,rfl,?_,bb,_,rfl,i5.t (k:=nk l.nm) (s8 _ _ z2) t4,_,rfl,?_⟩
    ·have:=i5.t (k:=nk o.nm) (s8 _ _ Pc) Zb
     rw[z1] at this
     exact this
    by_cases hm:Ah al l.nm o.nm
    ·rw[(z3 l.nm).mpr hm]
     rw[aay hm] at Co
     refine lL ?_
     have Vc:=L0 j o ho
     rw[aaw (abv _)] at Vc
     have hg:i5 H6 wt (.ref c) (some (.int ((ow (Ah al) rem o:Nat):Int))):=by
      have:=i5.t (k:=nk o.nm) w4 Zb
      rw[Vc] at this
      exact this
     have hk3:LZ.length=l7.length:=by have:=abe List.length Cq;rwa [O7,O7] at this
     refine⟨_,rfl,_,rfl,wt,_,rfl,hg,_,_,rfl,rfl,_,rfl,_,rfl,wt,_,rfl,nF.t (k:=nk o.nm) w4 Zb (by omega),?_⟩
     have kk:(putK LZ (nk o.nm) (V.int ((ow (Ah al) rem o:Nat)-1))).map (·.1)=l7.map (λl=>nk l.nm):=by
      rw[p8,Cq]
      exact aay (List.mem_map.mpr ⟨o,XZ ho,rfl⟩)
     refine⟨_,_,rfl,s8.upd RA,by rw[d_ U7];exact b4,b_,by rw[d_ (iR t4 w4 (λz=>by cases z))];exact t4,by rw[d_ U8.symm];exact r4,by rw[d_ (iR p4 w4 (λz=>by cases z))];exact p4,λb hb xs e=>?_,kk,upv _ kk (λx _ Zc=>?_) ?_⟩
     ·have:=Ob b hb xs e
      rw[d_ (iR this w4 (λz=>by cases z))];exact this
     ·rw[kc,aaw (λz=>Zc (o8 z))]
     ·rw[kc,aay rfl]
      have e9:((ow (Ah al) rem o:Nat):Int)-1=((ow (Ah al) l7 o:Nat):Int):=by omega
      exact abe (λz=>some (V.int z)) e9
    ·rw[ab3.mpr λz=>hm ((z3 l.nm).mp z)]
     rw[aaw hm] at Co
     refine jf ⟨_,LZ,rfl,s8,b4,w4,t4,r4,p4,Ob,Cq,upv LZ Cq (λx _ _=>rfl) ?_⟩
     have Vc:=L0 j o ho
     rw[aaw (abv _)] at Vc
     rw[Vc,Co,Nat.add_zero]
   ·rintro Z H6 ⟨v7,LZ,rfl,s8,b4,w4,t4,r4,p4,Ob,Cq,L0⟩
    have hlen2:(bs.map V.ref).length=l7.length:=by rw[O7,<-Y_,U4]
    refine⟨_,_,LZ,l7,row++[l],rs++[bl],by omega,rfl,s8,b4,w4,r4,ig pr hLn,⟨Cq,λo ho=>?_⟩,HZ.trans sub,by rw[YO];show row.length+1+l7.length=_;omega,?_⟩
    ·obtain⟨i,hi⟩:=aaU.mp ho
     have Sn:=(List.getElem?_eq_some_iff.mp hi).1
     rw[L0 i o hi,aay (by omega)]
    ·rw[<-BB,<-Pd,K5 LY,aa5,hR]
     rfl
end
end PK
namespace Kp
open PySem L2
noncomputable abbrev Wg:Stmt:=PK.o5
noncomputable abbrev Wh:Stmt:=PK.qz
noncomputable abbrev Yb:Stmt:=PK.qA
noncomputable abbrev OL:Stmt:=PK.GA
structure Txt(mg:Qqx):Prop where
 len:mg "len"=none
 range:mg "range"=none
 max:mg "max"=none
abbrev gw(l:List Str):List V:=l.map V.str
def tab(old new:List Str)(i:Nat):List V:=(List.range (new.length+1)).map λj=>V.int (K01.wW old new i j)
theorem Dc{old new:List Str}{i j:Nat}(h:j<=new.length):(tab old new i)[j]?=some (V.int (K01.wW old new i j)):=by
 unfold tab
 rw[aao,ack (by omega)]
 rfl
def part(old new:List Str)(i k:Nat):List V:=(List.range (new.length+1)).map λj=>if new.length-k<=j then V.int (K01.wW old new i j) else V.int 0
theorem HB{old new:List Str}{i k j:Nat}(h:j<=new.length)(hk:new.length-k<=j):(part old new i k)[j]?=some (V.int (K01.wW old new i j)):=by
 unfold part
 rw[aao,ack (by omega)]
 show some (if _ then _ else _)=_
 rw[aay hk]
theorem Au(old new:List Str)(i k:Nat):(part old new i k).length=new.length+1:=by unfold part;rw[O7,abR]
theorem K6(old new:List Str)(i:Nat):part old new i new.length=tab old new i:=by
 unfold part tab
 refine ab7 λj _=>?_
 rw[aay (by omega)]
theorem B9(old new:List Str)(i n:Nat)(h:n=new.length+1):(List.replicate n [V.int 0]).flatten=part old new i 0:=by
 subst h
 refine List.ext_getElem? λj=>?_
 unfold part
 rw[aao]
 have e:(List.replicate (new.length+1) [V.int 0]).flatten=List.replicate (new.length+1) (V.int 0):=by
  generalize new.length+1=m
  induction m with
  | zero=>rfl
  | succ m ih=>rw[abq,acf,ih,abq];rfl
 rw[e,List.getElem?_replicate]
 by_cases hj:j<new.length+1
 ·rw[aay hj,ack hj]
  show some _=some (if _ then _ else _)
  by_cases h2:new.length-0<=j
  ·rw[aay h2,K01.zd (.inr (by omega))];rfl
  ·rw[aaw h2]
 ·rw[aaw hj,List.getElem?_eq_none_iff.mpr (by rw[abR];omega)]
  rfl
theorem Fd{old new:List Str}{i k:Nat}(h:k<new.length):(part old new i k).set (new.length-1-k) (V.int (K01.wW old new i (new.length-1-k)))=part old new i (k+1):=by
 refine List.ext_getElem? λj=>?_
 by_cases e:j=new.length-1-k
 ·subst e
  rw[abA (by rw[Au];omega),HB (by omega) (by omega)]
 ·rw[abJ (λz=>e z.symm)]
  unfold part
  rw[aao,aao]
  by_cases hj:j<new.length+1
  ·rw[ack hj]
   show some (if _ then _ else _)=some (if _ then _ else _)
   by_cases h2:new.length-k<=j
   ·rw[aay h2,aay (by omega)]
   ·rw[aaw h2,aaw (by omega)]
  ·rw[List.getElem?_eq_none_iff.mpr (by rw[abR];omega)]
   rfl
theorem j3{l:List Str}{j:Nat}{x:Str}(h:l[j]?=some x):(gw l)[j]?=some (V.str x):=by rw[aao,h];rfl
section
variable{P:Program}{w:World}{K:Qqy}{mg:Qqx}{base:Heap}
theorem QF:gH ["text","new","below","counts","second"] ["text","new","below"] (gp Wg):=⟨rfl,rfl,rfl,by decide+kernel,rfl,by decide+kernel,by decide+kernel⟩
def T1:Sp:=λvs H Q _=>∃(old new:List Str)(i:Nat)(t:Str)(n b:Addr),vs=[.str t,.ref n,.ref b]/\old[i]?=some t/\H n=some (.lst (gw new))/\H b=some (.lst (tab old new (i+1)))/\new.length<=1000/\
 ∀p H',gv H H'->H p=none->H' p=some (.lst (tab old new i))->Q (.ref p) H'
theorem T2{f:Addr}{fd:FuncData}(F:xU K "counts_with" "counts_with" Wg f fd)(T:Txt mg):ie P w K mg base mL 1 f fd ["text","new","below"] T1:=by
 refine F.rB QF λjt A outer s H vs Q E hr h=>?_
 obtain⟨old,new,i,t,n,b,rfl,ht,hn,hb,hl,k⟩:=h
 refine⟨_,de (lx (i:=3) QF.nd rfl (Or.inl rfl) (gD Gm (iB (a_ gm e_)) (gD iy (gK gE (by rfl) T.len aaM (a_ (pv 1) e_)) gm)))
  (de (iD aaN rfl (wM rfl T.range (a_ (gD Cu (gK gE (by rfl) T.len aaM (a_ (pv 1) e_)) gm) (a_ (xP rG gm) (a_ (xP rG gm) e_)))) (ir (i:=4) QF.nd rfl (Or.inl rfl))
   (f_ (il (hV mB (jo kK (pv 1) (pv 4) (λ_ _=>rfl)) (pv 0) (iA _))
    (f_ (wC (gD iy (jo kK (pv 2) (gD iy (pv 4) gm) (λ_ _=>rfl)) gm) (wB (pv 3) (pv 4) set_list)))
    (f_ (wC (gK (Il rfl) (by rfl) T.max PyProof.Rows.boot_max (a_ (jo kK (pv 2) (pv 4) (λ_ _=>rfl)) (a_ (jo kK (pv 3) (gD iy (pv 4) gm) (λ_ _=>rfl)) e_))) (wB (pv 3) (pv 4) set_list))))))
  (f_ (hE (pv 3)))),?_⟩
 refine Ey ?_;intro _ _
 refine⟨jL,λl Sq=>?_⟩
 have RC:(upd H l (.lst [V.int 0])) n=some (.lst (gw new)):=by rw[d_ (gr hn Sq)];exact hn
 refine⟨_,rfl,n,_,rfl,.inl (gN.of RC),_,_,rfl,rfl,l,_,_,rfl,rfl,b_,by simp<;>omega,by simp<;>omega,by simp;have:sizeLine=2 ^ 24:=rfl;omega,λp hp=>?_⟩
 have nK:p≠l:=λz=>by rw[z,b_] at hp;cases hp
 have D3:H p=none:=by rw[d_ nK] at hp;exact hp
 have s0:gv H (upd H l (.lst [V.int 0])):=(gv.refl H).upd Sq
 have e0:(List.replicate (((gw new).length:Int)+1).toNat [V.int 0]).flatten=part old new i 0:=B9 old new i _ (by simp<;>omega)
 rw[e0]
 have s1:gv H (upd (upd H l (.lst [V.int 0])) p (.lst (part old new i 0))):=s0.upd D3
 refine⟨_,rfl,n,_,rfl,.inl (gN.of (s1 n _ hn)),_,_,rfl,rfl,_,rfl,_,rfl,_,_,rfl,⟨by simp<;>omega,by simp<;>omega,by omega,by omega⟩,?_⟩
 have en:((((gw new).length:Int)-1) - -1).toNat=new.length:=by simp<;>omega
 rw[en]
 let Jv:=λ(m:Nat) (Z:St) (H2:Hp)=>∃v,Z=[rs t,rr n,rr b,rr p,v]/\gv H H2/\H2 p=some (.lst (part old new i m))
 refine uq Jv ⟨none,rfl,s1,b_⟩ ?_ ?_
 ·rintro m Z H2 hm ⟨v,rfl,s2,h2⟩
  obtain⟨j,hj⟩:∃j,j=new.length-1-m:=⟨_,rfl⟩
  have hjl:j<new.length:=by omega
  rw[show((gw new).length:Int)-1+(m:Int) * -1=(j:Int) by simp<;>omega]
  have RD:new[j]?=some new[j]:=UR hjl
  have B:=K01.M9 ht RD
  refine⟨_,rfl,_,rfl,n,_,_,_,rfl,rfl,gN.of (s2 n _ hn),gG rfl (j3 RD),_,rfl,rfl,_,rfl,?_⟩
  refine kY (λhc=>?_) (λhc=>?_)
  ·have hc:new[j]=t:=by have:=aaB hc;injection this
   rw[aay hc] at B
   refine⟨_,rfl,_,rfl,_,_,rfl,rfl,b,_,_,_,rfl,rfl,gN.of (s2 b _ hb),gG (j:=j+1) (by omega) (Dc (by omega)),_,_,rfl,rfl,_,rfl,_,rfl,p,_,_,j,rfl,rfl,h2,wU rfl (by rw[Au];omega),?_⟩
   refine⟨_,rfl,s2.upd D3,?_⟩
   rw[b_]
   have e:((K01.wW old new (i+1) (j+1):Nat):Int)+1=((K01.wW old new i j:Nat):Int):=by omega
   rw[e,hj,Fd hm]
  ·have hc:¬new[j]=t:=λz=>hc (by rw[z];exact X0 rfl)
   rw[aaw hc] at B
   refine⟨_,rfl,_,rfl,b,_,_,_,rfl,rfl,gN.of (s2 b _ hb),gG rfl (Dc (by omega)),_,rfl,_,rfl,_,_,rfl,rfl,p,_,_,_,rfl,rfl,gN.of h2,gG (j:=j+1) (by omega) (HB (by omega) (by omega)),_,_,rfl,_,rfl,_,rfl,p,_,_,j,rfl,rfl,h2,wU rfl (by rw[Au];omega),?_⟩
   refine⟨_,rfl,s2.upd D3,?_⟩
   rw[b_]
   have e:(if((K01.wW old new i (j+1):Nat):Int)>((K01.wW old new (i+1) j:Nat):Int) then((K01.wW old new i (j+1):Nat):Int) else((K01.wW old new (i+1) j:Nat):Int))=((K01.wW old new i j:Nat):Int):=by split<;>omega
   rw[e,hj,Fd hm]
 ·rintro Z H2 ⟨v,rfl,s2,h2⟩
  refine⟨_,rfl,k p H2 s2 D3 ?_⟩
  rw[h2,K6]
def OM(H:Hp)(old new:List Str)(rows:List V)(Vd:Nat):Prop:=rows.length=old.length+1/\∀i,i<=old.length->∃a,rows[i]?=some (.ref a)/\(Vd<=i->H a=some (.lst (tab old new i)))
abbrev nMP:List Str:=["old","new","table","first","place"]
theorem Nr:gH ["old","new","table","first","place"] ["old","new"] (gp Wh):=⟨rfl,rfl,rfl,by decide+kernel,rfl,by decide+kernel,by decide+kernel⟩
def T4:Sp:=λvs H Q _=>∃(old new:List Str)(o n:Addr),vs=[.ref o,.ref n]/\H o=some (.lst (gw old))/\H n=some (.lst (gw new))/\old.length<=1000/\new.length<=1000/\
 ∀p H' rows,gv H H'->H p=none->H' p=some (.lst rows)->OM H' old new rows 0->Q (.ref p) H'
theorem K7(new:List Str)(n:Nat)(h:n=new.length+1):(List.replicate n [V.int 0]).flatten=tab [] new 0:=by
 rw[B9 [] new 0 n h]
 unfold part tab
 refine ab7 λj _=>?_
 rw[show K01.wW ([]:List Str) new 0 j=0 from K01.zd (.inl (by simp))]
 split<;>rfl
theorem Nt(old new:List Str)(n:Nat)(h:n=new.length+1):(List.replicate n [V.int 0]).flatten=tab old new old.length:=by
 rw[K7 new n h]
 unfold tab
 refine ab7 λj _=>?_
 rw[show K01.wW ([]:List Str) new 0 j=0 from K01.zd (.inl (by simp)),K01.zd (.inl (XW _))]
theorem T5{f fC:Addr}{fd SA:FuncData}(F:xU K "most_pairs" "most_pairs" Wh f fd)(T:Txt mg)(C:xU K "counts_with" "counts_with" Wg fC SA)(bC:Binds K SA ["text","new","below"] [])(mC:mg "counts_with"=some (.ref fC)) :
  ie P w K mg base mL 2 f fd ["old","new"] T4:=by
 have GC:ie P w K mg base mL 1 fC SA ["text","new","below"] T1:=T2 C T
 refine F.rB Nr λjt A outer s H vs Q E hr h=>?_
 obtain⟨old,new,o,n,rfl,ho,hn,O1,tQ,k⟩:=h
 refine⟨_,de (BR (j:=2) nMP (gp Wh).names [4] Nr.nd rfl rfl rfl (jS rfl T.range (a_ (gD iy (gK gE (by rfl) T.len aaM (a_ (pv 0) e_)) gm) e_)) rfl (by decide+kernel)
   (λ_ _ _ _=>ir (i:=4) Nr.nd rfl (Or.inl rfl)) (λ_ _ _ _=>lN) (λ_ _ _ _=>⟨_,gD Gm (iB (a_ gm e_)) (gD iy (gK gE (by rfl) T.len aaM (a_ (pv 1) e_)) gm),by(try simp only [kL]);rfl⟩))
  (de (iD aaN rfl (wM rfl T.range (a_ (gD Cu (gK gE (by rfl) T.len aaM (a_ (pv 0) e_)) gm) (a_ (xP rG gm) (a_ (xP rG gm) e_)))) (ir (i:=3) Nr.nd rfl (Or.inl rfl))
   (f_ (wC (uY GC hr rfl mC C.kp bC .nil pF (a_ (jo kK (pv 0) (pv 3) (λ_ _=>rfl)) (a_ (pv 1) (a_ (jo kK (pv 2) (gD iy (pv 3) gm) (λ_ _=>rfl)) e_)))) (wB (pv 2) (pv 3) set_list))))
  (f_ (hE (pv 2)))),?_⟩
 refine Ey ?_;intro _ _
 refine⟨_,rfl,o,_,rfl,.inl (gN.of ho),_,_,rfl,rfl,_,rfl,by simp<;>omega,by simp<;>omega,?_⟩
 have en:(((gw old).length:Int)+1).toNat=old.length+1:=by simp<;>omega
 rw[en]
 let Jv:=λ(m:Nat) (ys:List V) (Z:St) (H2:Hp)=>∃v,Z=[rr o,rr n,none,none,v]/\gv H H2/\ys.length=m/\∀i,i<m->∃a,ys[i]?=some (.ref a)/\H a=none/\H2 a=some (.lst (tab old new old.length))
 refine rJ (by have:sizeLine=2 ^ 24:=rfl;omega) Jv
  ⟨none,rfl,gv.refl H,rfl,λi hi=>absurd hi (Nat.not_lt_zero _)⟩ (by rintro _ _ _ _ ⟨_,_,_,e,_⟩;exact Nat.le_of_eq e) ?_ ?_
 ·rintro m ys Z H2 hm ⟨v,rfl,s2,hy,zp⟩
  refine⟨jL,λl Sq=>?_⟩
  have s3:gv H (upd H2 l (.lst [V.int 0])):=s2.new Sq
  refine⟨_,rfl,n,_,rfl,.inl (gN.of (s3 n _ hn)),_,_,rfl,rfl,l,_,_,rfl,rfl,b_,by simp<;>omega,by simp<;>omega,by simp;have:sizeLine=2 ^ 24:=rfl;omega,λp hp=>?_⟩
  rw[Nt old new _ (show(((gw new).length:Int)+1).toNat=new.length+1 by simp<;>omega)]
  have nK:p≠l:=λz=>by rw[z,b_] at hp;cases hp
  have A8:H2 p=none:=by rw[d_ nK] at hp;exact hp
  refine⟨_,rfl,s3.new hp,by rw[YO,hy];rfl,λi hi=>?_⟩
  by_cases e:i<m
  ·obtain⟨a,e1,e2,e3⟩:=zp i e
   refine⟨a,by rw[abU (by omega)];exact e1,e2,?_⟩
   rw[d_ (gr e3 A8),d_ (gr e3 Sq)]
   exact e3
  ·have:i=m:=by omega
   subst this
   exact⟨p,by rw[abl (by omega),hy];simp,s2.free A8,b_⟩
 ·rintro ys Z H2 ⟨v,rfl,s2,hy,zp⟩ p hp
  have s3:gv H (upd H2 p (.lst ys)):=s2.new hp
  have D3:H p=none:=s2.free hp
  refine⟨_,rfl,o,_,rfl,.inl (gN.of (s3 o _ ho)),_,_,rfl,rfl,_,rfl,_,rfl,_,_,rfl,⟨by simp<;>omega,by simp<;>omega,by omega,by omega⟩,?_⟩
  have en:((((gw old).length:Int)-1) - -1).toNat=old.length:=by simp<;>omega
  rw[en]
  let Jv:=λ(m:Nat) (Z:St) (H3:Hp)=>∃v w rows,Z=[rr o,rr n,rr p,v,w]/\gv H H3/\H3 p=some (.lst rows)/\OM H3 old new rows (old.length-m)/\∀i a,i<=old.length->rows[i]?=some (.ref a)->a≠p
  refine uq Jv
   ⟨_,_,ys,rfl,s3,b_,⟨hy,λi hi=>?_⟩,λi a hi ha=>?_⟩ ?_ ?_
  ·obtain⟨a,e1,e2,e3⟩:=zp i (by omega)
   refine⟨a,e1,λz=>?_⟩
   have:i=old.length:=by omega
   subst this
   rw[d_ (gr e3 hp)]
   exact e3
  ·obtain⟨a',e1,e2,e3⟩:=zp i (by omega)
   rw[ha] at e1
   cases e1
   exact gr e3 hp
  ·rintro m Z H3 hm ⟨v,w',rows,rfl,s4,h4,tb,nb⟩
   obtain⟨i,hi⟩:∃i,i=old.length-1-m:=⟨_,rfl⟩
   have Sn:i<old.length:=by omega
   rw[show((gw old).length:Int)-1+(m:Int) * -1=(i:Int) by simp<;>omega]
   have Wy:old[i]?=some old[i]:=UR Sn
   obtain⟨b,e1,e2⟩:=tb.2 (i+1) (by omega)
   refine⟨_,rfl,_,rfl,o,_,_,_,rfl,rfl,gN.of (s4 o _ ho),gG rfl (j3 Wy),_,rfl,_,rfl,_,rfl,_,_,rfl,rfl,p,_,_,_,rfl,rfl,gN.of h4,gG (j:=i+1) (by omega) e1,?_⟩
   refine⟨old,new,i,_,n,b,rfl,Wy,s4 n _ hn,e2 (by omega),tQ,λq H5 s5 hq5 h5=>?_⟩
   have hqp:q≠p:=λz=>by rw[z,h4] at hq5;cases hq5
   refine⟨_,rfl,_,rfl,p,rows,_,i,rfl,rfl,s5 p _ h4,wU rfl (by rw[tb.1];omega),?_⟩
   refine⟨_,_,_,rfl,(s4.trans s5).upd D3,b_,⟨by rw[acs];exact tb.1,λi' Bz=>?_⟩,λi' a Bz ha=>?_⟩
   ·by_cases e:i'=i
    ·subst e
     refine⟨q,by rw[abA (by rw[tb.1];omega)],λ_=>?_⟩
     rw[d_ hqp];exact h5
    ·obtain⟨a,a1,a2⟩:=tb.2 i' Bz
     refine⟨a,by rw[abJ (λz=>e z.symm)];exact a1,λz=>?_⟩
     rw[d_ (nb i' a Bz a1)]
     exact s5 a _ (a2 (by omega))
   ·by_cases e:i'=i
    ·subst e
     rw[abA (by rw[tb.1];omega)] at ha
     cases ha
     exact hqp
    ·rw[abJ (λz=>e z.symm)] at ha
     exact nb i' a Bz ha
  ·rintro Z H3 ⟨v,w',rows,rfl,s4,h4,tb,nb⟩
   refine⟨_,rfl,k p H3 rows s4 D3 h4 ?_⟩
   rw[Nat.sub_self] at tb
   exact tb
end
end Kp
namespace K01
theorem Dd{Z:Type}[DecidableEq Z]{a:Z}{new:List Z}{j k:Nat}(hj:j<=k)(hk:new[k]?=some a)(hm:∀l,j<=l->l<k->new[l]?≠some a):i6 a new j=some k:=by
 cases e:i6 a new j with
 | none=>exact absurd hk (nR e k hj)
 | some k'=>
  obtain⟨h1,h2,h3⟩:=kD e
  rcases Nat.lt_trichotomy k k' with h|h|h
  ·exact absurd hk (h3 k hj h)
  ·rw[h]
  ·exact absurd h2 (hm k' h1 h)
theorem De{Z:Type}[DecidableEq Z]{a:Z}{new:List Z}{j:Nat}(hm:∀l,j<=l->l<new.length->new[l]?≠some a):i6 a new j=none:=by
 cases e:i6 a new j with
 | none=>rfl
 | some k'=>
  obtain⟨h1,h2,h3⟩:=kD e
  exact absurd h2 (hm k' h1 (List.getElem?_eq_some_iff.mp h2).1)
end K01
namespace Kp
open PySem L2
section
variable{P:Program}{w:World}{K:Qqy}{mg:Qqx}{base:Heap}
def Yc:Option Nat->V
 | none=>.jb
 | some k=>.int k
theorem T6:gH ["texts","text","start","place"] ["texts","text","start"] (gp Yb):=⟨rfl,rfl,rfl,by decide+kernel,rfl,by decide+kernel,by decide+kernel⟩
def T7:Sp:=λvs H Q _=>∃(new:List Str)(t:Str)(n:Addr)(j:Nat),vs=[.ref n,.str t,.int j]/\H n=some (.lst (gw new))/\new.length<=1000/\j<=1000/\Q (Yc (K01.i6 t new j)) H
theorem T8{f:Addr}{fd:FuncData}(F:xU K "place_from" "place_from" Yb f fd)(T:Txt mg):ie P w K mg base mL 1 f fd ["texts","text","start"] T7:=by
 refine F.rB T6 λjt A outer s H vs Q E hr h=>?_
 obtain⟨new,t,n,j,rfl,hn,hl,hj,k⟩:=h
 refine⟨_,de (iD aaN rfl (BE rfl T.range (a_ (pv 2) (a_ (gK gE (by rfl) T.len aaM (a_ (pv 0) e_)) e_))) (ir (i:=3) T6.nd rfl (Or.inl rfl))
   (f_ (il (hV mB (jo kK (pv 0) (pv 3) (λ_ _=>rfl)) (pv 1) (iA _)) (f_ (hE (pv 3))) hG)))
  (f_ (hE uj)),?_⟩
 refine Mo ?_;intro _
 refine⟨_,rfl,_,rfl,n,_,rfl,.inl (gN.of hn),_,_,rfl,⟨by omega,by omega,by simp<;>omega,by simp<;>omega⟩,?_⟩
 let Jv:=λ(m:Nat) (Z:St) (H2:Hp)=>∃v,Z=[rr n,rs t,ri j,v]/\H2=H/\∀l,j<=l->l<j+m->new[l]?≠some t
 refine lB Jv ⟨none,rfl,rfl,λl h1 h2=>by omega⟩ ?_ ?_
 ·rintro m Z H2 hm ⟨v,rfl,rfl,h2⟩
  have hm:j+m<new.length:=by simp at hm;omega
  rw[show(j:Int)+(m:Int)=((j+m:Nat):Int) by omega]
  have RD:new[j+m]?=some new[j+m]:=UR hm
  refine⟨_,rfl,_,rfl,n,_,_,_,rfl,rfl,gN.of hn,gG rfl (j3 RD),_,rfl,rfl,_,rfl,?_⟩
  refine kY (λhc=>?_) (λhc=>?_)
  ·have hc:new[j+m]=t:=by have:=aaB hc;injection this
   rw[hc] at RD
   rw[K01.Dd (Nat.le_add_right j m) RD h2] at k
   exact⟨_,rfl,k⟩
  ·have hc:¬new[j+m]=t:=λz=>hc (by rw[z];exact X0 rfl)
   refine⟨_,rfl,rfl,λl h3 h4=>?_⟩
   by_cases e:l=j+m
   ·subst e
    rw[RD]
    intro z
    exact hc (aaF z)
   ·exact h2 l h3 (by omega)
 ·rintro Z H2 ⟨v,rfl,rfl,h2⟩
  rw[K01.De (j:=j) λl h3 h4=>h2 l h3 (by simp<;>omega)] at k
  exact k
def kG(H:Hp)(q:Nat×Nat)(v:V):Prop:=∃a,v=.ref a/\H a=some (.tup [.int q.1,.int q.2])
abbrev iC(H:Hp)(l:List (Nat×Nat))(vs:List V):Prop:=Paired (kG H) l vs
theorem iC.keep{H H':Hp}{l:List (Nat×Nat)}{vs:List V}(h:iC H l vs)(k:∀a xs,H a=some (.tup xs)->H' a=some (.tup xs)):iC H' l vs:=
 Paired.i3 h λq v ⟨a,e,h⟩=>⟨a,e,k a _ h⟩
theorem QG:gH ["old","new","table","pairs","start","first","second"] ["old","new"] (gp OL):=⟨rfl,rfl,rfl,by decide+kernel,rfl,by decide+kernel,by decide+kernel⟩
def spK:Sp:=λvs H Q _=>∃(old new:List Str)(o n:Addr),vs=[.ref o,.ref n]/\H o=some (.lst (gw old))/\H n=some (.lst (gw new))/\old.length<=1000/\new.length<=1000/\
 ∀p H' ps,gv H H'->H p=none->H' p=some (.lst ps)->iC H' (K01.kept old new) ps->Q (.ref p) H'
theorem Nu{f fM fC fP:Addr}{fd Zd SA Ze:FuncData}(F:xU K "kept" "kept" OL f fd)(T:Txt mg)(C:xU K "counts_with" "counts_with" Wg fC SA)(bC:Binds K SA ["text","new","below"] [])(mC:mg "counts_with"=some (.ref fC))
  (M:xU K "most_pairs" "most_pairs" Wh fM Zd) (bM:Binds K Zd ["old","new"] []) (mM:mg "most_pairs"=some (.ref fM)) (Pf:xU K "place_from" "place_from" Yb fP Ze) (bP:Binds K Ze ["texts","text","start"] []) (mP:mg "place_from"=some (.ref fP)) :
  ie P w K mg base mL 3 f fd ["old","new"] spK:=by
 have GM:ie P w K mg base mL 2 fM Zd ["old","new"] T4:=T5 M T C bC mC
 have GP:ie P w K mg base mL 2 fP Ze ["texts","text","start"] T7:=(T8 Pf T).mono (by decide)
 refine F.rB QG λjt A outer s H vs Q E hr h=>?_
 obtain⟨old,new,o,n,rfl,ho,hn,O1,tQ,k⟩:=h
 refine⟨_,de (lx (i:=2) QG.nd rfl (Or.inl rfl) (uY GM hr rfl mM M.kp bM .nil pF (a_ (pv 0) (a_ (pv 1) e_))))
  (de (lx (i:=3) QG.nd rfl (Or.inl rfl) (iB e_))
  (de (lx (i:=4) QG.nd rfl (Or.inl rfl) gm)
  (de (iD aaN rfl (jS rfl T.range (a_ (gK gE (by rfl) T.len aaM (a_ (pv 0) e_)) e_)) (ir (i:=5) QG.nd rfl (Or.inl rfl))
   (de (lx (i:=6) QG.nd rfl (Or.inl rfl) (uY GP hr rfl mP Pf.kp bP .nil pF (a_ (pv 1) (a_ (jo kK (pv 0) (pv 5) (λ_ _=>rfl)) (a_ (pv 4) e_)))))
   (f_ (il (pw_and (ju (tf (pv 6))) (pw_and1 (hV mB
     (gD iy (jo kK (jo kK (pv 2) (gD iy (pv 5) gm) (λ_ _=>rfl)) (gD iy (pv 6) gm) (λ_ _=>rfl)) gm)
     (jo kK (jo kK (pv 2) (pv 5) (λ_ _=>rfl)) (pv 4) (λ_ _=>rfl)) (iA _)))).pt
    (de (hU (pC aa2 aba abb kl (pv 3) (a_ (Cw (a_ (pv 5) (a_ (pv 6) e_))) e_)))
    (f_ (lx (i:=4) QG.nd rfl (Or.inl rfl) (gD iy (pv 6) gm))))
    hG))))
  (f_ (hE (pv 3)))))),?_⟩
 refine OH ?_;intro _ _ _ _
 refine⟨_,rfl,_,rfl,old,new,o,n,rfl,ho,hn,O1,tQ,λtb H1 rows s1 Y4 h1 Ve=>?_⟩
 refine⟨jL,λpr WM=>?_⟩
 have Zf:H pr=none:=s1.free WM
 refine⟨_,rfl,o,_,rfl,.inl (gN.of (s1.new WM o _ ho)),_,rfl,by simp<;>omega,by simp<;>omega,?_⟩
 have en:((gw old).length:Int).toNat=old.length:=by simp
 rw[en]
 refine lB (λm Z H2=>∃(j:Nat)(acc:List (Nat×Nat))(ps:List V)(v w:Option V),Z=[rr o,rr n,rr tb,rr pr,ri j,v,w]/\gv H1 H2/\H2 pr=some (.lst ps)/\iC H2 acc ps/\acc.length<=m/\j<=new.length/\
   acc++K01.pH new m (old.drop m) j=K01.kept old new) ⟨0,[],[],none,none,rfl,(gv.refl H1).new WM,b_,.nil,XW _,aaZ _,rfl⟩ ?_ ?_
 ·rintro m Z H2 hm ⟨j,acc,ps,v,w',rfl,s2,h2,pa,AJ,hj,hk⟩
  rw[show(0:Int)+(m:Int)=(m:Int) by omega]
  have hom:old[m]?=some old[m]:=UR hm
  have hd:old.drop m=old[m]::old.drop (m+1):=aa7 hm
  rw[hd,K01.pH] at hk
  refine⟨_,rfl,_,rfl,_,rfl,o,_,_,_,rfl,rfl,gN.of (s2 o _ (s1 o _ ho)),gG rfl (j3 hom),_,rfl,new,_,n,j,rfl,s2 n _ (s1 n _ hn),tQ,by omega,?_⟩
  cases e:K01.i6 old[m] new j with
  | none=>
   rw[e] at hk
   refine⟨_,rfl,_,rfl,Kh (by rfl) (jf ?_)⟩
   exact⟨j,acc,ps,_,_,rfl,s2,h2,pa,by omega,hj,hk⟩
  | some q=>
   rw[e] at hk
   simp only at hk
   obtain⟨hq1,hq2,QH⟩:=K01.kD e
   have H_:q<new.length:=(List.getElem?_eq_some_iff.mp hq2).1
   obtain⟨a1,ea1,Zg⟩:=Ve.2 (m+1) (by omega)
   obtain⟨a0,ea0,Zh⟩:=Ve.2 m (by omega)
   have Zg:=s2 a1 _ (Zg (aaZ _))
   have Zh:=s2 a0 _ (Zh (aaZ _))
   have Vf:H2 tb=some (.lst rows):=s2 tb _ h1
   refine⟨_,rfl,_,rfl,Ki (by rfl) ?_⟩
   refine⟨_,rfl,_,rfl,_,_,rfl,rfl,tb,_,_,_,rfl,rfl,gN.of Vf,gG (j:=m+1) (by omega) ea1,_,rfl,_,_,rfl,rfl,a1,_,_,_,rfl,rfl,gN.of Zg,gG (j:=q+1) (by omega) (Dc (by omega)),_,_,rfl,rfl,
    _,rfl,_,rfl,tb,_,_,_,rfl,rfl,gN.of Vf,gG rfl ea0,_,rfl,a0,_,_,_,rfl,rfl,gN.of Zh,gG rfl (Dc (by omega)),rfl,_,rfl,?_⟩
   refine kY (λhc=>?_) (λhc=>?_)
   ·have hc:((K01.wW old new (m+1) (q+1):Nat):Int)+1=((K01.wW old new m j:Nat):Int):=by have:=aaB hc;injection this
    have Bv:K01.lcs (old.drop (m+1)) (new.drop (q+1))+1=K01.lcs (old[m]::old.drop (m+1)) (new.drop j):=by rw[<-hd];unfold K01.wW at hc;omega
    rw[aay Bv] at hk
    refine⟨_,rfl,.inl ⟨rfl,_,gN.of h2⟩,_,rfl,_,rfl,jL,λt ht=>?_⟩
    have nK:=pa.length
    have ntp:pr≠t:=gr h2 ht
    refine⟨pr,ps,_,rfl,rfl,by rw[d_ ntp];exact h2,by have:sizeLine=2 ^ 24:=rfl;omega,?_⟩
    refine⟨_,rfl,_,_,rfl,rfl,q+1,acc++[(m,q)],ps++[.ref t],_,_,rfl,(s2.new ht).upd WM,b_,?_,by rw[YO];simp;omega,by omega,by rw[aa5];exact hk⟩
    refine Paired.snoc (pa.keep λa xs ha=>?_) ⟨t,rfl,?_⟩
    ·rw[d_ (iR ha h2 (by intro z;cases z)),d_ (gr ha ht)];exact ha
    ·rw[d_ (ab1 ntp),b_]
     rfl
   ·have hc:¬((K01.wW old new (m+1) (q+1):Nat):Int)+1=((K01.wW old new m j:Nat):Int):=λz=>hc (X0 (abe V.int z))
    have Bv:¬K01.lcs (old.drop (m+1)) (new.drop (q+1))+1=K01.lcs (old[m]::old.drop (m+1)) (new.drop j):=by rw[<-hd];unfold K01.wW at hc;omega
    rw[aaw Bv] at hk
    exact⟨j,acc,ps,_,_,rfl,s2,h2,pa,by omega,hj,hk⟩
 ·rintro Z H2 ⟨j,acc,ps,v,w',rfl,s2,h2,pa,AJ,hj,hk⟩
  rw[acG,K01.pH,aa0] at hk
  rw[hk] at pa
  exact⟨_,rfl,k pr H2 ps (s1.trans s2) Zf h2 pa⟩
end
end Kp
namespace PK
open PySem L2 PM
open Kp (kG iC)
theorem QI(a b c d:V):jC "lower_name" d (jC "upper_name" c (jC "text" b (jC "name" a [])))=Nl a b c d:=by kernel_rfl
theorem QJ(a b c d e:V):jC "other" e (jC "cuts" d (jC "puts" c (jC "file" b (jC "name" a []))))=Nn a b c d e:=by kernel_rfl
def Sd(a l:Addr):List (Str×V):=[("ahead",.ref a),("lines",.ref l)]
theorem QK(a l:Addr):jC "lines" (.ref l) (jC "ahead" (.ref a) [])=Sd a l:=by kernel_rfl
theorem lG(a l:Addr):(Sd a l).lookup ("lines":Str)=some (V.ref l):=by kernel_rfl
theorem GH(a l:Addr):(Sd a l).lookup ("ahead":Str)=some (V.ref a):=by kernel_rfl
theorem QL(a l:Addr):(Sd a l).lookup ("is_ahead":Str)=none:=by kernel_rfl
theorem K8(a l:Addr):(Sd a l).lookup ("quarrelling":Str)=none:=by kernel_rfl
theorem IV(a:Addr):(jC ("ahead":Str) (.ref a) []).lookup ("ahead":Str)=some (V.ref a):=by kernel_rfl
def GI(A:Ad)(H:Hp)(p:Addr)(al row:List Ln):Prop:=∃dx ah l,H p=some (.ins A.hZ dx (Sd ah l))/\C9 H ah al/\om A H l row
theorem GI.same{A:Ad}{H H':Hp}{p:Addr}{al row:List Ln}(x:GI A H p al row)(s:gv H H'):GI A H' p al row:=by
 obtain⟨dx,ah,l,h1,h2,h3⟩:=x
 exact⟨dx,ah,l,s _ _ h1,h2.same s,h3.same s⟩
section
variable{P:Program}{w:World}{K:Qqy}{mg:Qqx}{base:Heap}{A:Ad}
def T9(A:Ad):Sp:=λvs H Q _=>∃(p dx:Addr)(a b c d:V),vs=[.ref p,a,b,c,d]/\H p=some (.ins A.gS dx [])/\∀H',(∀x,x≠p->H' x=H x)->H' p=some (.ins A.gS dx (Nl a b c d))->Q .jb H'
theorem Df(T:Txt mg)(O:Ok K mg A):ie P w K mg base mL 1 A.mZ A.q_ ["self","name","text","upper_name","lower_name"] (T9 A):=by
 refine O.ue.f.rB wZ λjt A0 outer s H vs Q E hr h=>?_
 obtain⟨p,dx,a,b,c,d,rfl,hp,k⟩:=h
 refine⟨_,(de (lJ (pv 0) (pv 1) rfl)
  (de (lJ (pv 0) (pv 2) rfl)
  (de (lJ (pv 0) (pv 3) rfl)
  (f_ (lJ (pv 0) (pv 4) rfl))))),?_⟩
 refine OG ?_;intro _ _ _
 refine⟨_,rfl,_,rfl,p,A.gS,dx,_,rfl,hp,O.iL,O.gQ,(by show 0<1000;decide),?_⟩
 refine⟨_,rfl,_,rfl,p,A.gS,dx,_,rfl,b_,O.iL,O.jJ,(by show 1<1000;decide),?_⟩
 refine⟨_,rfl,_,rfl,p,A.gS,dx,_,rfl,b_,O.iL,O.iF,(by show 2<1000;decide),?_⟩
 refine⟨_,rfl,_,rfl,p,A.gS,dx,_,rfl,b_,O.iL,O.iG,(by show 3<1000;decide),?_⟩
 exact k _ (λx hx=>by rw[d_ hx,d_ hx,d_ hx,d_ hx]) (Eq.trans b_ (abe (λl=>some (HO.ins A.gS dx l)) (QI a b c d)))
def T_(A:Ad):Sp:=λvs H Q _=>∃(p dx:Addr)(a b c d e:V),vs=[.ref p,a,b,c,d,e]/\H p=some (.ins A.gT dx [])/\∀H',(∀x,x≠p->H' x=H x)->H' p=some (.ins A.gT dx (Nn a b c d e))->Q .jb H'
theorem o_(T:Txt mg)(O:Ok K mg A):ie P w K mg base mL 1 A.mv A.pN ["self","name","file","puts","cuts","other"] (T_ A):=by
 refine O.lZ.f.rB vy λjt A0 outer s H vs Q E hr h=>?_
 obtain⟨p,dx,a,b,c,d,e,rfl,hp,k⟩:=h
 refine⟨_,(de (lJ (pv 0) (pv 1) rfl)
  (de (lJ (pv 0) (pv 2) rfl)
  (de (lJ (pv 0) (pv 3) rfl)
  (de (lJ (pv 0) (pv 4) rfl)
  (f_ (lJ (pv 0) (pv 5) rfl)))))),?_⟩
 refine OH ?_;intro _ _ _ _
 refine⟨_,rfl,_,rfl,p,A.gT,dx,_,rfl,hp,O.jm,O.iT,(by show 0<1000;decide),?_⟩
 refine⟨_,rfl,_,rfl,p,A.gT,dx,_,rfl,b_,O.jm,O.ko,(by show 1<1000;decide),?_⟩
 refine⟨_,rfl,_,rfl,p,A.gT,dx,_,rfl,b_,O.jm,O.jN,(by show 2<1000;decide),?_⟩
 refine⟨_,rfl,_,rfl,p,A.gT,dx,_,rfl,b_,O.jm,O.jO,(by show 3<1000;decide),?_⟩
 refine⟨_,rfl,_,rfl,p,A.gT,dx,_,rfl,b_,O.jm,O.iV,(by show 4<1000;decide),?_⟩
 exact k _ (λx hx=>by rw[d_ hx,d_ hx,d_ hx,d_ hx,d_ hx]) (Eq.trans b_ (abe (λl=>some (HO.ins A.gT dx l)) (QJ a b c d e)))
def Nv(A:Ad):Sp:=λvs H Q _=>∃(p dx a:Addr)(ps:List Pt)(f:Str),vs=[.ref p,.ref a,.str f]/\H p=some (.ins A.hZ dx [])/\yW A H a ps/\Small ps/\
 ((gA ps f).map (·.nm)).Nodup/\qr (gA ps f)/\KG (gA ps f)/\
 ∀(H':Hp),(∀b o,H b=some o->b≠p->H' b=some o)->GI A H' p (gA ps f) (rowOf (Ah (gA ps f)) (ji ps f))->Q .jb H'
theorem lI.off{H H':Hp}{p C dx:Addr}{fs:List (Str×V)}{v:V}{n:Nm}(x:lI H v n)(hp:H p=some (.ins C dx fs))(s:∀b o,H b=some o->b≠p->H' b=some o):lI H' v n:=by
 obtain⟨t,e,h⟩:=x
 exact⟨t,e,s _ _ h (iR h hp (λz=>by cases z))⟩
theorem GB.off{H H':Hp}{p C dx:Addr}{fs:List (Str×V)}{v:V}{n:Option Nm}(x:GB H v n)(hp:H p=some (.ins C dx fs))(s:∀b o,H b=some o->b≠p->H' b=some o):GB H' v n:=by
 cases n with
 | none=>exact x
 | some n=>exact lI.off x hp s
theorem mH.off{H H':Hp}{p C dx a:Addr}{fs:List (Str×V)}{l:Ln}(x:mH A H a l)(hp:H p=some (.ins C dx fs))(hf:fs.length<2)(s:∀b o,H b=some o->b≠p->H' b=some o):mH A H' a l:=by
 obtain⟨Zi,vn,vu,vl,h,h1,h2,h3⟩:=x
 have:a≠p:=λz=>by
  rw[z,hp] at h
  have e:=aaF h
  injection e with _ _ e
  rw[e] at hf
  exact absurd hf (by unfold Nl;simp)
 exact⟨Zi,vn,vu,vl,s _ _ h this,h1.off hp s,h2.off hp s,h3.off hp s⟩
theorem om.off{H H':Hp}{p C dx a:Addr}{fs:List (Str×V)}{ls:List Ln}(x:om A H a ls)(hp:H p=some (.ins C dx fs))(hf:fs.length<2)(s:∀b o,H b=some o->b≠p->H' b=some o):om A H' a ls:=by
 obtain⟨as,h,q⟩:=x
 exact⟨as,s _ _ h (iR h hp (λz=>by cases z)),Paired.i3 q λ_ _ z=>z.off hp hf s⟩
theorem vU.off{H H':Hp}{p C dx a:Addr}{fs:List (Str×V)}{ns:List Nm}(x:vU H a ns)(hp:H p=some (.ins C dx fs))(s:∀b o,H b=some o->b≠p->H' b=some o):vU H' a ns:=by
 obtain⟨as,h,q⟩:=x
 exact⟨as,s _ _ h (iR h hp (λz=>by cases z)),Paired.i3 q λ_ _ z=>z.off hp s⟩
theorem oq.off{H H':Hp}{p C dx a:Addr}{fs:List (Str×V)}{pt:Pt}(x:oq A H a pt)(hp:H p=some (.ins C dx fs))(hf:fs.length<2)(s:∀b o,H b=some o->b≠p->H' b=some o):oq A H' a pt:=by
 obtain⟨Zi,vf,pu,cu,vo,h,h1,h2,h3,h4⟩:=x
 have:a≠p:=λz=>by
  rw[z,hp] at h
  have e:=aaF h
  injection e with _ _ e
  rw[e] at hf
  exact absurd hf (by unfold Nn;simp)
 exact⟨Zi,vf,pu,cu,vo,s _ _ h this,h1,h2.off hp hf s,h3.off hp s,h4⟩
theorem yW.off{H H':Hp}{p C dx a:Addr}{fs:List (Str×V)}{ps:List Pt}(x:yW A H a ps)(hp:H p=some (.ins C dx fs))(hf:fs.length<2)(s:∀b o,H b=some o->b≠p->H' b=some o):yW A H' a ps:=by
 obtain⟨as,h,q⟩:=x
 exact⟨as,s _ _ h (iR h hp (λz=>by cases z)),Paired.i3 q λ_ _ z=>z.off hp hf s⟩
theorem C9.off{H H':Hp}{p C dx a:Addr}{fs:List (Str×V)}{ls:List Ln}(x:C9 H a ls)(hp:H p=some (.ins C dx fs))(s:∀b o,H b=some o->b≠p->H' b=some o):C9 H' a ls:=by
 obtain⟨kvs,e1,e2⟩:=x
 refine⟨kvs,s _ _ e1 (iR e1 hp (λz=>by cases z)),λn hn=>?_⟩
 obtain⟨b,dk,z1,z2,z3⟩:=e2 n hn
 exact⟨b,dk,z1,s _ _ z2 (iR z2 hp (λz=>by cases z)),z3⟩
theorem Bm(T:Txt mg)(O:Ok K mg A):ie P w K mg base mL 3 A.mw A.pU ["self","patches","file"] (Nv A):=by
 have Fz:=@C_ P w K mg base A T O
 have sX:=@vV P w K mg base A T O
 have xD:=@vW P w K mg base A T O
 have L1:=@IU P w K mg base A T O
 refine O.sA.f.rB vz λjt A0 outer s H vs Q E hr h=>?_
 obtain⟨p,dx,a,ps,f,rfl,hp,ha,sm,nd,cl,tp,q⟩:=h
 have Vg:xq (gA ps f).length:=aan (qM ps f) sm.iw
 have BA:=j5 ps f
 refine⟨_,(de (lJ (pv 0) (oh O.BZ Fz hr (a_ (oh O.xn sX hr (a_ (pv 1) (a_ (pv 2) e_))) e_)) rfl)
   (f_ (lJ (pv 0) (oh O.KS L1 hr (a_ (oh O.sx xD hr (a_ (pv 1) (a_ (pv 2) e_))) (a_ (gL (pv 0) rfl) e_))) rfl))),?_⟩
 refine Mo ?_;intro _
 refine⟨_,rfl,_,rfl,a,ps,f,rfl,ha,sm,λl1 H1 s1 WN Vh=>?_⟩
 refine⟨l1,_,rfl,Vh,Vg,nd,cl,tp,λah H2 s2 WO Vi=>?_⟩
 have Zj:gv H H2:=s1.trans s2
 have A8:=Zj p _ hp
 refine⟨_,rfl,p,A.hZ,dx,_,rfl,A8,O.j8,O.jx,(by show 0<1000;decide),?_⟩
 have s3:∀b o,H2 b=some o->b≠p->(upd H2 p (.ins A.hZ dx (jC "ahead" (.ref ah) []))) b=some o:=λb o e n=>by rw[d_ n];exact e
 have ha3:=(ha.same Zj).off A8 (by decide) s3
 have Vj:=Vi.off A8 s3
 refine⟨_,rfl,_,rfl,a,ps,f,rfl,ha3,sm,λst H4 s4 WQ Vk=>?_⟩
 have U3:H4 p=some (.ins A.hZ dx (jC "ahead" (.ref ah) [])):=s4 p _ b_
 refine⟨_,rfl,p,A.hZ,dx,_,_,rfl,U3,O.j8,O.jx,IV ah,st,ah,ji ps f,gA ps f,rfl,Vk,Vj.same s4,aan BA.length_le Vg,(BA.map _).nodup nd,λl hl=>aaf (BA.subset hl),tp,λl H5 s5 WR Vl=>?_⟩
 have Zk:=s5 p _ U3
 refine⟨_,rfl,p,A.hZ,dx,_,rfl,Zk,O.j8,O.ik,(by show 1<1000;decide),?_⟩
 have s6:∀b o,H5 b=some o->b≠p->(upd H5 p (.ins A.hZ dx (jC "lines" (.ref l) (jC "ahead" (.ref ah) [])))) b=some o:=λb o e n=>by rw[d_ n];exact e
 refine q _ (λb o hb nb=>?_) ⟨dx,ah,l,Eq.trans b_ (abe (λl=>some (HO.ins A.hZ dx l)) (QK ah l)),?_,?_⟩
 ·rw[d_ nb]
  refine s5 b o (s4 b o ?_)
  rw[d_ nb]
  exact Zj b o hb
 ·exact((Vj.same s4).same s5).off Zk s6
 ·exact Vl.off Zk (by show 1<2;decide) s6
open Classical in
def Yd(A:Ad):Sp:=λvs H Q _=>∃(p:Addr)(al row:List Ln)(i j:Nat)(a b:Ln),vs=[.ref p,.int i,.int j]/\GI A H p al row/\row[i]?=some a/\row[j]?=some b/\b.nm∈al.map (·.nm)/\Q (.bl (decide (Ah al a.nm b.nm))) H
open Classical in
theorem Fe(T:Txt mg)(O:Ok K mg A):ie P w K mg base mL 1 A.pV A.pW ["self","first","second"] (Yd A):=by
 refine O.sC.f.rB vA λjt A0 outer s H vs Q E hr h=>?_
 obtain⟨p,al,row,i,j,x,y,rfl,⟨dx,ah,l,h1,⟨kh,h2,h3⟩,⟨as,h4,h5⟩⟩,hi,hj,hy,q⟩:=h
 obtain⟨b,hb,dxb,vn,vu,vl,g1,⟨t,rfl,g2⟩,g3,g4⟩:=iq h5 hi
 obtain⟨c,hc,dxc,vn',vu',vl',k1,⟨t',rfl,k2⟩,k3,k4⟩:=iq h5 hj
 obtain⟨e,dk,z1,z2,z3⟩:=h3 y.nm hy
 have SD:(as.map V.ref)[i]?=some (.ref b):=by rw[aao,hb];rfl
 have hcj:(as.map V.ref)[j]?=some (.ref c):=by rw[aao,hc];rfl
 refine⟨_,(f_ (hE (PJ (o4 (by exact iS hr) (gL (kJ (gL (pv 0) rfl) (pv 1)) rfl) (zP hr (gL (pv 0) rfl) (gL (kJ (gL (pv 0) rfl) (pv 2)) rfl)))))),?_⟩
 refine⟨_,rfl,p,A.hZ,dx,_,_,rfl,h1,O.j8,O.ik,lG ah l,_,rfl,l,_,_,_,rfl,rfl,gN.of h4,gG rfl SD,b,A.gS,dxb,_,_,rfl,g1,O.iL,O.gQ,iX,?_⟩
 refine⟨_,rfl,p,A.hZ,dx,_,_,rfl,h1,O.j8,O.jx,GH ah l,_,rfl,p,A.hZ,dx,_,_,rfl,h1,O.j8,O.ik,lG ah l,_,rfl,l,_,_,_,rfl,rfl,gN.of h4,gG rfl hcj,c,A.gS,dxc,_,_,rfl,k1,O.iL,O.gQ,iX,ah,.ref e,rfl,?_,e,_,rfl,i5.t (k:=nk x.nm) z2 g2,?_⟩
 ·have:=i5.t (k:=nk y.nm) h2 k2
  rw[z1] at this
  exact this
 ·have e2:(iN dk (nk x.nm)).isSome=decide (Ah al x.nm y.nm):=by
   rw[abo,aaT];exact z3 x.nm
  rw[e2]
  exact q
def Ye(A:Ad):Sp:=λvs H Q _=>∃(p:Addr)(al row:List Ln),vs=[.ref p]/\GI A H p al row/\(∀l∈row,l.nm∈al.map (·.nm))/\xq row.length/\∀r H' vs,gv H H'->H r=none->H' r=some (.lst vs)->iC H' (ja (Ah al) row) vs->Q (.ref r) H'
open Classical in
noncomputable def xr(lt:Nm->Nm->Prop)(row:List Ln)(i m:Nat):List (Nat×Nat):=((List.range' (i+1) m).filter λj=>decide (¬ltAt lt row i j)).map λj=>(i,j)
noncomputable def Ff(lt:Nm->Nm->Prop)(row:List Ln)(i:Nat):List (Nat×Nat):=(List.range i).flatMap λi=>xr lt row i (row.length-(i+1))
theorem K9(lt:Nm->Nm->Prop)(row:List Ln):Ff lt row row.length=ja lt row:=rfl
theorem B_(lt:Nm->Nm->Prop)(row:List Ln)(i:Nat):Ff lt row (i+1)=Ff lt row i++xr lt row i (row.length-(i+1)):=by
 unfold Ff
 rw[acz,abd,aaW,ab0,aa0]
theorem IW(lt:Nm->Nm->Prop)(row:List Ln)(i m:Nat)(h:¬ltAt lt row i (i+1+m)):xr lt row i (m+1)=xr lt row i m++[(i,i+1+m)]:=by
 unfold xr
 rw[show m+1=m+1 from rfl,<-List.range'_append_1 (s:=i+1) (m:=m) (n:=1),aaI,aaH]
 congr 1
 show List.map _ (List.filter _ [i+1+m])=_
 rw[YS (by simpa using h)]
 rfl
theorem GJ(lt:Nm->Nm->Prop)(row:List Ln)(i m:Nat)(h:ltAt lt row i (i+1+m)):xr lt row i (m+1)=xr lt row i m:=by
 unfold xr
 rw[<-List.range'_append_1 (s:=i+1) (m:=m) (n:=1),aaI,aaH]
 show _++List.map _ (List.filter _ [i+1+m])=_
 rw[aaj (by simpa using h)]
 simp
theorem Fg(lt:Nm->Nm->Prop)(row:List Ln)(i m:Nat):(xr lt row i m).length<=m:=by
 unfold xr
 rw[O7]
 exact aan (aaY _ _) (by rw[List.length_range'];exact XW _)
theorem Fh(lt:Nm->Nm->Prop)(row:List Ln):∀i,(Ff lt row i).length<=i*row.length
 | 0=>aaZ _
 | i+1=>by
  rw[B_,YO,Nat.succ_mul]
  have:=Fh lt row i
  have:=Fg lt row i (row.length-(i+1))
  omega
open Classical in
theorem sO(T:Txt mg)(O:Ok K mg A):ie P w K mg base mL 2 A.nB A.nE ["self"] (Ye A):=by
 have xE:=@Fe P w K mg base A T O
 refine O.jI.f.rB jF λjt A0 outer s H vs Q E hr h=>?_
 obtain⟨p,al,row,rfl,S,Zl,jL,q⟩:=h
 obtain⟨dx,ah,l,h1,h2,⟨as,h4,h5⟩⟩:=id S
 have hlen:=aav h5
 have y4:row.length<=4000:=jL
 have sz:sizeLine=16777216:=aaQ
 refine⟨_,(de (kZ 1 jF (iB e_))
   (de (iD aaN rfl (jS rfl T.ll (a_ (gK gE (by rfl) T.jw aaM (a_ (gL (pv 0) rfl) e_)) e_)) (tM 2 jF) (f_ (iD aaN rfl (BE rfl T.ll (a_ (gD iy (pv 2) gm) (a_ (gK gE (by rfl) T.jw aaM (a_ (gL (pv 0) rfl) e_)) e_))) (tM 3 jF) (f_ (il (kB (lu (xW (pv 0) O.j8 O.sC xE hr (a_ (pv 2) (a_ (pv 3) e_))))) (f_ (hU (pC aa2 aba abb kl (pv 1) (a_ (Cw (a_ (pv 2) (a_ (pv 3) e_))) e_)))) hG)))))
   (f_ (hE (pv 1))))),?_⟩
 refine Ey ?_;intro _ _
 refine⟨L2.jL,λr tK=>?_⟩
 have s1:gv H (upd H r (.lst [])):=(gv.refl H).new tK
 have el:((as.map V.ref).length:Int)=(row.length:Int):=by rw[O7,hlen]
 refine⟨_,rfl,p,A.hZ,dx,_,_,rfl,s1 _ _ h1,O.j8,O.ik,lG ah l,l,_,rfl,.inl (gN.of (s1 _ _ h4)),_,rfl,by omega,by omega,?_⟩
 rw[el,abQ]
 let Jv:=λ(i:Nat) (Z:St) (H2:Hp)=>∃(v2 v3:Option V)(vs:List V),Z=[rr p,rr r,v2,v3]/\gv H H2/\H2 r=some (.lst vs)/\iC H2 (Ff (Ah al) row i) vs
 refine lB Jv ⟨none,none,[],rfl,s1,b_,.nil⟩ ?_ ?_
 ·rintro i Z H2 hi ⟨v2,v3,vs,rfl,s2,k1,k2⟩
  rw[show(0:Int)+(i:Int)=(i:Int) by omega]
  refine⟨_,rfl,_,_,rfl,rfl,_,rfl,p,A.hZ,dx,_,_,rfl,s2 _ _ h1,O.j8,O.ik,lG ah l,l,_,rfl,.inl (gN.of (s2 _ _ h4)),_,_,rfl,⟨by omega,by omega,by omega,by omega⟩,?_⟩
  rw[el,show((row.length:Int)-((i:Int)+1)).toNat=row.length-(i+1) by omega]
  let Jv:=λ(m:Nat) (Z:St) (H3:Hp)=>∃(v3:Option V)(vs:List V),Z=[rr p,rr r,ri i,v3]/\gv H H3/\H3 r=some (.lst vs)/\iC H3 (Ff (Ah al) row i++xr (Ah al) row i m) vs
  refine lB Jv ⟨v3,vs,rfl,s2,k1,by unfold xr;simpa using k2⟩ ?_ ?_
  ·rintro m Z H3 hm ⟨v3,vs,rfl,s3,k1,k2⟩
   rw[show(i:Int)+1+(m:Int)=((i+1+m:Nat):Int) by omega]
   have hj:i+1+m<row.length:=by omega
   have ei:row[i]?=some row[i]:=UR hi
   have ej:row[i+1+m]?=some row[i+1+m]:=UR hj
   have tQ:vs.length=(Ff (Ah al) row i++xr (Ah al) row i m).length:=(aav k2).symm
   have Pe:=Fh (Ah al) row i
   have JE:=Fg (Ah al) row i m
   have hb3:i*row.length<=4000*4000:=Nat.mul_le_mul (by omega) y4
   rw[YO] at tQ
   refine⟨_,rfl,p,dx,_,rfl,s3 _ _ h1,QL ah l,_,rfl,_,rfl,p,al,row,i,i+1+m,_,_,rfl,S.same s3,ei,ej,Zl _ (aco hj),_,rfl,?_⟩
   have j2:ltAt (Ah al) row i (i+1+m)↔Ah al row[i].nm row[i+1+m].nm:=by
    constructor
    ·rintro⟨a,b,ha,hb,z⟩
     rw[ei] at ha;rw[ej] at hb;cases ha;cases hb
     exact z
    ·exact λz=>⟨_,_,ei,ej,z⟩
   by_cases hc:Ah al row[i].nm row[i+1+m].nm
   ·rw[X0 hc]
    exact jf ⟨_,vs,rfl,s3,k1,by rw[GJ _ _ _ _ (j2.mpr hc)];exact k2⟩
   ·rw[aaq hc]
    refine lL ?_
    refine⟨_,rfl,.inl ⟨rfl,_,gN.of k1⟩,_,rfl,_,rfl,L2.jL,λt ht=>?_⟩
    have ntr:r≠t:=gr k1 ht
    refine⟨r,vs,_,rfl,rfl,by rw[d_ ntr];exact k1,by omega,?_⟩
    refine⟨_,vs++[.ref t],rfl,(s3.new ht).upd tK,b_,?_⟩
    rw[IW _ _ _ _ (λz=>hc (j2.mp z)),<-aa5]
    refine ig (Paired.i3 k2 λa v ⟨b,e,hb⟩=>⟨b,e,?_⟩) ⟨t,rfl,?_⟩
    ·rw[d_ (iR hb k1 (by intro z;cases z)),d_ (gr hb ht)];exact hb
    ·rw[d_ ntr.symm,b_]
  ·rintro Z H3 ⟨v3,vs,rfl,s3,k1,k2⟩
   exact⟨_,_,vs,rfl,s3,k1,by rw[B_];exact k2⟩
 ·rintro Z H2 ⟨v2,v3,vs,rfl,s2,k1,k2⟩
  exact⟨_,rfl,q r H2 vs s2 tK k1 (by rw[K9] at k2;exact k2)⟩
theorem GB.upd{H:Hp}{v:V}{n:Option Nm}{x:Addr}{o o':HO}(h:GB H v n)(hx:H x=some o')(ht:∀xs,o'≠.tup xs):GB (L2.upd H x o) v n:=by
 cases n with
 | none=>exact h
 | some n=>exact lI.upd h hx ht
theorem mH.upd{A:Ad}{H:Hp}{a:Addr}{l:Ln}{x:Addr}{o o':HO}(h:mH A H a l)(hx:H x=some o')(ht:∀xs,o'≠.tup xs)(hi:∀C dx fs,o'≠.ins C dx fs):mH A (L2.upd H x o) a l:=by
 obtain⟨dx,vn,vu,vl,h0,h1,h2,h3⟩:=h
 exact⟨dx,vn,vu,vl,by rw[d_ (iR h0 hx (λz=>hi _ _ _ z.symm))];exact h0,h1.upd hx ht,h2.upd hx ht,h3.upd hx ht⟩
theorem Av{A:Ad}{H:Hp}{as:List Addr}{ls:List Ln}(p:Paired (mH A H) as ls){i:Nat}{l:Ln}(h:ls[i]?=some l):∃b,(as.map V.ref)[i]?=some (.ref b)/\mH A H b l:=by
 obtain⟨b,hb,z⟩:=iq p h
 exact⟨b,by rw[aao,hb];rfl,z⟩
def Bn(p:Pt)(k:Nat):List (Option Nm):=p.js.map some++(p.iw.take k).flatMap λl=>[l.up,l.lo]
theorem named_eq(p:Pt):named p=(Bn p p.iw.length).filterMap id:=by
 unfold named Bn
 rw[aaE,abX,List.filterMap_map]
 congr 1
 ·induction p.js with
  | nil=>rfl
  | cons x r ih=>rw[abE];show _=x::_;rw[<-ih]
 ·induction p.iw with
  | nil=>rfl
  | cons x r ih=>
   rw[aaW,aaW,abX,ih]
   congr 1
   cases x.up<;>cases x.lo<;>rfl
theorem Aw(p:Pt)(k:Nat):(Bn p k).length<=p.js.length+2*k:=by
 unfold Bn
 rw[YO,O7]
 have:∀(ls:List Ln),(ls.flatMap λl=>[l.up,l.lo]).length=2*ls.length:=λls=>by
  induction ls with
  | nil=>rfl
  | cons x r ih=>rw[aaW,YO,ih];simp only [aai,List.length_nil];omega
 rw[this,aaP]
 omega
def Nw(A:Ad):Sp:=λvs H Q _=>∃(a:Addr)(p:Pt),vs=[.ref a]/\oq A H a p/\xq p.iw.length/\xq p.js.length/\∀r H',gv H H'->H r=none->vU H' r (named p)->Q (.ref r) H'
theorem vZ(T:Txt mg)(O:Ok K mg A):ie P w K mg base mL 1 A.pO A.pP ["patch"] (Nw A):=by
 refine O.su.f.rB ky λjt A0 outer s H vs Q E hr h=>?_
 obtain⟨a,p,rfl,⟨dx,vf,pu,cu,vo,g1,g2,⟨as,g3,UX⟩,⟨cs,g4,Sr⟩,g5⟩,G5,FA,q⟩:=h
 have hlen:=aav UX
 have Mt:=aav Sr
 have Pg:p.iw.length<=4000:=G5
 have L3:p.js.length<=4000:=FA
 have sz:sizeLine=16777216:=aaQ
 refine⟨_,(de (kZ 1 ky (wH vb (by rfl) T.xm ab9 (a_ (gL (pv 0) rfl) e_)))
   (de (iD aaN rfl (ic (gL (pv 0) rfl)) (tM 2 ky) (de (hU (pC aa2 aba abb kl (pv 1) (a_ (gL (pv 2) rfl) e_)))
   (f_ (hU (pC aa2 aba abb kl (pv 1) (a_ (gL (pv 2) rfl) e_))))))
   (f_ (hE (zF pJ (gp kP).names [3] rfl (ic (pv 1)) rfl (by decide+kernel) (λ_ _ _ _=>(ir (i:=3) ky.nd rfl (Or.inl rfl))) (λ_ _ _ _=>⟨_,nN (ju (tf (pv 3))),by(try simp only [kL]);rfl⟩) (λ_ _ _ _=>zc (pv 3))))))),?_⟩
 refine Ey ?_;intro _ _
 refine⟨_,rfl,a,A.gT,dx,_,_,rfl,g1,O.jm,O.jO,E7,cu,cs,rfl,.inl (gN.of g4),λl hl=>?_⟩
 have s1:gv H (upd H l (.lst cs)):=(gv.refl H).new hl
 dsimp only [lA];refine JA ?_;intro _
 let Jv:=λ(i:Nat) (Z:St) (H2:Hp)=>∃(v:Option V)(xs:List V),Z=[rr a,rr l,v,none]/\gv H H2/\H2 l=some (.lst xs)/\Paired (GB H) xs (Bn p i)
 refine⟨_,rfl,a,A.gT,dx,_,_,rfl,s1 _ _ g1,O.jm,O.jN,E6,pu,rfl,⟨_,gN.of (s1 _ _ g3)⟩,iU (K:=K) (a:=pu) (xs:=as.map V.ref) Jv
  ⟨none,cs,rfl,s1,b_,?_⟩ (by rintro _ _ _ _ ⟨_,_,_,s2,_⟩;exact gN.of (s2 _ _ g3)) ?_ ?_⟩
 ·unfold Bn
  rw[abV,ab0,aa0]
  clear Mt L3 FA q g4 s1
  generalize p.js=ms at Sr
  induction Sr with
  | nil=>exact .nil
  | cons f t ih=>exact .cons f ih
 ·rintro i v Z H2 hx ⟨v0,xs,rfl,s2,h1,h2⟩
  obtain⟨b,hb,rfl⟩:=j9 hx
  obtain⟨ln,tQ,SE,vn,vu,vl,k1,k2,k3,k4⟩:=ib UX hb
  have hi:i<p.iw.length:=(List.getElem?_eq_some_iff.mp tQ).1
  have hxl:xs.length<=p.js.length+2*i:=by rw[aav h2];exact Aw p i
  have e:Bn p (i+1)=Bn p i++[ln.up]++[ln.lo]:=by
   unfold Bn
   rw[take_snoc tQ,abd,aaW,ab0,aa5,aa5]
   rfl
  refine⟨_,rfl,.inl ⟨rfl,_,gN.of h1⟩,_,rfl,b,A.gS,SE,_,_,rfl,s2 _ _ k1,O.iL,O.iF,GD,l,_,_,rfl,rfl,h1,by omega,?_⟩
  have s3:gv H (upd H2 l (.lst (xs++[vu]))):=s2.upd hl
  refine⟨_,rfl,.inl ⟨rfl,_,gN.of b_⟩,_,rfl,b,A.gS,SE,_,_,rfl,s3 _ _ k1,O.iL,O.iG,GF,l,_,_,rfl,rfl,b_,by rw[YO];show xs.length+1<_;omega,?_⟩
  refine⟨_,_,rfl,s3.upd hl,b_,?_⟩
  rw[e]
  exact ig (ig h2 k3) k4
 ·rintro Z H2 ⟨v0,xs,rfl,s2,h1,h2⟩
  have e0:(as.map V.ref).length=p.iw.length:=by rw[O7,hlen]
  rw[e0] at h2
  have hxl:xs.length<=p.js.length+2*p.iw.length:=by rw[aav h2];exact Aw p _
  refine⟨_,rfl,l,rfl,⟨_,gN.of h1⟩,jD (K:=K) (a:=l) (xs:=xs) (by omega) (λi ys Z H4=>∃(v3:Option V),Z=[rr a,rr l,v0,v3]/\H4=H2/\ys.length<=i/\Paired (lI H) ys (((Bn p p.iw.length).take i).filterMap id))
   ⟨none,rfl,rfl,XW _,.nil⟩ (by rintro _ _ _ _ _ ⟨_,_,e,e3,_⟩;subst e;exact⟨gN.of h1,e3⟩) ?_ ?_⟩
  ·rintro i v ys Z H4 hx ⟨v3,rfl,rfl,e3,h6⟩
   obtain⟨o,ho,hv⟩:=ib h2 hx
   refine⟨_,rfl,_,rfl,?_⟩
   rw[take_snoc ho,abX]
   cases o with
   | none=>
    rw[show v=V.jb from hv]
    exact⟨_,rfl,rfl,by omega,by simpa using h6⟩
   | some m=>
    obtain⟨t,rfl,ht⟩:=(show lI H v m from hv)
    exact⟨_,rfl,_,rfl,rfl,OK,ig h6 ⟨t,rfl,ht⟩⟩
  ·rintro ys Z H4 ⟨v3,rfl,rfl,e3,h6⟩ r tK
   rw[aav h2,aaE,<-named_eq] at h6
   have s5:=s2.new (o:=.lst ys) tK
   exact q r _ s5 (s2.free tK) ⟨ys,b_,Paired.i3 h6 λ_ _ z=>z.same s5⟩
def QM(A:Ad):Sp:=λvs H Q _=>∃(a:Addr)(p:Pt),vs=[.ref a]/\oq A H a p/\xq p.iw.length/\xq p.js.length/\∀r H',gv H H'->H r=none->H' r=some (.lst (gw (ij p)))->Q (.ref r) H'
theorem Ca(p:Pt):(named p).length<=p.js.length+2*p.iw.length:=by
 rw[named_eq]
 exact aan (aci _ _) (Aw p _)
theorem sP(T:Txt mg)(O:Ok K mg A):ie P w K mg base mL 2 A.nz A.nA ["patch"] (QM A):=by
 have xF:=@vZ P w K mg base A T O
 refine O.oW.f.rB kF λjt A0 outer s H vs Q E hr h=>?_
 obtain⟨a,p,rfl,pa,G5,FA,q⟩:=h
 obtain⟨dx,vf,pu,cu,vo,g1,g2,g3,g4,g5⟩:=id pa
 have Pg:p.iw.length<=4000:=G5
 have L3:p.js.length<=4000:=FA
 have sz:sizeLine=16777216:=aaQ
 have RC:=Ca p
 refine⟨_,(de (wL (j:=1) nv (gp jR).names [2] kF.nd rfl rfl rfl (ic (oh O.su xF hr (a_ (pv 0) e_))) rfl (by decide+kernel) (λ_ _ _ _=>(ir (i:=2) kF.nd rfl (Or.inl rfl))) (λ_ _ _ _=>⟨_,nN (hV Hl (jo kS (pv 2) gm (λ_ _=>rfl)) (gL (pv 0) rfl) (iA _)),by(try simp only [kL]);rfl⟩) (λ_ _ _ _=>zc (jo kS (pv 2) gm (λ_ _=>rfl))))
   (de (il (ju (tf (gL (pv 0) rfl))) (f_ (hU (pC aa2 aba abb kl (pv 1) (a_ (gL (pv 0) rfl) e_)))) hG)
   (f_ (hE (pv 1))))),?_⟩
 refine Ey ?_;intro _ _
 refine⟨_,rfl,a,p,rfl,pa,G5,FA,λn H1 s1 hn0 ⟨ns,hn1,Rh⟩=>?_⟩
 have Zm:=aav Rh
 let Jv:=λ(i:Nat) (ys:List V) (Z:St) (H4:Hp)=>∃(v2:Option V)(zs:List Str),Z=[rr a,none,v2]/\H4=H1/\ys=gw zs/\zs.length<=i/\zs=(((named p).take i).filter λn=>n.1≠p.nm).map (·.1)
 refine⟨n,rfl,⟨_,gN.of hn1⟩,jD (K:=K) (a:=n) (xs:=ns) (by omega) Jv
  ⟨none,[],rfl,rfl,rfl,XW _,rfl⟩ (by rintro _ _ _ _ _ ⟨_,zs,_,e,e2,e3,_⟩;subst e e2;exact⟨gN.of hn1,by rw[O7];exact e3⟩) ?_ ?_⟩
 ·rintro i v ys Z H4 hx ⟨v2,zs,rfl,rfl,rfl,e3,e4⟩
  obtain⟨m,hm,t,rfl,ht⟩:=ib Rh hx
  have ht0:Gg ((nk m).map kV) 0=some (V.str m.1):=gG (j:=0) rfl rfl
  refine⟨_,rfl,t,_,0,_,rfl,rfl,oy.of ht,ht0,_,rfl,a,A.gT,dx,_,_,rfl,s1 _ _ g1,O.jm,O.iT,sI,rfl,_,rfl,?_⟩
  have ed:decide (V.str m.1=V.str p.nm)=decide (m.1=p.nm):=by
   by_cases e:m.1=p.nm
   ·rw[X0 e,X0 (abe V.str e)]
   ·rw[aaq e,aaq λz=>e (V.str.inj z)]
  rw[ed]
  subst e4
  by_cases e:m.1=p.nm
  ·rw[X0 e]
   refine jf ⟨_,_,rfl,rfl,rfl,by omega,?_⟩
   rw[take_snoc hm,aaI,aaj (by simpa using e)]
   simp
  ·rw[aaq e]
   refine lL ⟨_,rfl,t,_,0,_,rfl,rfl,oy.of ht,ht0,_,_,rfl,rfl,iY _ _,by rw[YO];show _+1<=_;omega,?_⟩
   rw[take_snoc hm,aaI,YS (by simpa using e)]
   simp
 ·rintro ys Z H4 ⟨v2,zs,rfl,rfl,rfl,e3,e4⟩ r tK
  rw[Zm,aaE] at e4
  have s5:=s1.new (o:=.lst (gw zs)) tK
  refine⟨_,rfl,a,A.gT,dx,_,_,rfl,s5 _ _ g1,O.jm,O.iV,tG,_,rfl,?_⟩
  unfold ij at q
  rw[<-e4] at q
  cases ho:p.other with
  | none=>
   rw[ho] at g5 q
   rw[show vo=V.jb from g5]
   exact⟨_,rfl,q r _ s5 (s1.free tK) (by rw[b_];simp)⟩
  | some x=>
   rw[ho] at g5 q
   rw[show vo=V.str x from g5] at g1 ⊢
   refine⟨_,rfl,.inl ⟨rfl,_,gN.of b_⟩,_,rfl,a,A.gT,dx,_,_,rfl,s5 _ _ g1,O.jm,O.iV,tG,r,_,_,rfl,rfl,b_,by rw[O7];omega,?_⟩
   exact⟨_,rfl,q r _ (s5.upd (s1.free tK)) (s1.free tK) (by rw[b_];show _=some (HO.lst (gw (zs++[x])));rw[<-iY])⟩
def Ua(H:Hp)(a:Addr)(kn:Nat->Option Nm):Prop:=∃kvs:List (Key×V),H a=some (.dK kvs)/\∀s:Nat,match kn s with|some m=>∃v,iN kvs (Sum.inl (s:Int))=some v/\lI H v m|none=>iN kvs (Sum.inl (s:Int))=none
def Yf:Sp:=λvs H Q _=>∃(a:Addr)(n:Nat)(kn:Nat->Option Nm),vs=[.ref a,.int n]/\Ua H a kn/\n<=4000/\∀p H' xs,gv H H'->H p=none->H' p=some (.lst xs)->xs.length=n->(∀i v,xs[i]?=some v->GB H v (Hw kn (n-1-i) i))->Q (.ref p) H'
theorem Ax(T:Txt mg)(O:Ok K mg A):ie P w K mg base mL 1 A.t_ A.ub ["kept_names","size"] Yf:=by
 refine O.yE.f.rB nZ λjt A0 outer s H vs Q E hr h=>?_
 obtain⟨a,n,kn,rfl,⟨kvs,h1,h2⟩,hn,q⟩:=h
 have sz:sizeLine=16777216:=aaQ
 refine⟨_,(de (kZ 2 nZ (gD Gm (iB (a_ uj e_)) (pv 1)))
   (de (iD aaN rfl (wM rfl T.ll (a_ (gD Cu (pv 1) gm) (a_ (xP rG gm) (a_ (xP rG gm) e_)))) (tM 3 nZ) (f_ (wC (JZ (by exact iS hr) (pv 0) (gD iy (pv 3) gm) (kJ (pv 2) (gD iy (pv 3) gm)) ⟨rfl,rfl,rfl,rfl⟩) (wB (pv 2) (pv 3) set_list))))
   (f_ (hE (pv 2))))),?_⟩
 refine Ey ?_;intro _ _
 refine⟨L2.jL,λl hl=>?_⟩
 refine⟨_,rfl,l,_,_,rfl,rfl,b_,by omega,by omega,by simp;omega,λp hp=>?_⟩
 have nK:p≠l:=λz=>by rw[z,b_] at hp;cases hp
 have D3:H p=none:=by rw[d_ nK] at hp;exact hp
 have e0:(List.replicate (n:Int).toNat [V.jb]).flatten=List.replicate n V.jb:=by
  rw[abQ]
  clear q hn
  induction n with
  | zero=>rfl
  | succ n ih=>rw[abq,acf,ih,abq];rfl
 rw[e0]
 have s1:gv H (upd (upd H l (.lst [V.jb])) p (.lst (List.replicate n V.jb))):=((gv.refl H).upd hl).upd D3
 refine⟨_,rfl,_,_,rfl,rfl,_,rfl,_,rfl,_,_,rfl,⟨by omega,by omega,by omega,by omega⟩,?_⟩
 rw[show((n:Int)-2 - -1).toNat=n-1 by omega]
 let Jv:=λ(m:Nat) (Z:St) (H2:Hp)=>∃(v:Option V)(xs:List V),Z=[rr a,ri n,rr p,v]/\gv H H2/\H2 p=some (.lst xs)/\xs.length=n/\∀i v,xs[i]?=some v->n-1<=i+m->GB H v (Hw kn (n-1-i) i)
 refine uq Jv ⟨none,_,rfl,s1,b_,by simp,λi v hv hi=>?_⟩ ?_ ?_
 ·have j2:i<n:=by have:=(List.getElem?_eq_some_iff.mp hv).1;simpa using this
  have:v=V.jb:=by
   have:=XZ hv
   exact List.eq_of_mem_replicate this
  rw[this,show n-1-i=0 by omega]
  exact rfl
 ·rintro m Z H2 hm ⟨v0,xs,rfl,s2,k1,k2,k3⟩
  obtain⟨j,hj⟩:∃j,j+m+2=n:=⟨n-2-m,by omega⟩
  rw[show(n:Int)-2+(m:Int) * -1=(j:Int) by omega]
  have hx:xs[j+1]?=some xs[j+1]:=UR (by omega)
  refine⟨_,rfl,a,rfl,.inl ⟨_,.inl (s2 _ _ h1)⟩,_,rfl,_,_,rfl,rfl,_,rfl,_,rfl,_,_,rfl,rfl,p,_,_,_,rfl,rfl,gN.of k1,gG (j:=j+1) (by omega) hx,_,i5.k (k:=Sum.inl ((j:Int)+1)) (s2 _ _ h1),?_⟩
  refine⟨_,rfl,_,rfl,p,_,_,j,rfl,rfl,k1,wU rfl (by omega),?_⟩
  refine⟨_,_,rfl,s2.upd D3,b_,by rw[acs];exact k2,λi v hv hi=>?_⟩
  by_cases e:i=j
  ·subst e
   rw[abA (by omega)] at hv
   have hv:=aaF hv
   rw[<-hv,show n-1-i=(n-1-(i+1))+1 by omega]
   unfold Hw
   have h3:=h2 (i+1)
   rw[show((i+1:Nat):Int)=(i:Int)+1 by omega] at h3
   cases hk:kn (i+1) with
   | none=>
    rw[hk] at h3
    rw[h3]
    exact k3 (i+1) _ hx (by omega)
   | some mm=>
    rw[hk] at h3
    obtain⟨u,z1,z2⟩:=h3
    rw[z1]
    exact z2
  ·rw[abJ (λz=>e z.symm)] at hv
   exact k3 i v hv (by omega)
 ·rintro Z H2 ⟨v0,xs,rfl,s2,k1,k2,k3⟩
  exact⟨_,rfl,q p H2 xs s2 D3 k1 k2 λi v hv=>k3 i v hv (by omega)⟩
def Yg(K:Qqy)(A:Ad):Sp:=λvs H Q _=>∃(x:Str)(t a:Addr)(texts:List Str)(kn:Nat->Option Nm),vs=[.str x,.ref t,.ref a]/\gN K H t (gw texts)/\(∀H',gv H H'->gN K H' t (gw texts))/\Ua H a kn/\texts.length<=4000/\∀p H',gv H H'->H p=none->om A H' p (ki x texts kn)->Q (.ref p) H'
theorem Dg(T:Txt mg)(O:Ok K mg A):ie P w K mg base mL 3 A.yf A.yg ["patch","texts","kept_names"] (Yg K A):=by
 have BC:=@Ax P w K mg base A T O
 have y6:=@Df P w K mg base A T O
 refine O.B0.f.rB jG λjt A0 outer s H vs Q E hr h=>?_
 obtain⟨x,t,a,texts,kn,rfl,_,ht,hkn,hn,q⟩:=h
 have sz:sizeLine=16777216:=aaQ
 have et:((gw texts).length:Int)=(texts.length:Int):=by simp
 obtain⟨kvs,h1,h2⟩:=id hkn
 refine⟨_,(de (kZ 3 jG (oh O.yE BC hr (a_ (pv 2) (a_ (gK gE (by rfl) T.jw aaM (a_ (pv 1) e_)) e_))))
   (de (kZ 4 jG (iB e_))
   (de (kZ 5 jG uj)
   (de (iD aaN rfl (M7 rfl T.EY (a_ (pv 1) e_)) (JI rfl (uU (tM 6 jG) (uU (tM 7 jG) Hh))) (f_ (il (ju (o4 (by exact iS hr) (pv 6) (pv 2))) (f_ (kZ 5 jG (zP hr (pv 2) (pv 6)))) (de (hU (pC aa2 aba abb kl (pv 4) (a_ (uZ O.Qy y6 (hr.mono (by decide)) (by rfl) O.Qz O.ue.b .nil pF (a_ (Cw (a_ (pv 0) (a_ (gK gE (by rfl) T.jw aaM (a_ (pv 4) e_)) e_))) (a_ (pv 7) (a_ (pv 5) (a_ (kJ (pv 3) (pv 6)) e_))))) e_)))
   (f_ (kZ 5 jG (gL (kJ (pv 4) (xP rG gm)) rfl)))))))
   (f_ (hE (pv 4))))))),?_⟩
 refine OH ?_;intro _ _ _ _
 refine⟨_,rfl,_,rfl,t,_,rfl,.inl (ht H (gv.refl H)),?_⟩
 rw[et]
 refine⟨a,texts.length,kn,rfl,hkn,hn,λb H1 bs s1 FC Pe O4 U6=>?_⟩
 refine⟨L2.jL,λl hl=>?_⟩
 have YT:H l=none:=s1.free hl
 have s2:gv H1 (upd H1 l (.lst [])):=(gv.refl H1).new hl
 refine⟨_,rfl,t,rfl,⟨_,ht _ (s1.trans s2)⟩,KA (K:=K) (a:=t) (xs:=gw texts) (λi Z H2=>∃(v6 v7:Option V)(vu:V)(u:Option Nm)(as:List Addr)(acc:List Ln),Z=[rs x,rr t,rr a,rr b,rr l,some vu,v6,v7]/\gv H1 H2/\H2 l=some (.lst (as.map V.ref))/\Paired (mH A H2) as acc/\acc.length<=i/\GB H2 vu u/\acc++qw x kn i acc.length u (texts.drop i)=ki x texts kn)
  ⟨none,none,.jb,none,[],[],rfl,s2,b_,.nil,XW _,rfl,rfl⟩ (by rintro _ _ _ _ ⟨_,_,_,_,_,_,_,s3,_⟩;exact ht _ (s1.trans s3)) ?_ ?_⟩
 ·rintro i tv e Z H2 hx ⟨v6,v7,vu,u,as,acc,rfl,s3,k1,k2,k3,k4,k5⟩ he
  obtain⟨tx,htx,rfl⟩:=lP hx
  have hi:i<texts.length:=(List.getElem?_eq_some_iff.mp htx).1
  have hd:texts.drop i=tx::texts.drop (i+1):=by rw[aa7 hi];congr 1;exact(List.getElem?_eq_some_iff.mp htx).2
  have s4:gv H2 (upd H2 e (.tup [.int i,.str tx])):=(gv.refl H2).new he
  have Ph:=s3.trans s4
  rw[hd] at k5
  unfold qw at k5
  refine⟨e,_,rfl,oy.of b_,rfl,_,_,rfl,_,_,rfl,rfl,?_⟩
  refine⟨_,rfl,_,rfl,a,_,rfl,i5.k (k:=Sum.inl (i:Int)) (Ph _ _ (s1 _ _ h1)),_,rfl,?_⟩
  have h3:=h2 i
  cases hk:kn i with
  | some m=>
   rw[hk] at h3 k5
   obtain⟨u',z1,z2⟩:=h3
   rw[z1]
   refine lL ⟨_,rfl,_,rfl,a,u',rfl,?_,?_⟩
   ·have:=i5.k (k:=Sum.inl (i:Int)) (Ph _ _ (s1 _ _ h1))
    rw[z1] at this
    exact this
   ·exact⟨_,_,_,some m,as,acc,rfl,Ph,s4 _ _ k1,Paired.i3 k2 λ_ _ z=>z.same s4,by omega,(z2.same s1).same Ph,k5⟩
  | none=>
   rw[hk] at h3 k5
   rw[h3]
   have Zl:=aav k2
   have el:((as.map V.ref).length:Int)=(acc.length:Int):=by rw[O7,Zl]
   refine jf ⟨_,rfl,.inl ⟨rfl,_,gN.of (s4 _ _ k1)⟩,_,rfl,_,rfl,l,_,rfl,.inl (gN.of (s4 _ _ k1)),?_⟩
   rw[el]
   refine⟨L2.jL,λnt hnt=>?_⟩
   have s5:=Ph.new (o:=.tup [.str x,.int acc.length]) hnt
   obtain⟨bv,hbv⟩:∃bv,bs[i]?=some bv:=⟨_,UR (by omega)⟩
   refine⟨_,rfl,_,rfl,_,rfl,_,rfl,b,_,_,_,rfl,rfl,gN.of (s5 _ _ Pe),gG rfl hbv,?_⟩
   intro o dx no RE Zn
   have RF:gv (upd (upd H2 e (.tup [.int i,.str tx])) nt (.tup [.str x,.int acc.length])) (upd (upd (upd (upd H2 e (.tup [.int i,.str tx])) nt (.tup [.str x,.int acc.length])) dx (.own o)) o (.ins A.gS dx [])):=λc u e=>by
    rw[d_ (gr e no),d_ (gr e RE)]
    exact e
   refine⟨o,dx,_,_,_,_,rfl,b_,λH6 r6 r7=>⟨rfl,?_⟩⟩
   have s6:gv (upd (upd H2 e (.tup [.int i,.str tx])) nt (.tup [.str x,.int acc.length])) H6:=λc u ec=>by
    rw[r6 c (gr ec no)]
    exact RF c u ec
   have Vm:gv H2 H6:=(s4.new hnt).trans s6
   have Vn:=Vm _ _ k1
   have ML:mH A H6 o ⟨(x,acc.length),tx,u,Hw kn (texts.drop (i+1)).length i⟩:=⟨dx,.ref nt,vu,bv,r7,⟨nt,rfl,s6 _ _ b_⟩,k4.same Vm,by
    have:=U6 i bv hbv
    rw[List.length_drop,show texts.length-(i+1)=texts.length-1-i by omega]
    exact(this.same s1).same (s3.trans Vm)⟩
   refine⟨l,_,_,rfl,rfl,Vn,by rw[O7];omega,?_⟩
   have lo:l≠o:=λz=>by rw[z,r7] at Vn;cases Vn
   have e7:upd H6 l (.lst (as.map V.ref++[V.ref o])) l=some (.lst ((as++[o]).map V.ref)):=by rw[b_,aaH];rfl
   have up:∀c ln,mH A H6 c ln->mH A (upd H6 l (.lst (as.map V.ref++[V.ref o]))) c ln:=λc ln z=>z.upd Vn (λ_ z=>by cases z) (λ_ _ _ z=>by cases z)
   have r77:upd H6 l (.lst (as.map V.ref++[V.ref o])) o=some (.ins A.gS dx (Nl (.ref nt) (.str tx) vu bv)):=by rw[d_ lo.symm];exact r7
   refine⟨_,rfl,_,rfl,l,_,_,_,rfl,rfl,gN.of b_,Eo _ _,o,A.gS,dx,_,_,rfl,r77,O.iL,O.gQ,iX,?_⟩
   refine⟨_,_,_,some (x,acc.length),as++[o],acc++[⟨(x,acc.length),tx,u,Hw kn (texts.drop (i+1)).length i⟩],rfl,(s3.trans Vm).upd hl,e7,?_,OK,?_,?_⟩
   ·exact ig (Paired.i3 k2 λc ln z=>up c ln (z.same Vm)) (up _ _ ML)
   ·exact lI.upd ⟨nt,rfl,s6 _ _ b_⟩ Vn (λ_ z=>by cases z)
   ·rw[aa5,YO]
    exact k5
 ·rintro Z H2 ⟨v6,v7,vu,u,as,acc,rfl,s3,k1,k2,k3,k4,k5⟩
  rw[show(gw texts).length=texts.length by simp,acG] at k5
  rw[show qw x kn texts.length acc.length u []=[] from rfl,aa0] at k5
  rw[k5] at k2
  exact⟨_,rfl,q l H2 (s1.trans s3) YT ⟨as,k1,k2⟩⟩
theorem HC{row:List Ln}{q:Nat×Nat}:∀{xs:List (Nat×Nat)},q.2∉xs.map (·.2)->∀s,l6 row (xs++[q]) s=if q.2=s then(row[q.1]?).map (·.nm) else l6 row xs s
 | [],_,s=>rfl
 | x::r,h,s=>by
  rw[aaL] at h
  have h1:q.2≠x.2:=λz=>h (by rw[z];exact aaD)
  have h2:q.2∉r.map (·.2):=λz=>h (aam _ z)
  show(if x.2=s then _ else l6 row (r++[q]) s)=if q.2=s then _ else(if x.2=s then _ else l6 row r s)
  by_cases e:x.2=s
  ·rw[aay e,aaw (λz=>h1 (by rw[z,e])),aay e]
  ·rw[aaw e,aaw e,HC h2 s]
theorem IX{row:List Ln}{q:Nat×Nat}{l:Ln}(xs:List (Nat×Nat))(h:row[q.1]?=some l):qt row (xs++[q])=qt row xs++[l.nm]:=by
 unfold qt
 rw[abX,abE,h]
 rfl
theorem K_(T:Txt mg)(O:Ok K mg A):ie P w K mg base mL 3 A.KQ A.KR ["old","new"] Kp.spK:=
 Kp.Nu O.kept.f ⟨T.jw,T.ll,T.TQ⟩ O.sr.f O.sr.b O.sr.m O.uB.f O.uB.b O.uB.m O.uC.f O.uC.b O.uC.m
def Ub(A:Ad):Sp:=λvs H Q _=>∃(x f:Str)(r t:Addr)(row:List Ln)(texts:List Str),vs=[.str x,.str f,.ref r,.ref t]/\om A H r row/\H t=some (.lst (gw texts))/\row.length<=1000/\texts.length<=1000/\
 ∀p H',gv H H'->H p=none->oq A H' p (jV x f row texts)->Q (.ref p) H'
theorem v_(T:Txt mg)(O:Ok K mg A):ie P w K mg base mL 4 A.pX A.pY ["patch","file","row","texts"] (Ub A):=by
 have RG:=@K_ P w K mg base A T O
 have FD:=@Dg P w K mg base A T O
 have jZ:=@o_ P w K mg base A T O
 refine O.sD.f.rB iI λjt A0 outer s H vs Q E hr h=>?_
 obtain⟨x,f,r,t,row,texts,rfl,BB,ht,hn,hm,q⟩:=h
 obtain⟨as,xG,zp⟩:=id BB
 have hlen:=aav zp
 have sz:sizeLine=16777216:=aaQ
 refine⟨_,(de (kZ 4 iI nM)
   (de (lx (i:=5) iI.nd rfl (Or.inr rfl) mE)
   (de (iD aaN rfl (ic (oh O.kept RG hr (a_ (tT mr (gp jW).names [9] rfl (ic (pv 2)) rfl (by decide+kernel) (λ_ _ _ _=>(ir (i:=9) iI.nd rfl (Or.inl rfl))) (λ_ _ _ _=>lN) (λ_ _ _ _=>zc (gL (pv 9) rfl))) (a_ (pv 3) e_)))) (JI rfl (uU (tM 6 iI) (uU (tM 7 iI) Hh))) (de (jA (by exact iS hr) (pv 4) (pv 7) (gL (kJ (pv 2) (pv 6)) rfl) rfl)
   (f_ (jA (by exact iS hr) (pv 5) (gL (kJ (pv 2) (pv 6)) rfl) j_ rfl))))
   (de (wL (j:=8) mr (gp jW).names [9] iI.nd rfl rfl rfl (ic (pv 2)) rfl (by decide+kernel) (λ_ _ _ _=>(ir (i:=9) iI.nd rfl (Or.inl rfl))) (λ_ _ _ _=>⟨_,nN (ju (lC (by exact iS hr) (gL (pv 9) rfl) (pv 5))),by(try simp only [kL]);rfl⟩) (λ_ _ _ _=>zc (gL (pv 9) rfl)))
   (f_ (hE (uZ O.C4 jZ (hr.mono (by decide)) (by rfl) O.C5 O.lZ.b .nil pF (a_ (pv 0) (a_ (pv 1) (a_ (oh O.B0 FD hr (a_ (pv 0) (a_ (pv 3) (a_ (pv 4) e_)))) (a_ (pv 8) (a_ uj e_)))))))))))),?_⟩
 refine OH ?_;intro _ _ _ _
 intro k SF g WS
 have Zo:k≠g:=λz=>by rw[<-z,b_] at WS;cases WS
 have hgH:H g=none:=(gv.refl H |>.new (o:=.dK []) SF).free WS
 have s1:gv H (upd (upd H k (.dK [])) g (.dT [])):=((gv.refl H).new SF).new WS
 have Vo:(upd (upd H k (.dK [])) g (.dT [])) k=some (.dK []):=by rw[d_ Zo];exact b_
 have O3:(upd (upd H k (.dK [])) g (.dT [])) g=some (.dT []):=b_
 generalize upd (upd H k (.dK [])) g (.dT [])=H1 at s1 Vo O3
 have N_:(as.map V.ref).length<=sizeLine:=by rw[O7,hlen];omega
 let Jv:=λ(i:Nat) (ys:List V) (Z:St) (H4:Hp)=>∃(v9:Option V),Z=[rs x,rs f,rr r,rr t,rr k,rr g,none,none,none,v9]/\H4=H1/\ys=gw ((row.take i).map (·.tx))
 refine⟨_,rfl,r,rfl,⟨_,gN.of (s1 _ _ xG)⟩,jD (K:=K) (a:=r) (xs:=as.map V.ref) N_ Jv
  ⟨none,rfl,rfl,rfl⟩ (by rintro _ _ _ _ _ ⟨_,_,e,e2⟩;subst e e2;exact⟨gN.of (s1 _ _ xG),by rw[O7,O7,aaP];omega⟩) ?_ ?_⟩
 ·rintro i v ys Z H4 hx ⟨v9,rfl,rfl,rfl⟩
  obtain⟨b,hb,rfl⟩:=j9 hx
  obtain⟨ln,tQ,dx,vn,vu,vl,k1,k2,k3,k4⟩:=ib zp hb
  refine⟨_,rfl,b,A.gS,dx,_,_,rfl,s1 _ _ k1,O.iL,O.jJ,Ar,_,rfl,rfl,?_⟩
  rw[take_snoc tQ,aaH,iY]
  rfl
 ·rintro ys Z H4 ⟨v9,rfl,rfl,rfl⟩ o WT
  rw[O7,hlen,aaE]
  have s2:gv H4 (upd H4 o (.lst (gw (row.map (·.tx))))):=(gv.refl H4).new WT
  refine⟨_,rfl,row.map (·.tx),texts,o,t,rfl,b_,s2 _ _ (s1 _ _ ht),by rw[O7];exact hn,hm,λpr H5 ps s5 Jw Vp RH=>?_⟩
  have Vq:gv H4 H5:=s2.trans s5
  have s05:gv H H5:=s1.trans Vq
  have rise:=pI (row.map (·.tx)) texts
  rw[O7] at rise
  have Zp:(K01.kept (row.map (·.tx)) texts).length<=1000:=by
   rw[K01.xX]
   have:=K01.EG (row.map (·.tx)) texts
   rw[O7] at this
   omega
  generalize Zq:K01.kept (row.map (·.tx)) texts=qs at RH rise Zp
  have H_:=aav RH
  let Jv:=λ(i:Nat) (Z:St) (H6:Hp)=>∃(v6 v7:Option V)(kk:List (Key×V))(kg:List (List Key×V)),Z=[rs x,rs f,rr r,rr t,rr k,rr g,v6,v7,none,none]/\(∀b o,H5 b=some o->b≠k->b≠g->H6 b=some o)/\H6 k=some (.dK kk)/\kk.length<=i/\(∀s:Nat,match l6 row (qs.take i) s with|some m=>∃v,iN kk (Sum.inl (s:Int))=some v/\lI H v m|none=>iN kk (Sum.inl (s:Int))=none)/\H6 g=some (.dT kg)/\kg.length<=i/\Sb kg (qt row (qs.take i))
  refine⟨pr,rfl,⟨_,gN.of Vp⟩,iU (K:=K) (a:=pr) (xs:=ps) Jv
   ⟨none,none,[],[],rfl,λb o e _ _=>e,Vq _ _ Vo,XW _,(λs=>by rw[abV];exact rfl),Vq _ _ O3,XW _,(λn=>rfl)⟩ (by rintro _ _ _ _ ⟨_,_,_,_,_,e,_⟩;exact gN.of (e _ _ Vp (λz=>by rw[z] at Jw;rw[s2 _ _ Vo] at Jw;cases Jw) (λz=>by rw[z] at Jw;rw[s2 _ _ O3] at Jw;cases Jw))) ?_ ?_⟩
  ·rintro i v Z H6 hx ⟨v6,v7,kk,kg,rfl,e1,e2,e3,e4,e5,e6,e7⟩
   obtain⟨qq,hq,pt,rfl,Mv⟩:=iq RH hx
   have Zr:H5 k=some (.dK []):=Vq _ _ Vo
   have Zs:H5 g=some (.dT []):=Vq _ _ O3
   have hi:i<qs.length:=(List.getElem?_eq_some_iff.mp hq).1
   obtain⟨Pe,JE⟩:=rise.2 qq (XZ hq)
   obtain⟨b,SD,ln0⟩:=Av zp (UR Pe)
   have Dy:row[qq.1]?=some row[qq.1]:=UR Pe
   generalize row[qq.1]=ln at ln0 Dy
   obtain⟨dx,vn,vu,vl,z1,⟨nt,rfl,z2⟩,z3,z4⟩:=ln0
   have up:∀{b o},H b=some o->H6 b=some o:=λ{b o} e=>e1 b o (s05 _ _ e) (λz=>by rw[z,SF] at e;cases e) (λz=>by rw[z,hgH] at e;cases e)
   refine⟨pt,_,rfl,oy.of (e1 _ _ Mv (iR Mv Zr (λz=>by cases z)) (iR Mv Zs (λz=>by cases z))),rfl,_,_,rfl,_,_,rfl,rfl,?_⟩
   refine⟨_,rfl,_,rfl,r,_,_,_,rfl,rfl,gN.of (up xG),gG rfl SD,b,A.gS,dx,_,_,rfl,up z1,O.iL,O.gQ,iX,_,rfl,_,rfl,k,_,rfl,nF.k (k:=Sum.inl (qq.2:Int)) e2 (by omega),?_⟩
   have Zt:∀{b o},H b=some o->upd H6 k (.dK (putK kk (Sum.inl (qq.2:Int)) (V.ref nt))) b=some o:=λ{b o} e=>by rw[d_ (λz=>by rw[z,SF] at e;cases e)];exact up e
   have N6:=jq kk (Sum.inl (qq.2:Int):Key) (V.ref nt)
   have FR:=jq kg (nk ln.nm) (V.bl true)
   refine⟨_,rfl,_,rfl,_,rfl,r,_,_,_,rfl,rfl,gN.of (Zt xG),gG rfl SD,b,A.gS,dx,_,_,rfl,Zt z1,O.iL,O.gQ,iX,g,_,rfl,nF.t (k:=nk ln.nm) (by rw[d_ Zo.symm];exact e5) (Zt z2) (by omega),?_⟩
   have Oc:qq.2∉(qs.take i).map (·.2):=λz=>by
    obtain⟨w1,Zu,ew⟩:=List.mem_map.mp z
    obtain⟨j,hj⟩:=aaU.mp Zu
    have Ju:j<i:=by have:=(List.getElem?_eq_some_iff.mp hj).1;rw[aaP] at this;omega
    rw[acb,aay Ju] at hj
    obtain⟨hj1,hj2⟩:=List.getElem?_eq_some_iff.mp hj
    have:=aa8.mp rise.1 j i hj1 hi Ju
    rw[hj2,(List.getElem?_eq_some_iff.mp hq).2] at this
    omega
   refine⟨_,_,_,_,rfl,λb o e nk ng=>?_,by rw[d_ Zo];exact b_,by omega,λs=>?_,b_,by omega,?_⟩
   ·rw[d_ ng,d_ nk];exact e1 b o e nk ng
   ·rw[take_snoc hq,HC Oc,kc]
    by_cases es:qq.2=s
    ·subst es
     rw[aay rfl,aay rfl,Dy]
     exact⟨_,rfl,nt,rfl,z2⟩
    ·rw[aaw es,aaw (λz=>es (by have:=Sum.inl.inj z;omega))]
     exact e4 s
   ·rw[take_snoc hq,IX _ Dy]
    exact e7.put ln.nm _
  ·rintro Z H6 ⟨v6,v7,kk,kg,rfl,e1,e2,e3,e4,e5,e6,e7⟩
   rw[<-H_,aaE] at e4 e7
   have up:∀{b o},H b=some o->H6 b=some o:=λ{b o} e=>e1 b o (s05 _ _ e) (λz=>by rw[z,SF] at e;cases e) (λz=>by rw[z,hgH] at e;cases e)
   have sH6:gv H H6:=λb o e=>up e
   refine⟨_,rfl,r,rfl,⟨_,gN.of (up xG)⟩,jD (K:=K) (a:=r) (xs:=as.map V.ref) N_ (λi ys Z H4=>∃(v9:Option V),Z=[rs x,rs f,rr r,rr t,rr k,rr g,v6,v7,none,v9]/\H4=H6/\ys.length<=i/\Paired (lI H) ys (((row.take i).filter λl=>l.nm∉qt row qs).map (·.nm)))
    ⟨none,rfl,rfl,XW _,.nil⟩ (by rintro _ _ _ _ _ ⟨_,_,e,e20,_⟩;rw[e];exact⟨gN.of (up xG),e20⟩) ?_ ?_⟩
   ·rintro i v ys Z H7 hx ⟨v9,rfl,rfl,e8,e9⟩
    obtain⟨b,hb,rfl⟩:=j9 hx
    obtain⟨ln,tQ,dx,vn,vu,vl,k1,⟨nt,rfl,k2⟩,k3,k4⟩:=ib zp hb
    refine⟨_,rfl,b,A.gS,dx,_,_,rfl,up k1,O.iL,O.gQ,iX,_,rfl,g,_,rfl,i5.t (k:=nk ln.nm) e5 (up k2),_,rfl,?_⟩
    rw[e7 ln.nm,take_snoc tQ,aaI,aaH]
    by_cases qS:ln.nm∈qt row qs
    ·rw[X0 qS]
     refine jf ⟨_,rfl,rfl,by omega,?_⟩
     rw[aaj (by simpa using qS),aa3,List.map_nil,aa0]
     exact e9
    ·rw[aaq qS]
     refine lL ⟨_,rfl,b,A.gS,dx,_,_,rfl,up k1,O.iL,O.gQ,iX,_,rfl,rfl,OK,?_⟩
     rw[YS (by simpa using qS),aa3]
     exact ig e9 ⟨nt,rfl,k2⟩
   ·rintro ys Z H7 ⟨v9,rfl,rfl,e8,e9⟩ c SG
    rw[O7,hlen,aaE] at e9
    have s8:=sH6.new (o:=.lst ys) SG
    have Za:c≠k:=λz=>by rw[z,e2] at SG;cases SG
    refine⟨_,rfl,_,rfl,_,rfl,_,rfl,_,rfl,x,t,k,texts,l6 row qs,rfl,gN.of (s8 _ _ ht),λH' s'=>gN.of (s' _ _ (s8 _ _ ht)),⟨kk,by rw[d_ Za.symm];exact e2,λs=>?_⟩,by omega,λpu H9 s9 hpu0 Zv=>?_⟩
    ·have:=e4 s
     cases ek:l6 row qs s with
     | none=>rw[ek] at this;exact this
     | some m=>rw[ek] at this;obtain⟨v,w1,w2⟩:=this;exact⟨v,w1,w2.same s8⟩
    ·refine⟨_,rfl,?_⟩
     intro o dx no RE Zn
     refine⟨o,dx,_,_,_,_,_,rfl,b_,λy8 r6 r7=>⟨rfl,?_⟩⟩
     have FT:gv H9 y8:=λc u ec=>by
      rw[r6 c (gr ec no),d_ (gr ec no),d_ (gr ec RE)]
      exact ec
     have Vr:=(s8.trans s9).trans FT
     refine q o y8 Vr ((s8.trans s9).free no) ?_
     unfold jV
     rw[Zq]
     exact⟨dx,_,pu,c,.jb,r7,rfl,Zv.same FT,⟨ys,FT _ _ (s9 _ _ b_),Paired.i3 e9 λ_ _ z=>z.same Vr⟩,rfl⟩
def l9:Str:=Str.ofString "abcdefghijklmnopqrstuvwxyz0123456789"
def Good(x:Str):Prop:=1<=x.length/\x.length<=12/\∀c∈x.cps.toList,c∈l9.cps.toList
def kU(x:Str):Prop:=(reprText x).length<=1048576/\x.length<=1000
abbrev sk(x:Str):Key:=Sum.inr x
theorem Ay{x:Str}{l:List Str}:sk x∈l.map sk↔x∈l:=by
 constructor
 ·intro h
  obtain⟨m,hm,e⟩:=List.mem_map.mp h
  rw[<-acH e];exact hm
 ·exact λh=>aaf h
theorem kq{dk:List (Key×V)}{l:List Str}(h:dk.map (·.1)=l.map sk):dk.length=l.length:=by
 have:=abe List.length h
 rwa [O7,O7] at this
theorem xt{dk:List (Key×V)}{l:List Str}(h:dk.map (·.1)=l.map sk){i:Nat}{k:Key}{v:V}(hi:dk[i]?=some (k,v)):∃x,l[i]?=some x/\k=sk x:=by
 have h1:(dk.map (·.1))[i]?=some k:=by rw[aao,hi];rfl
 rw[h,aao] at h1
 obtain⟨n,e,e2⟩:=Option.map_eq_some_iff.mp h1
 exact⟨n,e,e2.symm⟩
theorem ku{dk:List (Key×V)}{l:List Str}(h:dk.map (·.1)=l.map sk)(x:Str):(iN dk (sk x)).isSome=decide (x∈l):=by
 by_cases m:x∈l
 ·rw[X0 m];exact tH.mpr (by rw[h];exact Ay.mpr m)
 ·rw[aaq m,ab3];exact λz=>m (Ay.mp (by rw[<-h];exact tH.mp z))
theorem p_{dk:List (Key×V)}{l:List Str}(h:dk.map (·.1)=l.map sk){x:Str}(hx:x∉l)(v:V):(putK dk (sk x) v).map (·.1)=(l++[x]).map sk:=by
 rw[p8,h,aaw (λz=>hx (Ay.mp z)),aaH];rfl
def A7(m n h:Addr):List (Str×V):=[("made",.ref m),("needs",.ref n),("held",.ref h)]
theorem QN(m n h:Addr):jC "held" (.ref h) (jC "needs" (.ref n) (jC "made" (.ref m) []))=A7 m n h:=by kernel_rfl
theorem k9(m n h:Addr):(A7 m n h).lookup ("held":Str)=some (V.ref h):=by kernel_rfl
theorem qb(m n h:Addr):(A7 m n h).lookup ("made":Str)=some (V.ref m):=by kernel_rfl
theorem tI(m n h:Addr):(A7 m n h).lookup ("needs":Str)=some (V.ref n):=by kernel_rfl
structure Dp where
 dx:Addr
 m:Addr
 n:Addr
 h:Addr
 ha:Str->Addr
 kM:List (Key×V)
 kN:List (Key×V)
 kH:List (Key×V)
structure ON(A:Ad)(H:Hp)(d:Addr)(D:Dk)(W:Addr->Prop)(Y:Dp):Prop where
 hd:H d=some (.ins A.gB Y.dx (A7 Y.m Y.n Y.h))
 hm:H Y.m=some (.dK Y.kM)
 hn:H Y.n=some (.dK Y.kN)
 hh:H Y.h=some (.dK Y.kH)
 mn:Y.m≠Y.n
 mh:Y.m≠Y.h
 nh:Y.n≠Y.h
 wm:W Y.m
 wn:W Y.n
 wh:W Y.h
 km:Y.kM.map (·.1)=D.names.map sk
 vm:∀p∈D.made,∃a,iN Y.kM (sk p.nm)=some (.ref a)/\oq A H a p
 kn:Y.kN.map (·.1)=D.names.map sk
 vn:∀x∈D.names,∃(a:Addr)(kv:List (Key×V))(l:List Str),iN Y.kN (sk x)=some (.ref a)/\¬W a/\H a=some (.dK kv)/\kv.map (·.1)=l.map sk/\l.Nodup/\∀y,y∈l↔y∈D.iE x
 kh:Y.kH.map (·.1)=D.stores.map sk
 vh:∀s∈D.stores,iN Y.kH (sk s)=some (.ref (Y.ha s))/\W (Y.ha s)/\Y.ha s≠Y.m/\Y.ha s≠Y.n/\Y.ha s≠Y.h/\∃kv:List (Key×V),H (Y.ha s)=some (.dK kv)/\kv.map (·.1)=(D.held s).map sk
 inj:∀s∈D.stores,∀t∈D.stores,Y.ha s=Y.ha t->s=t
 dk:∀b,W b->∃kv,H b=some (.dK kv)
def ia(A:Ad)(H:Hp)(d:Addr)(D:Dk)(W:Addr->Prop):Prop:=∃Y,ON A H d D W Y
theorem ON.same{A:Ad}{H H':Hp}{d:Addr}{D:Dk}{W:Addr->Prop}{Y:Dp}(x:ON A H d D W Y)(s:gv H H'):ON A H' d D W Y where
 hd:=s _ _ x.hd
 hm:=s _ _ x.hm
 hn:=s _ _ x.hn
 hh:=s _ _ x.hh
 mn:=x.mn
 mh:=x.mh
 nh:=x.nh
 wm:=x.wm
 wn:=x.wn
 wh:=x.wh
 km:=x.km
 vm:=λp hp=>by obtain⟨a,h1,h2⟩:=x.vm p hp;exact⟨a,h1,h2.same s⟩
 kn:=x.kn
 vn:=λy hy=>by obtain⟨a,kv,l,h1,h2,h3,h4⟩:=x.vn y hy;exact⟨a,kv,l,h1,h2,s _ _ h3,h4⟩
 kh:=x.kh
 vh:=λt ht=>by obtain⟨h1,h2,h3,h4,h5,kv,h6,h7⟩:=x.vh t ht;exact⟨h1,h2,h3,h4,h5,kv,s _ _ h6,h7⟩
 inj:=x.inj
 dk:=λb hb=>by obtain⟨kv,h⟩:=x.dk b hb;exact⟨kv,s _ _ h⟩
theorem ia.same{A:Ad}{H H':Hp}{d:Addr}{D:Dk}{W:Addr->Prop}(x:ia A H d D W)(s:gv H H'):ia A H' d D W:=by
 obtain⟨Y,x⟩:=x
 exact⟨Y,x.same s⟩
def oX(W:Addr->Prop)(H H':Hp):Prop:=∀b o,H b=some o->¬W b->H' b=some o
theorem oX.of{W:Addr->Prop}{H H':Hp}(s:gv H H'):oX W H H':=λb o e _=>s b o e
theorem ia.lst{A:Ad}{H:Hp}{d a:Addr}{D:Dk}{W:Addr->Prop}{xs:List V}(x:ia A H d D W)(h:H a=some (.lst xs)):¬W a:=λz=>by
 obtain⟨Y,x⟩:=x
 obtain⟨kv,e⟩:=x.dk a z
 rw[h] at e;cases e
theorem ia.tup{A:Ad}{H:Hp}{d a:Addr}{D:Dk}{W:Addr->Prop}{xs:List V}(x:ia A H d D W)(h:H a=some (.tup xs)):¬W a:=λz=>by
 obtain⟨Y,x⟩:=x
 obtain⟨kv,e⟩:=x.dk a z
 rw[h] at e;cases e
theorem ia.jb{A:Ad}{H:Hp}{d a:Addr}{D:Dk}{W:Addr->Prop}(x:ia A H d D W)(h:H a=none):¬W a:=λz=>by
 obtain⟨Y,x⟩:=x
 obtain⟨kv,e⟩:=x.dk a z
 rw[h] at e;cases e
theorem jy{m n h:Addr}:(A7 m n h).lookup ("check_store":Str)=none:=by kernel_rfl
theorem qN{m n h:Addr}:(A7 m n h).lookup ("check_new":Str)=none:=by kernel_rfl
theorem pb{m n h:Addr}:(A7 m n h).lookup ("check_held":Str)=none:=by kernel_rfl
theorem Bo{m n h:Addr}:(A7 m n h).lookup ("check_made":Str)=none:=by kernel_rfl
theorem Dh{m n h:Addr}:(A7 m n h).lookup ("keep":Str)=none:=by kernel_rfl
theorem qO{m n h:Addr}:(A7 m n h).lookup ("has":Str)=none:=by kernel_rfl
theorem Bp{m n h:Addr}:(A7 m n h).lookup ("patches_of":Str)=none:=by kernel_rfl
theorem oY{m n h:Addr}:(A7 m n h).lookup ("sight_of":Str)=none:=by kernel_rfl
theorem GK{m n h:Addr}:(A7 m n h).lookup ("row":Str)=none:=by kernel_rfl
theorem sQ{m n h:Addr}:(A7 m n h).lookup ("quarrels":Str)=none:=by kernel_rfl
theorem La{m n h:Addr}:(A7 m n h).lookup ("leans":Str)=none:=by kernel_rfl
theorem Lb{m n h:Addr}:(A7 m n h).lookup ("begin":Str)=none:=by kernel_rfl
theorem Cb{m n h:Addr}:(A7 m n h).lookup ("record":Str)=none:=by kernel_rfl
theorem Lc{m n h:Addr}:(A7 m n h).lookup ("cut":Str)=none:=by kernel_rfl
theorem Nx{m n h:Addr}:(A7 m n h).lookup ("back":Str)=none:=by kernel_rfl
theorem Ny{m n h:Addr}:(A7 m n h).lookup ("take":Str)=none:=by kernel_rfl
theorem Nz{m n h:Addr}:(A7 m n h).lookup ("drop":Str)=none:=by kernel_rfl
def Wi:Dk:=⟨[],λ_=>[],[],λ_=>[]⟩
theorem Yh:Inv Wi:=⟨abu,(λp hp=>by cases hp),(λp hp=>by cases hp),⟨λ_=>0,λp hp=>by cases hp⟩,(λi p hp=>by simp[Wi] at hp),(λx hx=>by cases hx),abu,(λs hs=>by cases hs),(λs hs=>by cases hs),(λp hp=>by cases hp),(λp hp=>by cases hp)⟩
def QO(A:Ad):Sp:=λvs H Q _=>∃(p dx:Addr),vs=[.ref p]/\H p=some (.ins A.gB dx [])/\∀(H':Hp)(W:Addr->Prop),ia A H' p Wi W->(∀b,W b->H b=none)->(∀b o,H b=some o->b≠p->H' b=some o)->Q .jb H'
theorem Di(T:Txt mg)(O:Ok K mg A):ie P w K mg base mL 1 A.m_ A.ra ["self"] (QO A):=by
 refine O.uf.f.rB xi λjt A0 outer s H vs Q E hr h=>?_
 obtain⟨p,dx,rfl,hp,k⟩:=h
 refine⟨_,(de (lJ (pv 0) nM rfl)
   (de (lJ (pv 0) nM rfl)
   (f_ (lJ (pv 0) nM rfl)))),?_⟩
 refine Ey ?_;intro _ _
 intro m hm
 have G6:p≠m:=gr hp hm
 refine⟨_,rfl,p,A.gB,dx,_,rfl,(by rw[d_ G6];exact hp),O.gO,O.iW,(by show 0<1000;decide),?_⟩
 intro n hn
 have Vs:p≠n:=gr b_ hn
 have WU:m≠n:=by
  intro z;subst z;rw[d_ G6.symm,b_] at hn;cases hn
 have hH:H n=none:=by rw[d_ Vs.symm,d_ WU.symm] at hn;exact hn
 refine⟨_,rfl,p,A.gB,dx,_,rfl,(by rw[d_ Vs];exact b_),O.gO,O.i9,(by show 1<1000;decide),?_⟩
 intro h hh
 have WV:p≠h:=gr b_ hh
 have Zw:n≠h:=by
  intro z;subst z;rw[d_ Vs.symm,b_] at hh;cases hh
 have Zx:m≠h:=by
  intro z;subst z;rw[d_ G6.symm,d_ WU,d_ G6.symm,b_] at hh;cases hh
 have hhH:H h=none:=by rw[d_ WV.symm,d_ Zw.symm,d_ WV.symm,d_ Zx.symm] at hh;exact hh
 refine⟨_,rfl,p,A.gB,dx,_,rfl,(by rw[d_ WV];exact b_),O.gO,O.iu,(by show 2<1000;decide),?_⟩
 have e1:∀{o},upd (upd (upd (upd (upd (upd H m (.dK [])) p (.ins A.gB dx (jC "made" (.ref m) []))) n (.dK [])) p (.ins A.gB dx (jC "needs" (.ref n) (jC "made" (.ref m) [])))) h (.dK [])) p o m=some (.dK []):=by
  intro o;rw[d_ G6.symm,d_ Zx,d_ G6.symm,d_ WU,d_ G6.symm,b_]
 have e2:∀{o},upd (upd (upd (upd (upd (upd H m (.dK [])) p (.ins A.gB dx (jC "made" (.ref m) []))) n (.dK [])) p (.ins A.gB dx (jC "needs" (.ref n) (jC "made" (.ref m) [])))) h (.dK [])) p o n=some (.dK []):=by
  intro o;rw[d_ Vs.symm,d_ Zw,d_ Vs.symm,b_]
 have e3:∀{o},upd (upd (upd (upd (upd (upd H m (.dK [])) p (.ins A.gB dx (jC "made" (.ref m) []))) n (.dK [])) p (.ins A.gB dx (jC "needs" (.ref n) (jC "made" (.ref m) [])))) h (.dK [])) p o h=some (.dK []):=by
  intro o;rw[d_ WV.symm,b_]
 refine k _ (λb=>b=m\/b=n\/b=h) ⟨⟨dx,m,n,h,λ_=>0,[],[],[]⟩,Eq.trans b_ (abe (λl=>some (HO.ins A.gB dx l)) (QN m n h)),e1,e2,e3,WU,Zx,Zw,.inl rfl,.inr (.inl rfl),.inr (.inr rfl),rfl,(λp hp=>by cases hp),rfl,(λp hp=>by cases hp),rfl,(λp hp=>by cases hp),(λp hp=>by cases hp),λb hb=>?_⟩ (λb hb=>?_) λb o e hb=>?_
 ·rcases hb with rfl|rfl|rfl
  ·exact⟨_,e1⟩
  ·exact⟨_,e2⟩
  ·exact⟨_,e3⟩
 ·rcases hb with rfl|rfl|rfl
  ·exact hm
  ·exact hH
  ·exact hhH
 ·rw[d_ hb,d_ (gr e hhH),d_ hb,d_ (gr e hH),d_ hb,d_ (gr e hm)]
  exact e
def NA(XB:Addr):Sp:=λvs H Q E=>∃x:Str,vs=[.str x]/\kU x/\(Good x->Q .jb H)/\(¬Good x->E (.ref XB) none H)
theorem OO:(12:Int).natAbs.log2<1920:=by decide
theorem ug(T:Txt mg)(O:Ok K mg A):ie P w K mg base (tU P w) 1 A.vJ A.vK ["name"] (NA A.jB):=by
 refine O.uD.f.rC tX λjt A0 outer s H vs Q E hr h=>?_
 obtain⟨x,rfl,⟨hf,hl⟩,q,qe⟩:=h
 refine⟨_,(de (il (kB (Eg JM JM gm (gK va (by rfl) T.jw aaM (a_ (pv 0) e_)) (Ct (v:=.int 12) (by rfl) O.sG ⟨_,rfl⟩))) (f_ (ke bx O.B7 (by rfl) (lO (ip i4 (ip (Kk (Ct (v:=.int 12) (by rfl) O.sG ⟨_,rfl⟩)) (ip i4 (ip (mR (pv 0)) nO))))))) hG)
   (f_ (iD Kc rfl (Ql (pv 0)) (tM 1 tX) (f_ (il (hV Cv (pv 1) (Ct (v:=.str (Str.ofString "abcdefghijklmnopqrstuvwxyz0123456789")) (by rfl) O.C6 ⟨_,rfl⟩) rfl) (f_ (ke bx O.B7 (by rfl) (lO (ip i4 (ip (mR (pv 0)) nO))))) hG))))),?_⟩
 refine Mo ?_;intro _
 have hz:x.length<=sizeLine:=aan hl (by decide)
 have bad:¬Good x->∀H',H'=H->E (.ref A.jB) none H':=λg H' e=>by subst e;exact qe g
 refine⟨_,rfl,_,rfl,hz,_,_,rfl,rfl,_,rfl,?_⟩
 refine kY (λh1=>?_) (λh1=>?_)
 ·refine⟨_,_,rfl,rfl,_,rfl,?_⟩
  refine kY (λh2=>?_) (λh2=>?_)
  ·
   have h2:¬((x.length:Int)<=12):=by simpa using h2
   refine⟨_,rfl,by decide+kernel,⟨_,rfl,OO,_,rfl,by decide+kernel,⟨_,rfl,by decide+kernel,⟨_,rfl,_,rfl,hf,_,rfl,hf,λ_=>qe λg=>?_⟩⟩⟩⟩
   have:=g.2.1;omega
  ·have h1:(1:Int)<=(x.length:Int):=by simpa using h1
   have h2:(x.length:Int)<=12:=by simpa using h2
   refine⟨_,rfl,x,rfl,Kj (λi Z H2=>∃v,Z=[rs x,v]/\H2=H/\∀j<i,∀c,x.cps[j]?=some c->c∈l9.cps.toList) ⟨none,rfl,rfl,λj hj=>absurd hj (by omega)⟩ ?_ ?_⟩
   ·rintro i c Z H2 hc ⟨v,rfl,rfl,hp⟩
    refine⟨_,rfl,_,_,rfl,rfl,_,rfl,?_⟩
    rw[M0]
    refine kY (λh3=>?_) (λh3=>?_)
    ·have h3:c∉l9.cps.toList:=by simpa[l9] using h3
     refine⟨_,rfl,by decide+kernel,⟨_,rfl,_,rfl,hf,_,rfl,hf,λ_=>qe λg=>?_⟩⟩
     exact h3 (g.2.2 c (XZ (i:=i) (by rw[abr];exact hc)))
    ·have h3:c∈l9.cps.toList:=by simpa[l9] using h3
     refine⟨_,rfl,rfl,λj hj c' Bv=>?_⟩
     by_cases e:j=i
     ·subst e;rw[hc] at Bv;cases Bv;exact h3
     ·exact hp j (by omega) c' Bv
   ·rintro Z H2 ⟨v,rfl,rfl,hp⟩
    refine q ⟨by omega,by omega,λc hc=>?_⟩
    obtain⟨j,hj,e⟩:=List.mem_iff_getElem.mp hc
    have hj':j<x.cps.size:=by simpa using hj
    exact hp j hj' c (by rw[abg hj'];simpa using e)
 ·have h1:¬((1:Int)<=(x.length:Int)):=by simpa using h1
  refine⟨_,rfl,?_⟩
  refine⟨_,rfl,by decide+kernel,⟨_,rfl,OO,_,rfl,by decide+kernel,⟨_,rfl,by decide+kernel,⟨_,rfl,_,rfl,hf,_,rfl,hf,λ_=>qe λg=>?_⟩⟩⟩⟩
  have:=g.1;omega
def NB(A:Ad):Sp:=λvs H Q E=>∃(d:Addr)(D:Dk)(W:Addr->Prop)(s:Str),vs=[.ref d,.str s]/\ia A H d D W/\kU s/\(s∈D.stores->Q .jb H)/\(s∉D.stores->E (.ref A.iP) none H)
theorem jY(T:Txt mg)(O:Ok K mg A):ie P w K mg base (tU P w) 1 A.n9 A.n_ ["self","store"] (NB A):=by
 refine O.iQ.f.rC tO λjt A0 outer s H vs Q E hr h=>?_
 obtain⟨d,D,W,st,rfl,⟨Y,x⟩,hf,q,qe⟩:=h
 refine⟨_,(f_ (il (ju (lC (by exact iS hr) (pv 1) (gL (pv 0) rfl))) (f_ (ke bx O.IP (by rfl) (lO (ip i4 (ip (mR (pv 1)) nO))))) hG)),?_⟩
 refine⟨_,rfl,_,rfl,d,A.gB,Y.dx,_,_,rfl,x.hd,O.gO,O.iu,k9 _ _ _,Y.h,_,rfl,i5.k (k:=sk st) x.hh,_,rfl,?_⟩
 rw[ku x.kh]
 by_cases hs:st∈D.stores
 ·rw[X0 hs]
  exact q hs
 ·rw[aaq hs]
  exact lL ⟨_,rfl,by decide+kernel,⟨_,rfl,_,rfl,hf.1,_,rfl,hf.1,λ_=>qe hs⟩⟩
def QP(A:Ad):Sp:=λvs H Q E=>∃(d:Addr)(D:Dk)(W:Addr->Prop)(s:Str),vs=[.ref d,.str s]/\ia A H d D W/\kU s/\(s∈D.names->Q .jb H)/\(s∉D.names->E (.ref A.jX) none H)
theorem Bq(T:Txt mg)(O:Ok K mg A):ie P w K mg base (tU P w) 1 A.oQ A.oR ["self","patch"] (QP A):=by
 refine O.rn.f.rC uv λjt A0 outer s H vs Q E hr h=>?_
 obtain⟨d,D,W,st,rfl,⟨Y,x⟩,hf,q,qe⟩:=h
 refine⟨_,(f_ (il (ju (lC (by exact iS hr) (pv 1) (gL (pv 0) rfl))) (f_ (ke bx O.B8 (by rfl) (lO (ip i4 (ip (mR (pv 1)) nO))))) hG)),?_⟩
 refine⟨_,rfl,_,rfl,d,A.gB,Y.dx,_,_,rfl,x.hd,O.gO,O.iW,qb _ _ _,Y.m,_,rfl,i5.k (k:=sk st) x.hm,_,rfl,?_⟩
 rw[ku x.km]
 by_cases hs:st∈D.names
 ·rw[X0 hs]
  exact q hs
 ·rw[aaq hs]
  exact lL ⟨_,rfl,by decide+kernel,⟨_,rfl,_,rfl,hf.1,_,rfl,hf.1,λ_=>qe hs⟩⟩
def QQ(A:Ad):Sp:=λvs H Q E=>∃(d:Addr)(D:Dk)(W:Addr->Prop)(s x:Str),vs=[.ref d,.str s,.str x]/\ia A H d D W/\kU s/\kU x/\s∈D.stores/\(x∈D.held s->Q .jb H)/\(x∉D.held s->E (.ref A.jX) none H)
theorem pd(T:Txt mg)(O:Ok K mg A):ie P w K mg base (tU P w) 1 A.oS A.oT ["self","store","patch"] (QQ A):=by
 refine O.lr.f.rC uw λjt A0 outer s H vs Q E hr h=>?_
 obtain⟨d,D,W,st,y,rfl,⟨Y,x⟩,hf,G7,hs,q,qe⟩:=h
 obtain⟨v1,_,_,_,_,kv,v2,v3⟩:=x.vh st hs
 refine⟨_,(f_ (il (ju (lC (by exact iS hr) (pv 2) (zP hr (gL (pv 0) rfl) (pv 1)))) (f_ (ke bx O.B8 (by rfl) (lO (ip i4 (ip (mR (pv 1)) (ip i4 (ip (mR (pv 2)) nO))))))) hG)),?_⟩
 refine⟨_,rfl,_,rfl,d,A.gB,Y.dx,_,_,rfl,x.hd,O.gO,O.iu,k9 _ _ _,_,rfl,Y.h,.ref (Y.ha st),rfl,?_,Y.ha st,_,rfl,i5.k (k:=sk y) v2,_,rfl,?_⟩
 ·have:=i5.k (k:=sk st) x.hh
  rw[v1] at this
  exact this
 ·rw[ku v3]
  by_cases hy:y∈D.held st
  ·rw[X0 hy]
   exact q hy
  ·rw[aaq hy]
   refine lL ?_
   exact⟨_,rfl,by decide+kernel,⟨_,rfl,_,rfl,hf.1,_,rfl,hf.1,⟨_,rfl,by decide+kernel,⟨_,rfl,_,rfl,G7.1,_,rfl,G7.1,λ_=>qe hy⟩⟩⟩⟩
def sR(H:Hp)(v:V)(l:Ln):Prop:=∃t,v=.ref t/\H t=some (.tup [.str l.nm.1,.int l.nm.2,.str l.tx])
def wa(H:Hp)(a:Addr)(row:List Ln):Prop:=∃vs,H a=some (.lst vs)/\Paired (sR H) vs row
theorem sR.same{H H':Hp}{v:V}{l:Ln}(x:sR H v l)(s:gv H H'):sR H' v l:=by obtain⟨t,e,h⟩:=x;exact⟨t,e,s _ _ h⟩
theorem wa.same{H H':Hp}{a:Addr}{row:List Ln}(x:wa H a row)(s:gv H H'):wa H' a row:=by
 obtain⟨vs,h,p⟩:=x
 exact⟨vs,s _ _ h,Paired.i3 p λ_ _ z=>z.same s⟩
def Uc(A:Ad):Sp:=λvs H Q E=>∃(d:Addr)(D:Dk)(W:Addr->Prop)(s:Str),vs=[.ref d,.str s]/\ia A H d D W/\kU s/\xq D.made.length/\(s∉D.stores->E (.ref A.iP) none H)/\(s∈D.stores->∀p,H p=none->Q (.ref p) (upd H p (.lst (gw (D.has s)))))
theorem GL(T:Txt mg)(O:Ok K mg A):ie P w K mg base (tU P w) 2 A.Ag A.Ai ["self","store"] (Uc A):=by
 have h_:=@jY P w K mg base A T O
 refine O.k7.f.rC xZ λjt A0 outer s H vs Q E hr h=>?_
 obtain⟨d,D,W,st,rfl,X,hf,jL,qe,q⟩:=h
 obtain⟨Y,x⟩:=id X
 have y4:D.made.length<=4000:=jL
 have sz:sizeLine=16777216:=aaQ
 refine⟨_,(de (hU (zO bx (pv 0) O.gO O.iQ h_ hr (a_ (pv 1) e_)))
   (f_ (hE (Ht (zF z8 (gp qE).names [2] rfl (CK (gL (pv 0) rfl)) rfl (by decide+kernel) (λ_ _ _ _=>(ir (i:=2) xZ.nd rfl (Or.inl rfl))) (λ_ _ _ _=>⟨_,nN (ju (o4 (by exact iS hr) (pv 2) (zP hr (gL (pv 0) rfl) (pv 1)))),by(try simp only [kL]);rfl⟩) (λ_ _ _ _=>zc (pv 2))))))),?_⟩
 refine Mo ?_;intro _
 refine⟨_,rfl,d,Y.dx,_,rfl,x.hd,jy,_,rfl,d,D,W,st,rfl,X,hf,λhs=>?_,λhs=>qe hs⟩
 obtain⟨v1,_,oe,_,_,kv,v2,v3⟩:=x.vh st hs
 refine⟨_,rfl,d,A.gB,Y.dx,_,_,rfl,x.hd,O.gO,O.iW,qb _ _ _,Y.m,Y.kM,rfl,x.hm,λo uz=>?_⟩
 have JC:=kq x.km
 have RC:D.names.length=D.made.length:=by unfold Dk.names;rw[O7]
 have SH:d≠Y.m:=iR x.hd x.hm (λz=>by cases z)
 have f:∀{b u},H b=some u->b≠Y.m->upd H Y.m (.nj o (.dK Y.kM)) b=some u:=λ{b u} e n=>by rw[d_ n];exact e
 refine Hu (by omega) (λi ys Z H3=>∃(v2:Option V)(zs:List Str),Z=[rr d,rs st,v2]/\H3=upd H Y.m (.nj o (.dK Y.kM))/\ys=gw zs/\zs=(D.names.take i).filter λx=>x∈D.held st) ⟨none,[],rfl,rfl,rfl,rfl⟩ (λi ys Z H3 ⟨_,zs,_,e,e2,e3⟩=>?_) ?_ ?_
 ·rw[e,e2,e3]
  refine⟨b_,?_⟩
  rw[O7]
  exact aan (aaY _ _) (by rw[aaP];omega)
 ·rintro i k v ys Z H3 hi ⟨v0,zs,rfl,rfl,rfl,e3⟩
  obtain⟨y,hy,rfl⟩:=xt x.km hi
  refine⟨_,rfl,_,rfl,d,A.gB,Y.dx,_,_,rfl,f x.hd SH,O.gO,O.iu,k9 _ _ _,_,rfl,Y.h,.ref (Y.ha st),rfl,?_,Y.ha st,_,rfl,i5.k (k:=sk y) (f v2 oe),_,rfl,?_⟩
  ·have:=i5.k (k:=sk st) (f x.hh x.mh.symm)
   rw[v1] at this
   exact this
  ·rw[ku v3,take_snoc hy,aaI]
   by_cases hm:y∈D.held st
   ·rw[X0 hm]
    refine lL ⟨_,rfl,_,_,rfl,rfl,iY _ _,?_⟩
    rw[e3,YS (by simpa using hm),aa3]
   ·rw[aaq hm]
    refine jf ⟨_,_,rfl,rfl,rfl,?_⟩
    rw[e3,aaj (by simpa using hm),aa3,aa0]
 ·rintro ys Z H3 ⟨v0,zs,rfl,rfl,rfl,e3⟩ p pw
  rw[JC,aaE] at e3
  have G6:p≠Y.m:=λz=>by rw[z,b_] at pw;cases pw
  have D3:H p=none:=by rw[d_ G6] at pw;exact pw
  refine⟨Y.m,o,_,by rw[d_ G6.symm];exact b_,uz,?_⟩
  rw[CJ x.hm G6]
  have:=q hs p D3
  unfold Dk.has at this
  rw[<-e3] at this
  exact this
def Ud(A:Ad):Sp:=λvs H Q E=>∃(d:Addr)(D:Dk)(W:Addr->Prop)(s:Str),vs=[.ref d,.str s]/\ia A H d D W/\kU s/\xq D.made.length/\(s∉D.stores->E (.ref A.iP) none H)/\(s∈D.stores->∀p H',gv H H'->H p=none->yW A H' p (D.jP s)->Q (.ref p) H')
theorem Br(T:Txt mg)(O:Ok K mg A):ie P w K mg base (tU P w) 3 A.oO A.oP ["self","store"] (Ud A):=by
 have jz:=@GL P w K mg base A T O
 refine O.rm.f.rC n5 λjt A0 outer s H vs Q E hr h=>?_
 obtain⟨d,D,W,st,rfl,X,hf,jL,qe,q⟩:=h
 obtain⟨Y,x⟩:=id X
 have y4:D.made.length<=4000:=jL
 have sz:sizeLine=16777216:=aaQ
 have nK:(D.jP st).length<=D.made.length:=aaY _ _
 refine⟨_,(f_ (hE (tT oM (gp kx).names [2] rfl (ic (zO bx (pv 0) O.gO O.k7 jz hr (a_ (pv 1) e_))) rfl (by decide+kernel) (λ_ _ _ _=>(ir (i:=2) n5.nd rfl (Or.inl rfl))) (λ_ _ _ _=>lN) (λ_ _ _ _=>zc (zP hr (gL (pv 0) rfl) (pv 2)))))),?_⟩
 refine⟨_,rfl,d,Y.dx,_,rfl,x.hd,qO,_,rfl,d,D,W,st,rfl,X,hf,jL,λhs=>qe hs,λhs p pw=>?_⟩
 rw[Dk.qy]
 have s1:gv H (upd H p (.lst (gw ((D.jP st).map (·.nm))))):=(gv.refl H).new pw
 have O8:(upd H p (.lst (gw ((D.jP st).map (·.nm))))) p=some (.lst (gw ((D.jP st).map (·.nm)))):=b_
 generalize upd H p (.lst (gw ((D.jP st).map (·.nm))))=H1 at s1 O8
 let Jv:=λ(i:Nat) (ys:List V) (Z:St) (H3:Hp)=>∃(v2:Option V)(as:List Addr),Z=[rr d,rs st,v2]/\H3=H1/\ys=as.map V.ref/\Paired (oq A H) as ((D.jP st).take i)
 refine⟨p,rfl,⟨_,gN.of O8⟩,jD (K:=K) (a:=p) (xs:=gw ((D.jP st).map (·.nm))) (by rw[O7,O7];omega) Jv
  ⟨none,[],rfl,rfl,rfl,.nil⟩ (λi ys Z H3 _ ⟨_,as,_,e,e2,e3⟩=>?_) ?_ ?_⟩
 ·rw[e,e2]
  have:=aav e3
  rw[aaP] at this
  exact⟨gN.of O8,by rw[O7];omega⟩
 ·rintro i v ys Z H3 hx ⟨v2,as,rfl,rfl,rfl,e3⟩
  obtain⟨y,hy,rfl⟩:=lP hx
  rw[aao] at hy
  obtain⟨pt,Mv,rfl⟩:=Option.map_eq_some_iff.mp hy
  have qS:pt∈D.made:=(Inv.lg.mp (XZ Mv)).1
  obtain⟨a,z1,z2⟩:=x.vm pt qS
  refine⟨_,rfl,d,A.gB,Y.dx,_,_,rfl,s1 _ _ x.hd,O.gO,O.iW,qb _ _ _,_,rfl,Y.m,.ref a,rfl,?_,?_⟩
  ·have:=i5.k (k:=sk pt.nm) (s1 _ _ x.hm)
   rw[z1] at this
   exact this
  ·refine⟨_,as++[a],rfl,rfl,by rw[aaH];rfl,?_⟩
   rw[take_snoc Mv]
   exact ig e3 z2
 ·rintro ys Z H3 ⟨v2,as,rfl,rfl,rfl,e3⟩ r tK
  have e0:(gw ((D.jP st).map (·.nm))).length=(D.jP st).length:=by rw[O7,O7]
  rw[e0,aaE] at e3
  have s2:=s1.new (o:=.lst (as.map V.ref)) tK
  exact q hs r _ s2 (s1.free tK) ⟨as,b_,Paired.i3 e3 λ_ _ z=>z.same s2⟩
def NC(A:Ad):Sp:=λvs H Q E=>∃(d:Addr)(D:Dk)(W:Addr->Prop)(s f:Str),vs=[.ref d,.str s,.str f]/\ia A H d D W/\kU s/\Small D.made/\Inv D/\(s∉D.stores->E (.ref A.iP) none H)/\(s∈D.stores->∀p H',gv H H'->H p=none->GI A H' p (gA (D.jP s) f) (D.row s f)->Q (.ref p) H')
theorem oZ(T:Txt mg)(O:Ok K mg A):ie P w K mg base (tU P w) 5 A.rg A.rh ["self","store","file"] (NC A):=by
 have xH:=@Bm P w K mg base A T O
 have wu:=@Br P w K mg base A T O
 refine O.k8.f.rC xk λjt A0 outer s H vs Q E hr h=>?_
 obtain⟨d,D,W,st,f,rfl,X,hf,sm,I,qe,q⟩:=h
 obtain⟨Y,x⟩:=id X
 refine⟨_,(f_ (hE (uZ O.Nh xH (hr.mono (by decide)) (by rfl) O.Ni O.sA.b .nil pF (a_ (zO bx (pv 0) O.gO O.rm wu hr (a_ (pv 1) e_)) (a_ (pv 2) e_))))),?_⟩
 refine⟨_,rfl,d,Y.dx,_,rfl,x.hd,Bp,_,rfl,d,D,W,st,rfl,X,hf,sm.many,λhs=>qe hs,λhs a H1 s1 ha0 WW=>?_⟩
 refine⟨_,rfl,?_⟩
 intro p px np Zy nxp
 have s2:gv H1 (upd (upd H1 px (.own p)) p (.ins A.hZ px [])):=λb o e=>by
  rw[d_ (gr e np),d_ (gr e Zy)]
  exact e
 refine⟨p,px,a,D.jP st,f,rfl,b_,WW.same s2,sm.sub (Inv.zf st),I.nodup st f,I.closed hs f,I.Nd st f,λH' k sg=>⟨rfl,?_⟩⟩
 exact q hs p H' (λb o e=>k b o (s2 b o (s1 b o e)) (gr (s1 b o e) np)) (s1.free np) sg
theorem Ld{D:Dk}(I:Inv D)(s f:Str):∀l∈D.row s f,l.nm∈(gA (D.jP s) f).map (·.nm):=λl hl=>aaf ((j5 _ f).subset ((I.kE s f).subset hl))
def QR(A:Ad):Sp:=λvs H Q E=>∃(d:Addr)(D:Dk)(W:Addr->Prop)(s f:Str),vs=[.ref d,.str s,.str f]/\ia A H d D W/\kU s/\Small D.made/\Inv D/\(s∉D.stores->E (.ref A.iP) none H)/\(s∈D.stores->∀p H',gv H H'->H p=none->wa H' p (D.row s f)->Q (.ref p) H')
theorem GN(T:Txt mg)(O:Ok K mg A):ie P w K mg base (tU P w) 6 A.Al A.Am ["self","store","file"] (QR A):=by
 have jg:=@oZ P w K mg base A T O
 refine O.vT.f.rC x8 λjt A0 outer s H vs Q E hr h=>?_
 obtain⟨d,D,W,st,f,rfl,X,hf,sm,I,qe,q⟩:=h
 obtain⟨Y,x⟩:=id X
 have sz:sizeLine=16777216:=aaQ
 have Dy:(D.row st f).length<=4000:=aan (I.vq st f) sm.iw
 refine⟨_,(f_ (hE (tT Aa (gp qG).names [3] rfl (ic (gL (zO bx (pv 0) O.gO O.k8 jg hr (a_ (pv 1) (a_ (pv 2) e_))) rfl)) rfl (by decide+kernel) (λ_ _ _ _=>(ir (i:=3) x8.nd rfl (Or.inl rfl))) (λ_ _ _ _=>lN) (λ_ _ _ _=>zc (Cw (a_ (jo kS (gL (pv 3) rfl) gm (λ_ _=>rfl)) (a_ (jo kS (gL (pv 3) rfl) gm (λ_ _=>rfl)) (a_ (gL (pv 3) rfl) e_)))))))),?_⟩
 refine⟨_,rfl,d,Y.dx,_,rfl,x.hd,oY,_,rfl,_,rfl,d,D,W,st,f,rfl,X,hf,sm,I,λhs=>qe hs,λhs p H1 s1 pw ⟨px,ah,l,g1,g2,⟨as,g3,g4⟩⟩=>?_⟩
 have hlen:=aav g4
 let Jv:=λ(i:Nat) (ys:List V) (Z:St) (H4:Hp)=>∃(v3:Option V),Z=[rr d,rs st,rs f,v3]/\gv H1 H4/\Paired (sR H4) ys ((D.row st f).take i)
 refine⟨p,A.hZ,px,_,_,rfl,g1,O.j8,O.ik,lG ah l,l,rfl,⟨_,gN.of g3⟩,jD (K:=K) (a:=l) (xs:=as.map V.ref) (by rw[O7];omega) Jv
  ⟨none,rfl,gv.refl _,.nil⟩ (by rintro _ _ _ _ _ ⟨_,_,e,e2⟩;exact⟨gN.of (e _ _ g3),by rw[aav e2,aaP];omega⟩) ?_ ?_⟩
 ·rintro i v ys Z H4 hx ⟨v3,rfl,s4,e2⟩
  obtain⟨b,hb,rfl⟩:=j9 hx
  obtain⟨ln,tQ,SE,vn,vu,vl,k1,⟨nt,rfl,k2⟩,k3,k4⟩:=ib g4 hb
  refine⟨_,rfl,b,A.gS,SE,_,_,rfl,s4 _ _ k1,O.iL,O.gQ,iX,nt,_,_,_,rfl,rfl,oy.of (s4 _ _ k2),gG (j:=0) rfl rfl,?_⟩
  refine⟨_,rfl,b,A.gS,SE,_,_,rfl,s4 _ _ k1,O.iL,O.gQ,iX,nt,_,_,_,rfl,rfl,oy.of (s4 _ _ k2),gG (j:=1) rfl rfl,?_⟩
  refine⟨_,rfl,b,A.gS,SE,_,_,rfl,s4 _ _ k1,O.iL,O.jJ,Ar,L2.jL,λt ht=>?_⟩
  have s5:=(gv.refl H4).new (o:=.tup [.str ln.nm.1,.int ln.nm.2,.str ln.tx]) ht
  refine⟨_,rfl,s4.trans s5,?_⟩
  rw[take_snoc tQ]
  exact ig (Paired.i3 e2 λ_ _ z=>z.same s5) ⟨t,rfl,b_⟩
 ·rintro ys Z H4 ⟨v3,rfl,s4,e2⟩ r tK
  rw[O7,hlen,aaE] at e2
  have s5:=(s1.trans s4).new (o:=.lst ys) tK
  exact q hs r _ s5 ((s1.trans s4).free tK) ⟨ys,b_,Paired.i3 e2 λ_ _ z=>z.same ((gv.refl H4).new tK)⟩
def Ue(A:Ad):Sp:=λvs H Q E=>∃(d:Addr)(D:Dk)(W:Addr->Prop)(s f:Str),vs=[.ref d,.str s,.str f]/\ia A H d D W/\kU s/\Small D.made/\Inv D/\(s∉D.stores->E (.ref A.iP) none H)/\(s∈D.stores->∀p H' vs,gv H H'->H p=none->H' p=some (.lst vs)->iC H' (D.jQ s f) vs->Q (.ref p) H')
theorem sS(T:Txt mg)(O:Ok K mg A):ie P w K mg base (tU P w) 6 A.rb A.rf ["self","store","file"] (Ue A):=by
 have jg:=@oZ P w K mg base A T O
 have kX:=@sO P w K mg base A T O
 refine O.mz.f.rC xj λjt A0 outer s H vs Q E hr h=>?_
 obtain⟨d,D,W,st,f,rfl,X,hf,sm,I,qe,q⟩:=h
 obtain⟨Y,x⟩:=id X
 have Dy:(D.row st f).length<=4000:=aan (I.vq st f) sm.iw
 refine⟨_,(f_ (hE (Eh (zO bx (pv 0) O.gO O.k8 jg hr (a_ (pv 1) (a_ (pv 2) e_))) O.j8 O.jI.t kX (hr.mono (by decide)) O.jI.b .nil pF))),?_⟩
 refine⟨_,rfl,d,Y.dx,_,rfl,x.hd,oY,_,rfl,_,rfl,d,D,W,st,f,rfl,X,hf,sm,I,λhs=>qe hs,λhs p H1 s1 pw sg=>?_⟩
 obtain⟨px,ah,l,g1,g2,g3⟩:=id sg
 refine⟨p,px,_,rfl,g1,K8 ah l,p,_,_,rfl,sg,Ld I st f,Dy,λr H2 vs s2 tK xG zp=>?_⟩
 exact q hs r H2 vs (s1.trans s2) (s1.free tK) xG zp
end
theorem sT{xs ys:List Str}(nd:xs.Nodup)(h:∀x∈xs,x∈ys):xs.length<=ys.length:=by
 have:=len_sub (xs:=xs.map λk=>((k,0):Nm)) (ys:=ys.map λk=>(k,0)) (ab4.mpr (nd.imp λh z=>h (abe Prod.fst z))) λx hx=>by
  obtain⟨k,hk,rfl⟩:=List.mem_map.mp hx
  exact aaf (h k hk)
 rwa [O7,O7] at this
section
variable{A:Ad}{H:Hp}{x:Addr}{o:HO}{kv:List (Key×V)}
theorem mH.dk{a:Addr}{l:Ln}(h:mH A H a l)(hx:H x=some (.dK kv)):mH A (L2.upd H x o) a l:=mH.upd h hx (λ_ z=>by cases z) (λ_ _ _ z=>by cases z)
theorem om.dk{a:Addr}{ls:List Ln}(h:om A H a ls)(hx:H x=some (.dK kv)):om A (L2.upd H x o) a ls:=by
 obtain⟨as,h1,h2⟩:=h
 exact⟨as,by rw[d_ (iR h1 hx (λz=>by cases z))];exact h1,Paired.i3 h2 λ_ _ z=>z.dk hx⟩
theorem vU.dk{a:Addr}{ns:List Nm}(h:vU H a ns)(hx:H x=some (.dK kv)):vU (L2.upd H x o) a ns:=by
 obtain⟨vs,h1,h2⟩:=h
 exact⟨vs,by rw[d_ (iR h1 hx (λz=>by cases z))];exact h1,Paired.i3 h2 λ_ _ z=>z.upd hx (λ_ z=>by cases z)⟩
theorem oq.dk{a:Addr}{p:Pt}(h:oq A H a p)(hx:H x=some (.dK kv)):oq A (L2.upd H x o) a p:=by
 obtain⟨dx,vf,pu,cu,vo,h0,h1,h2,h3,h4⟩:=h
 exact⟨dx,vf,pu,cu,vo,by rw[d_ (iR h0 hx (λz=>by cases z))];exact h0,h1,h2.dk hx,h3.dk hx,h4⟩
end
def Fi(l:List Str)(m:Str):List Str:=if m∈l then l else l++[m]
theorem Fj{l:List Str}{m x:Str}:x∈Fi l m↔x∈l\/x=m:=by
 unfold Fi
 split
 ·rename_i h
  exact⟨.inl,λz=>z.elim id λz=>z▸h⟩
 ·simp
theorem HD{l:List Str}{m:Str}(h:l.Nodup):(Fi l m).Nodup:=by
 unfold Fi
 split
 ·exact h
 ·rename_i hm
  rw[abi]
  exact⟨h,by simp,λa ha b hb z=>hm (by rw[XT.mp hb] at z;exact z▸ha)⟩
theorem Cc{dk:List (Key×V)}{l:List Str}(h:dk.map (·.1)=l.map sk)(m:Str)(v:V):(putK dk (sk m) v).map (·.1)=(Fi l m).map sk:=by
 rw[p8,h]
 unfold Fi
 by_cases e:m∈l
 ·rw[aay (Ay.mpr e),aay e]
 ·rw[aaw (λz=>e (Ay.mp z)),aaw e,aaH];rfl
theorem Cd:∀(more:List (Key×V))(dk:List (Key×V))(l r:List Str),dk.map (·.1)=l.map sk->more.map (·.1)=r.map sk->l.Nodup->∃l':List Str,(putAll dk more).map (·.1)=l'.map sk/\l'.Nodup/\∀m,m∈l'↔m∈l\/m∈r
 | [],dk,l,r,h1,h2,nd=>by
  have:r=[]:=by cases r with|nil=>rfl|cons _ _=>cases h2
  subst this
  exact⟨l,h1,nd,λm=>by simp⟩
 | p::t,dk,l,r,h1,h2,nd=>by
  cases r with
  | nil=>cases h2
  | cons x r=>
   rw[aaL,aaL] at h2
   injection h2 with e1 e2
   rw[rL,e1]
   obtain⟨l',z1,z2,z3⟩:=Cd t (putK dk (sk x) p.2) (Fi l x) r (Cc h1 x _) e2 (HD nd)
   refine⟨l',z1,z2,λm=>?_⟩
   rw[z3 m,Fj,aah,or_assoc]
theorem GO{kvs:List (Key×V)}{l:List Str}{x:Str}(h:kvs.map (·.1)=l.map sk):(jU kvs (sk x)).map (·.1)=(l.filter λy=>y≠x).map sk:=by
 induction kvs generalizing l with
 | nil=>
  cases l with
  | nil=>rfl
  | cons _ _=>cases h
 | cons p r ih=>
  cases l with
  | nil=>cases h
  | cons y t=>
   rw[aaL,aaL] at h
   injection h with e1 e2
   by_cases e:y=x
   ·rw[wI (by rw[e1,e]),ih e2,aaj (by simpa using e)]
   ·rw[wJ (by rw[e1];exact λz=>e (acH z)),YS (by simpa using e),aaL,aaL,ih e2,e1]
def xu(D:Dk)(s:Str)(l:List Str):Dk:=⟨D.made,D.iE,D.stores,λt=>if t=s then l else D.held t⟩
theorem ON.xu{A:Ad}{H:Hp}{d:Addr}{D:Dk}{W:Addr->Prop}{Y:Dp}{s:Str}{l:List Str}{kv:List (Key×V)}(x:ON A H d D W Y)(hs:s∈D.stores)(hk:kv.map (·.1)=l.map sk):ON A (upd H (Y.ha s) (.dK kv)) d (PK.xu D s l) W Y:=by
 obtain⟨v1,v2,v3,v4,v5,Zz,v6,v7⟩:=x.vh s hs
 exact{
  hd:=by rw[d_ (iR x.hd v6 (λz=>by cases z))];exact x.hd
  hm:=by rw[d_ v3.symm];exact x.hm
  hn:=by rw[d_ v4.symm];exact x.hn
  hh:=by rw[d_ v5.symm];exact x.hh
  mn:=x.mn
  mh:=x.mh
  nh:=x.nh
  wm:=x.wm
  wn:=x.wn
  wh:=x.wh
  km:=x.km
  vm:=λp hp=>by obtain⟨a,h1,h2⟩:=x.vm p hp;exact⟨a,h1,h2.dk v6⟩
  kn:=x.kn
  vn:=λy hy=>by
   obtain⟨a,kv,l,h1,h2,h3,h4⟩:=x.vn y hy
   exact⟨a,kv,l,h1,h2,by rw[d_ (λ(z:a=Y.ha s)=>h2 (by rw[z];exact v2))];exact h3,h4⟩
  kh:=x.kh
  vh:=λt ht=>by
   obtain⟨h1,h2,h3,h4,h5,kv,h6,h7⟩:=x.vh t ht
   refine⟨h1,h2,h3,h4,h5,?_⟩
   show ∃kv:List (Key×V),_/\kv.map (·.1)=(if t=s then l else D.held t).map sk
   by_cases e:t=s
   ·subst e
    rw[aay rfl]
    exact⟨_,b_,hk⟩
   ·rw[aaw e]
    exact⟨kv,by rw[d_ (λz=>e (x.inj t ht s hs z))];exact h6,h7⟩
  inj:=x.inj
  dk:=λb hb=>by
   by_cases e:b=Y.ha s
   ·rw[e];exact⟨_,b_⟩
   ·obtain⟨kv,h⟩:=x.dk b hb;exact⟨kv,by rw[d_ e];exact h⟩}
section
variable{P:Program}{w:World}{K:Qqy}{mg:Qqx}{base:Heap}{A:Ad}
def ND(A:Ad):Sp:=λvs H Q E=>∃(d:Addr)(D:Dk)(W:Addr->Prop)(s:Str),vs=[.ref d,.str s]/\ia A H d D W/\kU s/\D.stores.length<1000/\(¬Good s->E (.ref A.jB) none H)/\(Good s->s∈D.stores->E (.ref A.jr) none H)/\
 (Good s->s∉D.stores->∀H' W',ia A H' d (D.begin s) W'->oX W H H'->(∀b,W' b->W b\/H b=none)->Q .jb H')
theorem Le(T:Txt mg)(O:Ok K mg A):ie P w K mg base (tU P w) 2 A.vL A.vM ["self","store"] (ND A):=by
 have qT:=@ug P w K mg base A T O
 refine O.Ao.f.rC Bb λjt A0 outer s H vs Q E hr h=>?_
 obtain⟨d,D,W,st,rfl,X,hf,hlen,q1,q2,q3⟩:=h
 obtain⟨Y,x⟩:=id X
 have sz:sizeLine=16777216:=aaQ
 refine⟨_,(de (hU (XY bx O.uD qT hr (a_ (pv 1) e_)))
   (de (il (ju (o4 (by exact iS hr) (pv 1) (gL (pv 0) rfl))) (f_ (ke bx O.yF (by rfl) (lO (ip i4 (ip (mR (pv 1)) (ip i4 nO)))))) hG)
   (f_ (jA (by exact iS hr) (gL (pv 0) rfl) (pv 1) nM rfl)))),?_⟩
 refine Ey ?_;intro _ _
 refine⟨_,rfl,st,rfl,hf,λg=>?_,λng=>q1 ng⟩
 refine⟨_,rfl,_,rfl,d,A.gB,Y.dx,_,_,rfl,x.hd,O.gO,O.iu,k9 _ _ _,Y.h,_,rfl,i5.k (k:=sk st) x.hh,_,rfl,?_⟩
 rw[ku x.kh]
 by_cases hs:st∈D.stores
 ·rw[X0 hs]
  refine lL ⟨_,rfl,by decide+kernel,⟨_,rfl,_,rfl,hf.1,_,rfl,hf.1,⟨_,rfl,by decide+kernel,λ_=>q2 g hs⟩⟩⟩
 ·rw[aaq hs]
  refine jf ?_
  intro p pw
  have fr:∀{b o},H b=some o->b≠p:=λe=>gr e pw
  have Pc:(upd H p (.dK [])) Y.h=some (.dK Y.kH):=by rw[d_ (fr x.hh)];exact x.hh
  have JC:=kq x.kh
  refine⟨_,rfl,d,A.gB,Y.dx,_,_,rfl,by rw[d_ (fr x.hd)];exact x.hd,O.gO,O.iu,k9 _ _ _,_,rfl,Y.h,_,rfl,nF.k (k:=sk st) Pc (by omega),?_⟩
  have s1:gv H (upd H p (.dK [])):=(gv.refl H).new pw
  have up:∀{b o},H b=some o->b≠Y.h->upd (upd H p (.dK [])) Y.h (.dK (putK Y.kH (sk st) (.ref p))) b=some o:=λ{b o} e n=>by rw[d_ n];exact s1 _ _ e
  have ZA:p≠Y.h:=(fr x.hh).symm
  refine q3 g hs _ (λb=>W b\/b=p) ⟨⟨Y.dx,Y.m,Y.n,Y.h,λt=>if t=st then p else Y.ha t,Y.kM,Y.kN,putK Y.kH (sk st) (.ref p)⟩,?_⟩ (λb o e nw=>?_) (λb hb=>?_)
  ·exact{
    hd:=up x.hd (iR x.hd x.hh (λz=>by cases z))
    hm:=up x.hm x.mh
    hn:=up x.hn x.nh
    hh:=b_
    mn:=x.mn
    mh:=x.mh
    nh:=x.nh
    wm:=.inl x.wm
    wn:=.inl x.wn
    wh:=.inl x.wh
    km:=x.km
    vm:=λq hq=>by obtain⟨a,h1,h2⟩:=x.vm q hq;exact⟨a,h1,(h2.same s1).dk Pc⟩
    kn:=x.kn
    vn:=λy hy=>by
     obtain⟨a,kv,l,h1,h2,h3,h4⟩:=x.vn y hy
     exact⟨a,kv,l,h1,λz=>z.elim h2 (fr h3),up h3 (λ(z:a=Y.h)=>h2 (by rw[z];exact x.wh)),h4⟩
    kh:=p_ x.kh hs _
    vh:=λt ht=>by
     show iN (putK Y.kH (sk st) (.ref p)) (sk t)=some (.ref (if t=st then p else Y.ha t))/\(W (if t=st then p else Y.ha t)\/(if t=st then p else Y.ha t)=p)/\(if t=st then p else Y.ha t)≠Y.m/\(if t=st then p else Y.ha t)≠Y.n/\(if t=st then p else Y.ha t)≠Y.h/\∃kv:List (Key×V),(upd (upd H p (.dK [])) Y.h (.dK (putK Y.kH (sk st) (.ref p)))) (if t=st then p else Y.ha t)=some (.dK kv)/\kv.map (·.1)=(if t=st then[] else D.held t).map sk
     rw[kc]
     by_cases e:t=st
     ·subst e
      rw[aay rfl,aay rfl,aay rfl]
      exact⟨rfl,.inr rfl,(fr x.hm).symm,(fr x.hn).symm,ZA,[],by rw[d_ ZA];exact b_,rfl⟩
     ·have SI:t∈D.stores:=(aal.mp ht).elim id λz=>absurd (XT.mp z) e
      rw[aaw (λz=>e (acH z)),aaw e,aaw e]
      obtain⟨h1,h2,h3,h4,h5,kv,h6,h7⟩:=x.vh t SI
      exact⟨h1,.inl h2,h3,h4,h5,kv,up h6 h5,h7⟩
    inj:=λt ht u hu e=>by
     have e:(if t=st then p else Y.ha t)=(if u=st then p else Y.ha u):=e
     by_cases e1:t=st
     ·by_cases e2:u=st
      ·rw[e1,e2]
      ·have SJ:u∈D.stores:=(aal.mp hu).elim id λz=>absurd (XT.mp z) e2
       rw[aay e1,aaw e2] at e
       obtain⟨_,_,_,_,_,kv,h6,_⟩:=x.vh u SJ
       exact absurd e.symm (fr h6)
     ·have SI:t∈D.stores:=(aal.mp ht).elim id λz=>absurd (XT.mp z) e1
      by_cases e2:u=st
      ·rw[aaw e1,aay e2] at e
       obtain⟨_,_,_,_,_,kv,h6,_⟩:=x.vh t SI
       exact absurd e (fr h6)
      ·have SJ:u∈D.stores:=(aal.mp hu).elim id λz=>absurd (XT.mp z) e2
       rw[aaw e1,aaw e2] at e
       exact x.inj t SI u SJ e
    dk:=λb hb=>by
     by_cases e:b=Y.h
     ·rw[e];exact⟨_,b_⟩
     ·rcases hb with hb|hb
      ·obtain⟨kv,h⟩:=x.dk b hb;exact⟨kv,up h e⟩
      ·rw[hb];exact⟨[],by rw[d_ ZA];exact b_⟩}
  ·exact up e (λ(z:b=Y.h)=>nw (by rw[z];exact x.wh))
  ·rcases hb with hb|hb
   ·exact .inl hb
   ·rw[hb];exact .inr pw
def Ug(A:Ad):Sp:=λvs H Q E=>∃(d l:Addr)(D:Dk)(W:Addr->Prop)(x:Str)(fs:List Str),vs=[.ref d,.str x,.ref l]/\ia A H d D W/\H l=some (.lst (gw fs))/\fs.length<=1000/\(∀y∈x::fs,kU y)/\
 ((¬∀y∈x::fs,Good y)->∀H',gv H H'->E (.ref A.jB) none H')/\((∀y∈x::fs,Good y)->x∈D.names->∀H',gv H H'->E (.ref A.jr) none H')/\((∀y∈x::fs,Good y)->x∉D.names->∀H',gv H H'->Q .jb H')
theorem qP(T:Txt mg)(O:Ok K mg A):ie P w K mg base (tU P w) 2 A.pZ A.p0 ["self","patch","files"] (Ug A):=by
 have qT:=@ug P w K mg base A T O
 refine O.l4.f.rC oN λjt A0 outer s H vs Q E hr h=>?_
 obtain⟨d,l,D,W,y,fs,rfl,X,hl,Jx,Pj,q1,q2,q3⟩:=h
 obtain⟨Y,x⟩:=id X
 have sz:sizeLine=16777216:=aaQ
 refine⟨_,(de (iD Kc rfl (ic (gD mQ (iB (a_ (pv 1) e_)) (pv 2))) (tM 3 oN) (f_ (hU (XY bx O.uD qT hr (a_ (pv 3) e_)))))
   (f_ (il (ju (o4 (by exact iS hr) (pv 1) (gL (pv 0) rfl))) (f_ (ke bx O.yF (by rfl) (lO (ip i4 (ip (mR (pv 1)) (ip i4 nO)))))) hG))),?_⟩
 refine Mo ?_;intro _
 refine⟨_,rfl,L2.jL,λa ha=>?_⟩
 have s1:gv H (upd H a (.lst [V.str y])):=(gv.refl H).new ha
 refine⟨_,rfl,a,l,_,_,rfl,rfl,b_,s1 _ _ hl,by rw[O7];show 1+_<=_;omega,λb hb=>?_⟩
 have s2:=s1.new (o:=.lst ([V.str y]++gw fs)) hb
 have JE:(upd (upd H a (.lst [V.str y])) b (.lst ([V.str y]++gw fs))) b=some (.lst (gw (y::fs))):=b_
 generalize upd (upd H a (.lst [V.str y])) b (.lst ([V.str y]++gw fs))=H2 at s2 JE
 let Jv:=λ(i:Nat) (Z:St) (H3:Hp)=>∃v,Z=[rr d,rs y,rr l,v]/\H3=H2/\∀z∈(y::fs).take i,Good z
 refine⟨b,rfl,⟨_,gN.of JE⟩,iU (K:=K) (a:=b) (xs:=gw (y::fs)) Jv ⟨none,rfl,rfl,λz hz=>by rw[abV] at hz;cases hz⟩ (by rintro _ _ _ _ ⟨_,_,e,_⟩;rw[e];exact gN.of JE) ?_ ?_⟩
 ·rintro i v Z H3 hx ⟨v0,rfl,rfl,hg⟩
  obtain⟨z,hz,rfl⟩:=lP hx
  refine⟨_,rfl,z,rfl,Pj z (XZ hz),λg=>?_,λng=>q1 (λh=>ng (h z (XZ hz))) _ s2⟩
  refine⟨_,rfl,rfl,λt ht=>?_⟩
  rw[take_snoc hz] at ht
  rcases aal.mp ht with ht|ht
  ·exact hg t ht
  ·rw[XT.mp ht];exact g
 ·rintro Z H3 ⟨v0,rfl,rfl,hg⟩
  rw[O7,aaE] at hg
  refine⟨_,rfl,_,rfl,d,A.gB,Y.dx,_,_,rfl,s2 _ _ x.hd,O.gO,O.iW,qb _ _ _,Y.m,_,rfl,i5.k (k:=sk y) (s2 _ _ x.hm),_,rfl,?_⟩
  rw[ku x.km]
  have hf:=Pj y aaD
  by_cases hm:y∈D.names
  ·rw[X0 hm]
   exact lL ⟨_,rfl,by decide+kernel,⟨_,rfl,_,rfl,hf.1,_,rfl,hf.1,⟨_,rfl,by decide+kernel,λ_=>q2 hg hm _ s2⟩⟩⟩
  ·rw[aaq hm]
   exact q3 hg hm _ s2
def NF(A:Ad):Sp:=λvs H Q E=>∃(d:Addr)(D:Dk)(W:Addr->Prop)(s:Str),vs=[.ref d,.str s]/\ia A H d D W/\kU s/\xq D.made.length/\(s∉D.names->E (.ref A.jX) none H)/\(s∈D.names->∀p,H p=none->Q (.ref p) (upd H p (.lst (gw (D.nS s)))))
theorem Lf(T:Txt mg)(O:Ok K mg A):ie P w K mg base (tU P w) 2 A.vN A.vO ["self","patch"] (NF A):=by
 have wx:=@Bq P w K mg base A T O
 refine O.Aq.f.rC tZ λjt A0 outer s H vs Q E hr h=>?_
 obtain⟨d,D,W,st,rfl,X,hf,jL,qe,q⟩:=h
 obtain⟨Y,x⟩:=id X
 have y4:D.made.length<=4000:=jL
 have sz:sizeLine=16777216:=aaQ
 refine⟨_,(de (hU (zO bx (pv 0) O.gO O.rn wx hr (a_ (pv 1) e_)))
   (f_ (hE (Ht (zF vC (gp nG).names [2] rfl (CK (gL (pv 0) rfl)) rfl (by decide+kernel) (λ_ _ _ _=>(ir (i:=2) tZ.nd rfl (Or.inl rfl))) (λ_ _ _ _=>⟨_,nN (ju (o4 (by exact iS hr) (pv 2) (zP hr (gL (pv 0) rfl) (pv 1)))),by(try simp only [kL]);rfl⟩) (λ_ _ _ _=>zc (pv 2))))))),?_⟩
 refine Mo ?_;intro _
 refine⟨_,rfl,d,Y.dx,_,rfl,x.hd,Bo,_,rfl,d,D,W,st,rfl,X,hf,λhs=>?_,λhs=>qe hs⟩
 obtain⟨a,kv,l,v1,Vt,v2,v3,_,v4⟩:=x.vn st hs
 have oe:a≠Y.m:=λz=>Vt (by rw[z];exact x.wm)
 refine⟨_,rfl,d,A.gB,Y.dx,_,_,rfl,x.hd,O.gO,O.iW,qb _ _ _,Y.m,Y.kM,rfl,x.hm,λo uz=>?_⟩
 have JC:=kq x.km
 have RC:D.names.length=D.made.length:=by unfold Dk.names;rw[O7]
 have SH:d≠Y.m:=iR x.hd x.hm (λz=>by cases z)
 have f:∀{b u},H b=some u->b≠Y.m->upd H Y.m (.nj o (.dK Y.kM)) b=some u:=λ{b u} e n=>by rw[d_ n];exact e
 refine Hu (by omega) (λi ys Z H3=>∃(v2:Option V)(zs:List Str),Z=[rr d,rs st,v2]/\H3=upd H Y.m (.nj o (.dK Y.kM))/\ys=gw zs/\zs=(D.names.take i).filter λx=>x∈D.iE st) ⟨none,[],rfl,rfl,rfl,rfl⟩ (λi ys Z H3 ⟨_,zs,_,e,e2,e3⟩=>?_) ?_ ?_
 ·rw[e,e2,e3]
  refine⟨b_,?_⟩
  rw[O7]
  exact aan (aaY _ _) (by rw[aaP];omega)
 ·rintro i k v ys Z H3 hi ⟨v0,zs,rfl,rfl,rfl,e3⟩
  obtain⟨y,hy,rfl⟩:=xt x.km hi
  refine⟨_,rfl,_,rfl,d,A.gB,Y.dx,_,_,rfl,f x.hd SH,O.gO,O.i9,tI _ _ _,_,rfl,Y.n,.ref a,rfl,?_,a,_,rfl,i5.k (k:=sk y) (f v2 oe),_,rfl,?_⟩
  ·have:=i5.k (k:=sk st) (f x.hn x.mn.symm)
   rw[v1] at this
   exact this
  ·rw[ku v3,take_snoc hy,aaI]
   by_cases hm:y∈D.iE st
   ·rw[X0 ((v4 y).mpr hm)]
    refine lL ⟨_,rfl,_,_,rfl,rfl,iY _ _,?_⟩
    rw[e3,YS (by simpa using hm),aa3]
   ·rw[aaq (λz=>hm ((v4 y).mp z))]
    refine jf ⟨_,_,rfl,rfl,rfl,?_⟩
    rw[e3,aaj (by simpa using hm),aa3,aa0]
 ·rintro ys Z H3 ⟨v0,zs,rfl,rfl,rfl,e3⟩ p pw
  rw[JC,aaE] at e3
  have G6:p≠Y.m:=λz=>by rw[z,b_] at pw;cases pw
  have D3:H p=none:=by rw[d_ G6] at pw;exact pw
  refine⟨Y.m,o,_,by rw[d_ G6.symm];exact b_,uz,?_⟩
  rw[CJ x.hm G6]
  have:=q hs p D3
  unfold Dk.nS at this
  rw[<-e3] at this
  exact this
def QS(A:Ad):Sp:=λvs H Q _=>∃(d a:Addr)(D:Dk)(W:Addr->Prop)(s:Str)(p:Pt),vs=[.ref d,.str s,.ref a]/\ia A H d D W/\Inv D/\xq D.made.length/\s∈D.stores/\oq A H a p/\p.nm∉D.names/\xq p.iw.length/\xq p.js.length/\(∀y∈ij p,y∈D.names)/\
 ∀H',ia A H' d (D.keep s p) W->oX W H H'->Q .jb H'
theorem Dj(p:Pt):(ij p).length<=p.js.length+2*p.iw.length+1:=by
 unfold ij
 rw[YO,O7]
 have h1:=aaY (λn:Nm=>decide (n.1≠p.nm)) (named p)
 have h2:=Ca p
 have h3:p.other.toList.length<=1:=by cases p.other<;>simp
 omega
theorem Dl(T:Txt mg)(O:Ok K mg A):ie P w K mg base mL 3 A.yn A.yo ["self","store","patch"] (QS A):=by
 have tR:=@sP P w K mg base A T O
 refine O.tE.f.rB qJ λjt A0 outer s H vs Q E hr h=>?_
 obtain⟨d,a,D,W,st,p,rfl,X,I,jL,hs,Mv,fresh,G5,FA,uH,q⟩:=h
 obtain⟨Y,x⟩:=id X
 have y4:D.made.length<=4000:=jL
 have Pg:p.iw.length<=4000:=G5
 have L3:p.js.length<=4000:=FA
 have sz:sizeLine=16777216:=aaQ
 have RC:D.names.length=D.made.length:=by unfold Dk.names;rw[O7]
 have Wt:=Dj p
 refine⟨_,(de (kZ 3 qJ nM)
   (de (iD aaN rfl (ic (oh O.oW tR hr (a_ (pv 2) e_))) (tM 4 qJ) (de (jA (by exact iS hr) (pv 3) (pv 4) j_ rfl)
   (f_ (hU (Kx (pv 3) (zP hr (gL (pv 0) rfl) (pv 4)) ⟨rfl,rfl,rfl,rfl⟩)))))
   (de (jA (by exact iS hr) (gL (pv 0) rfl) (gL (pv 2) rfl) (pv 3) rfl)
   (de (jA (by exact iS hr) (gL (pv 0) rfl) (gL (pv 2) rfl) (pv 2) rfl)
   (f_ (jA (by exact iS hr) (zP hr (gL (pv 0) rfl) (pv 1)) (gL (pv 2) rfl) j_ rfl)))))),?_⟩
 refine OH ?_;intro _ _ _ _
 intro nd Rt
 have s1:gv H (upd H nd (.dK [])):=(gv.refl H).new Rt
 have RI:(upd H nd (.dK [])) nd=some (.dK []):=b_
 generalize upd H nd (.dK [])=H1 at s1 RI
 refine⟨_,rfl,a,p,rfl,Mv.same s1,G5,FA,λr H2 s2 tK xG=>?_⟩
 have D5:=s1.trans s2
 have hrn:r≠nd:=λz=>by rw[z,RI] at tK;cases tK
 have WX:¬W nd:=X.jb Rt
 let Jv:=λ(i:Nat) (Z:St) (H3:Hp)=>∃(v:Option V)(kv:List (Key×V))(l:List Str),Z=[rr d,rs st,rr a,rr nd,v]/\(∀b o,H2 b=some o->b≠nd->H3 b=some o)/\H3 nd=some (.dK kv)/\kv.map (·.1)=l.map sk/\l.Nodup/\∀y,y∈l↔∃z∈(ij p).take i,y=z\/y∈D.iE z
 refine⟨r,rfl,⟨_,gN.of xG⟩,iU (K:=K) (a:=r) (xs:=gw (ij p)) Jv
  ⟨none,[],[],rfl,λb o e _=>e,s2 _ _ RI,rfl,abu,λy=>by simp⟩ (by rintro _ _ _ _ ⟨_,_,_,_,e,_⟩;exact gN.of (e _ _ xG hrn)) ?_ ?_⟩
 ·rintro i v Z H3 hx ⟨v0,kv,l,rfl,e1,e2,e3,e4,e5⟩
  obtain⟨z,hz,rfl⟩:=lP hx
  have hzm:z∈ij p:=XZ hz
  have Od:z∈D.names:=uH z hzm
  obtain⟨az,kz,lz,z1,z2,z3,z4,z5,z6⟩:=x.vn z Od
  have BA:∀y∈l,y∈D.names:=λy hy=>by
   obtain⟨t,ht,h⟩:=(e5 y).mp hy
   have htn:=uH t (List.mem_of_mem_take ht)
   rcases h with h|h
   ·rw[h];exact htn
   ·exact I.zg htn h
  have Y8:=sT e4 BA
  have hlz:=sT z5 λy hy=>I.zg Od ((z6 y).mp hy)
  have JC:=kq e3
  have hkz:=kq z4
  have hlk:=jq kv (sk z) (V.bl true)
  have ZC:az≠nd:=λe=>by rw[e,Rt] at z3;cases z3
  refine⟨_,rfl,_,rfl,nd,_,rfl,nF.k (k:=sk z) e2 (by omega),?_⟩
  have up:∀{b o},H b=some o->upd H3 nd (.dK (putK kv (sk z) (V.bl true))) b=some o:=λ{b o} e=>by
   have n:b≠nd:=λz=>by rw[z,Rt] at e;cases e
   rw[d_ n];exact e1 _ _ (D5 _ _ e) n
  refine⟨_,rfl,nd,rfl,.inl ⟨_,.inl b_⟩,_,rfl,d,A.gB,Y.dx,_,_,rfl,up x.hd,O.gO,O.i9,tI _ _ _,_,rfl,Y.n,.ref az,rfl,?_,az,_,kz,rfl,b_,.inl (up z3),ZC.symm,by omega,?_⟩
  ·have:=i5.k (k:=sk z) (up x.hn)
   rw[z1] at this
   exact this
  ·obtain⟨l',w1,w2,w3⟩:=Cd kz _ (Fi l z) lz (Cc e3 z (V.bl true)) z4 (HD e4)
   refine⟨_,_,l',rfl,λb o e n=>by rw[d_ n,d_ n];exact e1 b o e n,b_,w1,w2,λy=>?_⟩
   rw[w3 y,Fj,e5 y,z6 y,take_snoc hz]
   constructor
   ·rintro((⟨t,ht,h⟩|h)|h)
    ·exact⟨t,aaJ _ ht,h⟩
    ·exact⟨z,by simp,.inl h⟩
    ·exact⟨z,by simp,.inr h⟩
   ·rintro⟨t,ht,h⟩
    rcases aal.mp ht with ht|ht
    ·exact .inl (.inl ⟨t,ht,h⟩)
    ·rw[XT.mp ht] at h
     exact h.elim (λh=>.inl (.inr h)) .inr
 ·rintro Z H3 ⟨v0,kv,l,rfl,e1,e2,e3,e4,e5⟩
  rw[O7,aaE] at e5
  have s3:gv H H3:=λb o e=>e1 b o (D5 _ _ e) (λz=>by rw[z,Rt] at e;cases e)
  obtain⟨dx,vf,pu,cu,vo,g1,g2⟩:=Mv.same s3
  have y:=x.same s3
  have hnM:=kq x.km
  have hnN:=kq x.kn
  obtain⟨v1,v2,v3,v4,v5,Zz,v6,v7⟩:=y.vh st hs
  have hkv0:=kq v7
  have hhl:=sT (I.vk st hs) λt ht=>(I.lD st hs t ht).1
  refine⟨_,rfl,_,rfl,d,A.gB,Y.dx,_,_,rfl,y.hd,O.gO,O.i9,tI _ _ _,_,rfl,a,A.gT,dx,_,_,rfl,g1,O.jm,O.iT,sI,Y.n,_,rfl,nF.k (k:=sk p.nm) y.hn (by omega),?_⟩
  have f1:∀{b o},H3 b=some o->b≠Y.n->upd H3 Y.n (.dK (putK Y.kN (sk p.nm) (.ref nd))) b=some o:=λ{b o} e n=>by rw[d_ n];exact e
  have Mu:d≠Y.n:=iR y.hd y.hn (λz=>by cases z)
  have han:a≠Y.n:=iR g1 y.hn (λz=>by cases z)
  have SH:d≠Y.m:=iR y.hd y.hm (λz=>by cases z)
  have ham:a≠Y.m:=iR g1 y.hm (λz=>by cases z)
  refine⟨_,rfl,_,rfl,d,A.gB,Y.dx,_,_,rfl,f1 y.hd Mu,O.gO,O.iW,qb _ _ _,_,rfl,a,A.gT,dx,_,_,rfl,f1 g1 han,O.jm,O.iT,sI,Y.m,_,rfl,nF.k (k:=sk p.nm) (f1 y.hm x.mn) (by omega),?_⟩
  have f2:∀{b o},H3 b=some o->b≠Y.n->b≠Y.m->upd (upd H3 Y.n (.dK (putK Y.kN (sk p.nm) (.ref nd)))) Y.m (.dK (putK Y.kM (sk p.nm) (.ref a))) b=some o:=λ{b o} e n m=>by rw[d_ m];exact f1 e n
  refine⟨_,rfl,d,A.gB,Y.dx,_,_,rfl,f2 y.hd Mu SH,O.gO,O.iu,k9 _ _ _,_,rfl,Y.h,.ref (Y.ha st),rfl,?_,_,rfl,a,A.gT,dx,_,_,rfl,f2 g1 han ham,O.jm,O.iT,sI,Y.ha st,_,rfl,nF.k (k:=sk p.nm) (f2 v6 v4 v3) (by omega),?_⟩
  ·have:=i5.k (k:=sk st) (f2 y.hh x.nh.symm x.mh.symm)
   rw[v1] at this
   exact this
  ·have Vu:p.nm∉D.held st:=λz=>fresh (I.lD st hs _ z).1
   have f3:∀{b o},H3 b=some o->b≠Y.n->b≠Y.m->b≠Y.ha st->upd (upd (upd H3 Y.n (.dK (putK Y.kN (sk p.nm) (.ref nd)))) Y.m (.dK (putK Y.kM (sk p.nm) (.ref a)))) (Y.ha st) (.dK (putK Zz (sk p.nm) (V.bl true))) b=some o:=λ{b o} e n m h=>by rw[d_ h];exact f2 e n m
   have f4:∀{b q},oq A H3 b q->oq A (upd (upd (upd H3 Y.n (.dK (putK Y.kN (sk p.nm) (.ref nd)))) Y.m (.dK (putK Y.kM (sk p.nm) (.ref a)))) (Y.ha st) (.dK (putK Zz (sk p.nm) (V.bl true)))) b q:=λz=>((z.dk y.hn).dk (f1 y.hm x.mn)).dk (f2 v6 v4 v3)
   have nW:∀{b},¬W b->b≠Y.n/\b≠Y.m/\b≠Y.ha st:=λ{b} h=>⟨λz=>h (by rw[z];exact x.wn),λz=>h (by rw[z];exact x.wm),λz=>h (by rw[z];exact v2)⟩
   refine q _ ⟨{Y with kM:=putK Y.kM (sk p.nm) (.ref a),kN:=putK Y.kN (sk p.nm) (.ref nd)},?_⟩ λb o e n=>f3 (s3 _ _ e) (nW n).1 (nW n).2.1 (nW n).2.2
   have G8:(D.keep st p).names=D.names++[p.nm]:=by
    show(D.made++[p]).map (·.nm)=_
    rw[aaH];rfl
   exact{
    hd:=f3 y.hd Mu SH (iR y.hd v6 (λz=>by cases z))
    hm:=by
     show upd _ (Y.ha st) _ Y.m=_
     rw[d_ v3.symm];exact b_
    hn:=by
     show upd _ (Y.ha st) _ Y.n=_
     rw[d_ v4.symm,d_ x.mn.symm];exact b_
    hh:=f3 y.hh x.nh.symm x.mh.symm v5.symm
    mn:=x.mn
    mh:=x.mh
    nh:=x.nh
    wm:=x.wm
    wn:=x.wn
    wh:=x.wh
    km:=by rw[G8];exact p_ x.km fresh _
    vm:=λq hq=>by
     show ∃b,iN (putK Y.kM (sk p.nm) (.ref a)) (sk q.nm)=some (.ref b)/\_
     rw[kc]
     rcases aal.mp hq with hq|hq
     ·obtain⟨b,w1,w2⟩:=y.vm q hq
      have oe:q.nm≠p.nm:=λz=>fresh (by rw[<-z];exact aaf hq)
      rw[aaw (λz=>oe (acH z))]
      exact⟨b,w1,f4 w2⟩
     ·rw[XT.mp hq,aay rfl]
      exact⟨a,rfl,f4 (Mv.same s3)⟩
    kn:=by rw[G8];exact p_ x.kn fresh _
    vn:=λt ht=>by
     rw[G8] at ht
     show ∃(b:Addr)(kv:List (Key×V))(l:List Str),iN (putK Y.kN (sk p.nm) (.ref nd)) (sk t)=some (.ref b)/\¬W b/\_/\kv.map (·.1)=l.map sk/\l.Nodup/\∀u,u∈l↔u∈(if t=p.nm then qx D.iE p else D.iE t)
     rw[kc]
     by_cases e:t=p.nm
     ·rw[aay (by rw[e]),aay e]
      refine⟨nd,kv,l,rfl,WX,f3 e2 (nW WX).1 (nW WX).2.1 (nW WX).2.2,e3,e4,λu=>?_⟩
      rw[e5 u]
      unfold qx
      rw[abj]
      exact⟨λ⟨z,h1,h2⟩=>⟨z,h1,aah.mpr h2⟩,λ⟨z,h1,h2⟩=>⟨z,h1,aah.mp h2⟩⟩
     ·rw[aaw (λz=>e (acH z)),aaw e]
      have SI:t∈D.names:=(aal.mp ht).elim id λz=>absurd (XT.mp z) e
      obtain⟨b,ZD,l',w1,w2,w3,w4⟩:=y.vn t SI
      exact⟨b,ZD,l',w1,w2,f3 w3 (nW w2).1 (nW w2).2.1 (nW w2).2.2,w4⟩
    kh:=x.kh
    vh:=λt ht=>by
     obtain⟨h1,h2,h3,h4,h5,ZD,h6,h7⟩:=y.vh t ht
     refine⟨h1,h2,h3,h4,h5,?_⟩
     show ∃kv:List (Key×V),_/\kv.map (·.1)=(if t=st then D.held st++[p.nm] else D.held t).map sk
     by_cases e:t=st
     ·subst e
      rw[aay rfl]
      exact⟨_,b_,p_ v7 Vu _⟩
     ·rw[aaw e]
      exact⟨ZD,f3 h6 h4 h3 (λz=>e (x.inj t ht st hs z)),h7⟩
    inj:=x.inj
    dk:=λb hb=>by
     by_cases h1:b=Y.ha st
     ·rw[h1];exact⟨_,b_⟩
     ·by_cases h2:b=Y.m
      ·rw[h2,d_ v3.symm];exact⟨_,b_⟩
      ·by_cases h3:b=Y.n
       ·rw[h3,d_ v4.symm,d_ x.mn.symm];exact⟨_,b_⟩
       ·obtain⟨kv,h⟩:=y.dk b hb
        exact⟨kv,f3 h h3 h2 h1⟩}
theorem IY(D:Dk)(s x:Str):D.take s x=xu D s (D.held s++D.oj s x):=rfl
theorem IZ(D:Dk)(s x:Str):D.drop s x=xu D s ((D.held s).filter λy=>y≠x):=rfl
theorem I_(D:Dk)(s:Str)(l l':List Str):xu (xu D s l) s l'=xu D s l':=by
 unfold xu
 congr 1
 funext t
 show(if t=s then l' else(if t=s then l else D.held t))=_
 by_cases e:t=s
 ·rw[aay e,aay e]
 ·rw[aaw e,aaw e,aaw e]
theorem Ja(D:Dk)(s:Str):xu D s (D.held s)=D:=by
 cases D
 unfold xu
 congr 1
 funext t
 show(if t=s then _ else _)=_
 by_cases e:t=s
 ·rw[aay e,e]
 ·rw[aaw e]
def QT(A:Ad):Sp:=λvs H Q E=>∃(d:Addr)(D:Dk)(W:Addr->Prop)(s c x:Str),vs=[.ref d,.str s,.str c,.str x]/\ia A H d D W/\Inv D/\xq D.made.length/\kU s/\kU c/\kU x/\
 (s∉D.stores->E (.ref A.iP) none H)/\(s∈D.stores->c∉D.stores->E (.ref A.iP) none H)/\(s∈D.stores->c∈D.stores->x∉D.held c->E (.ref A.jX) none H)/\
 (s∈D.stores->c∈D.stores->x∈D.held c->∀p H1 H',gv H H1->H1 p=none->H' p=some (.lst (gw (D.oj s x)))->ia A H' d (D.take s x) W->oX W (upd H1 p (.lst (gw (D.oj s x)))) H'->Q (.ref p) H')
theorem GQ{D:Dk}(I:Inv D){s x:Str}(hx:x∈D.names):(D.oj s x).Nodup/\∀y∈D.oj s x,y∈D.names/\y∉D.held s:=by
 refine⟨?_,λy hy=>?_⟩
 ·refine acr aa6 ?_
  rw[abi]
  refine⟨acr aa6 I.nd,by simp,λa ha b hb z=>?_⟩
  rw[XT.mp hb] at z
  subst z
  exact I.BX hx (aaB (aap.mp ha).2)
 ·obtain⟨h1,h2⟩:=aap.mp hy
  refine⟨?_,aaB h2⟩
  rcases aal.mp h1 with h|h
  ·exact(aap.mp h).1
  ·rw[XT.mp h];exact hx
theorem NG(T:Txt mg)(O:Ok K mg A):ie P w K mg base (tU P w) 3 A.yj A.yk ["self","store","source","patch"] (QT A):=by
 have h_:=@jY P w K mg base A T O
 have jK:=@pd P w K mg base A T O
 have DC:=@Lf P w K mg base A T O
 refine O.B2.f.rC lV λjt A0 outer s H vs Q E hr h=>?_
 obtain⟨d,D,W,st,c,y,rfl,X,I,jL,hf,hfc,G7,q1,q2,q3,q4⟩:=h
 obtain⟨Y,x⟩:=id X
 have y4:D.made.length<=4000:=jL
 have sz:sizeLine=16777216:=aaQ
 have RC:D.names.length=D.made.length:=by unfold Dk.names;rw[O7]
 refine⟨_,(de (hU (zO bx (pv 0) O.gO O.iQ h_ hr (a_ (pv 1) e_)))
   (de (hU (zO bx (pv 0) O.gO O.iQ h_ hr (a_ (pv 2) e_)))
   (de (hU (zO bx (pv 0) O.gO O.lr jK hr (a_ (pv 2) (a_ (pv 3) e_))))
   (de (kZ 4 lV (gD mQ (zO bx (pv 0) O.gO O.Aq DC hr (a_ (pv 3) e_)) (iB (a_ (pv 3) e_))))
   (de (wL (j:=5) x5 (gp oH).names [6] lV.nd rfl rfl rfl (ic (pv 4)) rfl (by decide+kernel) (λ_ _ _ _=>(ir (i:=6) lV.nd rfl (Or.inl rfl))) (λ_ _ _ _=>⟨_,nN (ju (lC (by exact iS hr) (pv 6) (zP hr (gL (pv 0) rfl) (pv 1)))),by(try simp only [kL]);rfl⟩) (λ_ _ _ _=>zc (pv 6)))
   (de (iD Kc rfl (ic (pv 5)) (tM 6 lV) (f_ (jA (by exact iS hr) (zP hr (gL (pv 0) rfl) (pv 1)) (pv 6) j_ rfl)))
   (f_ (hE (pv 5))))))))),?_⟩
 refine sl7 ?_;intro _ _ _ _ _ _
 refine⟨_,rfl,d,Y.dx,_,rfl,x.hd,jy,_,rfl,d,D,W,st,rfl,X,hf,λhs=>?_,λhs=>q1 hs⟩
 refine⟨_,rfl,d,Y.dx,_,rfl,x.hd,jy,_,rfl,d,D,W,c,rfl,X,hfc,λhc=>?_,λhc=>q2 hs hc⟩
 refine⟨_,rfl,d,Y.dx,_,rfl,x.hd,pb,_,rfl,_,rfl,d,D,W,c,y,rfl,X,hfc,G7,hc,λhy=>?_,λhy=>q3 hs hc hy⟩
 have hyn:y∈D.names:=(I.lD c hc y hy).1
 have Y8:(D.nS y).length<=D.names.length:=aaY _ _
 refine⟨_,rfl,d,Y.dx,_,rfl,x.hd,La,_,rfl,d,D,W,y,rfl,X,G7,jL,λh=>absurd hyn h,λ_ p pw=>?_⟩
 have s1:=(gv.refl H).new (o:=.lst (gw (D.nS y))) pw
 refine⟨_,rfl,L2.jL,λb hb=>?_⟩
 have s2:=s1.new (o:=.lst [V.str y]) hb
 refine⟨p,b,_,_,rfl,rfl,hX hb b_,b_,by rw[O7];show _+1<=_;omega,λwt Sx=>?_⟩
 have s3:=s2.new (o:=.lst (gw (D.nS y)++[V.str y])) Sx
 have ZE:(upd (upd (upd H p (.lst (gw (D.nS y)))) b (.lst [V.str y])) wt (.lst (gw (D.nS y)++[V.str y]))) wt=some (.lst (gw (D.nS y++[y]))):=by rw[b_,iY]
 generalize upd (upd (upd H p (.lst (gw (D.nS y)))) b (.lst [V.str y])) wt (.lst (gw (D.nS y)++[V.str y]))=H3 at s3 ZE
 have x3:=x.same s3
 obtain⟨v1,v2,v3,v4,v5,kv,v6,v7⟩:=x3.vh st hs
 refine⟨_,rfl,wt,rfl,⟨_,gN.of ZE⟩,jD (K:=K) (a:=wt) (xs:=gw (D.nS y++[y])) (by rw[O7,YO];show _+1<=_;omega) (λi ys Z H4=>∃(v6:Option V)(zs:List Str),Z=[rr d,rs st,rs c,rs y,rr wt,none,v6]/\H4=H3/\ys=gw zs/\zs.length<=i/\zs=((D.nS y++[y]).take i).filter λz=>z∉D.held st)
  ⟨none,[],rfl,rfl,rfl,XW _,rfl⟩ (by rintro _ _ _ _ _ ⟨_,zs,_,e,e2,e3,_⟩;rw[e,e2];exact⟨gN.of ZE,by rw[O7];exact e3⟩) ?_ ?_⟩
 ·rintro i v ys Z H4 hx ⟨ZF,zs,rfl,rfl,rfl,e3,e4⟩
  obtain⟨z,hz,rfl⟩:=lP hx
  refine⟨_,rfl,_,rfl,d,A.gB,Y.dx,_,_,rfl,x3.hd,O.gO,O.iu,k9 _ _ _,_,rfl,Y.h,.ref (Y.ha st),rfl,?_,Y.ha st,_,rfl,i5.k (k:=sk z) v6,_,rfl,?_⟩
  ·have:=i5.k (k:=sk st) x3.hh
   rw[v1] at this
   exact this
  ·rw[ku v7,take_snoc hz,aaI]
   by_cases hm:z∈D.held st
   ·rw[X0 hm]
    refine jf ⟨_,_,rfl,rfl,rfl,by omega,?_⟩
    rw[e4,aaj (by simpa using hm),aa3,aa0]
   ·rw[aaq hm]
    refine lL ⟨_,rfl,_,_,rfl,rfl,iY _ _,OK,?_⟩
    rw[e4,YS (by simpa using hm),aa3]
 ·rintro ys Z H4 ⟨ZF,zs,rfl,rfl,rfl,e3,e4⟩ cm So
  have e0:(gw (D.nS y++[y])).length=(D.nS y++[y]).length:=by rw[O7]
  rw[e0,aaE] at e4
  have e4:zs=D.oj st y:=e4
  subst e4
  obtain⟨nc1,nc2⟩:=GQ (s:=st) I hyn
  have Mt:=sT nc1 λt ht=>(nc2 t ht).1
  have s4:=s3.new (o:=.lst (gw (D.oj st y))) So
  have x4:=x.same s4
  have L4:(upd H4 cm (.lst (gw (D.oj st y)))) cm=some (.lst (gw (D.oj st y))):=b_
  have Vv:¬W cm:=λz=>by obtain⟨kv,e⟩:=x4.dk cm z;rw[L4] at e;cases e
  have Vw:=λH' a b c=>q4 hs hc hy cm H4 H' s3 So a b c
  generalize upd H4 cm (.lst (gw (D.oj st y)))=H5 at s4 x4 L4 Vw
  dsimp only [lA];refine JA ?_;intro _
  let Jv:=λ(i:Nat) (Z:St) (H6:Hp)=>∃(v6:Option V)(Y':Dp),Z=[rr d,rs st,rs c,rs y,rr wt,rr cm,v6]/\ON A H6 d (xu D st (D.held st++(D.oj st y).take i)) W Y'/\oX W H5 H6
  refine⟨_,rfl,cm,rfl,⟨_,gN.of L4⟩,iU (K:=K) (a:=cm) (xs:=gw (D.oj st y)) Jv
   ⟨none,Y,rfl,by rw[abV,aa0,Ja];exact x4,λb o e _=>e⟩ (by rintro _ _ _ _ ⟨_,_,_,_,e⟩;exact gN.of (e _ _ L4 Vv)) ?_ ?_⟩
  ·rintro i v Z H6 hx ⟨ZF,Y',rfl,x6,e6⟩
   obtain⟨z,hz,rfl⟩:=lP hx
   have hi:i<(D.oj st y).length:=(List.getElem?_eq_some_iff.mp hz).1
   obtain⟨w1,w2,w3,w4,w5,kv6,w6,w7⟩:=x6.vh st hs
   have w7:kv6.map (·.1)=(D.held st++(D.oj st y).take i).map sk:=by
    rw[w7]
    show(if st=st then _ else _:List Str).map sk=_
    rw[aay rfl]
   have JC:=kq w7
   have hhl:=sT (I.vk st hs) λt ht=>(I.lD st hs t ht).1
   rw[YO,aaP] at JC
   refine⟨_,rfl,d,A.gB,Y'.dx,_,_,rfl,x6.hd,O.gO,O.iu,k9 _ _ _,_,rfl,Y'.h,.ref (Y'.ha st),rfl,?_,_,rfl,Y'.ha st,_,rfl,nF.k (k:=sk z) w6 (by omega),?_⟩
   ·have:=i5.k (k:=sk st) x6.hh
    rw[w1] at this
    exact this
   ·have Vx:z∉D.held st++(D.oj st y).take i:=λhm=>by
     rcases aal.mp hm with hm|hm
     ·exact(nc2 z (XZ hz)).2 hm
     ·obtain⟨j,hj⟩:=aaU.mp hm
      have Ju:j<i:=by have:=(List.getElem?_eq_some_iff.mp hj).1;rw[aaP] at this;omega
      rw[acb,aay Ju] at hj
      have:=(abS (List.getElem?_eq_some_iff.mp hj).1 nc1).mp (hj.trans hz.symm)
      omega
    have x7:=x6.xu (l:=D.held st++(D.oj st y).take (i+1)) (kv:=putK kv6 (sk z) (V.bl true)) hs (by rw[take_snoc hz,<-aa5];exact p_ w7 Vx _)
    rw[I_] at x7
    exact⟨_,Y',rfl,x7,λb o e n=>by rw[d_ (λ(z:b=Y'.ha st)=>n (by rw[z];exact w2))];exact e6 b o e n⟩
  ·rintro Z H6 ⟨ZF,Y',rfl,x6,e6⟩
   rw[O7,aaE,<-IY] at x6
   exact⟨_,rfl,Vw H6 (e6 _ _ L4 Vv) ⟨Y',x6⟩ e6⟩
def QU(A:Ad):Sp:=λvs H Q E=>∃(d:Addr)(D:Dk)(W:Addr->Prop)(s x:Str),vs=[.ref d,.str s,.str x]/\ia A H d D W/\Inv D/\xq D.made.length/\kU s/\kU x/\(∀z∈D.names,kU z)/\
 (s∉D.stores->E (.ref A.iP) none H)/\(s∈D.stores->x∉D.held s->E (.ref A.jX) none H)/\(s∈D.stores->x∈D.held s->¬(∀z∈D.held s,x∉D.iE z)->E (.ref A.tw) none H)/\(s∈D.stores->x∈D.held s->(∀z∈D.held s,x∉D.iE z)->∀H',ia A H' d (D.drop s x) W->oX W H H'->Q .jb H')
theorem NH(T:Txt mg)(O:Ok K mg A):ie P w K mg base (tU P w) 2 A.yl A.ym ["self","store","patch"] (QU A):=by
 have h_:=@jY P w K mg base A T O
 have jK:=@pd P w K mg base A T O
 refine O.B3.f.rC vB λjt A0 outer s H vs Q E hr h=>?_
 obtain⟨d,D,W,st,y,rfl,X,I,jL,hf,G7,hfz,q1,q2,q3,q5⟩:=h
 obtain⟨Y,x⟩:=id X
 have y4:D.made.length<=4000:=jL
 have sz:sizeLine=16777216:=aaQ
 refine⟨_,(de (hU (zO bx (pv 0) O.gO O.iQ h_ hr (a_ (pv 1) e_)))
   (de (hU (zO bx (pv 0) O.gO O.lr jK hr (a_ (pv 1) (a_ (pv 2) e_))))
   (de (zb (iD Kc rfl (CK (zP hr (gL (pv 0) rfl) (pv 1))) (tM 3 vB) (f_ (il (ju (o4 (by exact iS hr) (pv 2) (zP hr (gL (pv 0) rfl) (pv 3)))) (f_ (KC (ke bx O.Nk (by rfl) (lO (ip (mR (pv 3)) (ip i4 (ip (mR (pv 2)) nO))))))) hG))))
   (f_ (hU (J0 (zP hr (gL (pv 0) rfl) (pv 1)) (pv 2) ⟨rfl,rfl,rfl,rfl⟩)))))),?_⟩
 refine OG ?_;intro _ _ _
 refine⟨_,rfl,d,Y.dx,_,rfl,x.hd,jy,_,rfl,d,D,W,st,rfl,X,hf,λhs=>?_,λhs=>q1 hs⟩
 refine⟨_,rfl,d,Y.dx,_,rfl,x.hd,pb,_,rfl,_,rfl,d,D,W,st,y,rfl,X,hf,G7,hs,λhy=>?_,λhy=>q2 hs hy⟩
 obtain⟨v1,v2,v3,v4,v5,kv,v6,v7⟩:=x.vh st hs
 have hdg:i5 H Y.h (.str st) (some (.ref (Y.ha st))):=by
  have:=i5.k (k:=sk st) x.hh
  rw[v1] at this
  exact this
 refine⟨_,rfl,d,A.gB,Y.dx,_,_,rfl,x.hd,O.gO,O.iu,k9 _ _ _,_,rfl,Y.h,.ref (Y.ha st),rfl,hdg,Y.ha st,kv,rfl,v6,λo uz=>?_⟩
 have f:∀{b u},H b=some u->b≠Y.ha st->upd H (Y.ha st) (.nj o (.dK kv)) b=some u:=λ{b u} e n=>by rw[d_ n];exact e
 have O5:d≠Y.ha st:=iR x.hd v6 (λz=>by cases z)
 let Jv:=λ(i:Nat) (Z:St) (H3:Hp)=>∃(v:Option V),Z=[rr d,rs st,rs y,v]/\H3=upd H (Y.ha st) (.nj o (.dK kv))/\∀z∈(D.held st).take i,y∉D.iE z
 refine Kg (d:=Y.ha st) (o:=o) (kvs:=kv) Jv ⟨none,rfl,rfl,λz hz=>by rw[abV] at hz;cases hz⟩ (by rintro _ _ _ ⟨_,_,e,_⟩;rw[e];exact b_) ?_ ?_
 ·rintro i k v Z H3 hi ⟨v0,rfl,rfl,Jr⟩
  obtain⟨z,hz,rfl⟩:=xt v7 hi
  have hzh:z∈D.held st:=XZ hz
  have Od:=(I.lD st hs z hzh).1
  obtain⟨a,ka,la,w1,w2,w3,w4,_,w6⟩:=x.vn z Od
  refine⟨_,rfl,_,rfl,d,A.gB,Y.dx,_,_,rfl,f x.hd O5,O.gO,O.i9,tI _ _ _,_,rfl,Y.n,.ref a,rfl,?_,a,_,rfl,i5.k (k:=sk y) (f w3 (λz=>w2 (by rw[z];exact v2))),_,rfl,?_⟩
  ·have:=i5.k (k:=sk z) (f x.hn v4.symm)
   rw[w1] at this
   exact this
  ·rw[ku w4]
   by_cases WY:y∈D.iE z
   ·rw[X0 ((w6 y).mpr WY)]
    refine lL ⟨Y.ha st,o,_,b_,uz,?_⟩
    rw[wR v6]
    have WB:=(hfz z Od).1
    exact⟨_,rfl,_,rfl,WB,_,rfl,WB,⟨_,rfl,by decide+kernel,⟨_,rfl,_,rfl,G7.1,_,rfl,G7.1,λ_=>q3 hs hy λh=>h z hzh WY⟩⟩⟩
   ·rw[aaq (λh=>WY ((w6 y).mp h))]
    refine jf ⟨_,rfl,rfl,λt ht=>?_⟩
    rw[take_snoc hz] at ht
    rcases aal.mp ht with ht|ht
    ·exact Jr t ht
    ·rw[XT.mp ht];exact WY
 ·rintro Z H3 ⟨v0,rfl,rfl,wq⟩
  have JC:=kq v7
  rw[JC,aaE] at wq
  have q4:=q5 hs hy wq
  refine⟨Y.ha st,o,_,b_,uz,?_⟩
  rw[wR v6]
  have Dz:∃v,iN kv (sk y)=some v:=by
   have:=ku v7 y
   rw[X0 hy] at this
   exact Option.isSome_iff_exists.mp this
  obtain⟨vv,hvv⟩:=Dz
  refine⟨_,rfl,d,A.gB,Y.dx,_,_,rfl,x.hd,O.gO,O.iu,k9 _ _ _,_,rfl,Y.h,.ref (Y.ha st),rfl,hdg,Y.ha st,rfl,.inl ⟨_,.inl v6⟩,_,rfl,kv,sk y,vv,v6,rfl,hvv,?_⟩
  refine q4 _ ⟨Y,?_⟩ λb u e n=>by rw[d_ (λ(z:b=Y.ha st)=>n (by rw[z];exact v2))];exact e
  rw[IZ]
  exact x.xu hs (GO v7)
theorem Az(l:List Str):Paired (λ(x:Str) (v:V)=>v=.str x) l (gw l):=by
 induction l with
 | nil=>exact .nil
 | cons x r ih=>exact .cons rfl ih
theorem NI{n:Nat}{K:Qqy}{H:Hp}{a c:Addr}{x y:List Str}(h1:gN K H a (gw x))(h2:gN K H c (gw y)):mO K H (n+1) (.ref a) (.ref c) (decide (x=y)):=
 mO.MV (F:=λ(x:Str) (v:V)=>v=.str x) (λp q u v hu hv=>by subst hu hv;exact mO.CI p q) h1 h2 (Az x) (Az y)
def NJ(n:Int):Int->List Int->Prop
 | _,[]=>True
 | l,p::r=>(l<=p/\p<n)/\NJ n (p+1) r
def Lg(A:Ad):Sp:=λvs H Q E=>∃(a:Addr)(ps:List Int)(n:Int),vs=[.ref a,.int n]/\H a=some (.lst (ps.map V.int))/\(∀p∈ps,p.natAbs.log2<1920)/\(NJ n 0 ps->Q .jb H)/\(¬NJ n 0 ps->E (.ref A.oa) none H)
theorem yY(T:Txt mg)(O:Ok K mg A):ie P w K mg base (tU P w) 1 A.sd A.se ["places","size"] (Lg A):=by
 refine O.vS.f.rC lj λjt A0 outer s H vs Q E hr h=>?_
 obtain⟨a,ps,n,rfl,ha,RJ,q,qe⟩:=h
 refine⟨_,(de (kZ 2 lj gm)
   (f_ (iD Kc rfl (ic (pv 0)) (tM 3 lj) (de (il (kB (Eg JM Ee (pv 2) (pv 3) (pv 1))) (f_ (ke bx O.KU (by rfl) (lO (ip i4 (ip (Kk (pv 3)) (ip i4 nO)))))) hG)
   (f_ (kZ 2 lj (gD iy (pv 3) gm))))))),?_⟩
 refine Mo ?_;intro _
 let Jv:=λ(i:Nat) (Z:St) (H2:Hp)=>∃(l:Int)(v:Option V),Z=[rr a,ri n,ri l,v]/\H2=H/\(NJ n 0 ps↔NJ n l (ps.drop i))
 refine⟨_,rfl,a,rfl,⟨_,gN.of ha⟩,iU (K:=K) (a:=a) (xs:=ps.map V.int) Jv ⟨0,none,rfl,rfl,Iff.rfl⟩ (by rintro _ _ _ _ ⟨_,_,_,e,_⟩;rw[e];exact gN.of ha) ?_ ?_⟩
 ·rintro i v Z H2 hx ⟨l,v0,rfl,rfl,e⟩
  rw[aao] at hx
  obtain⟨p,hp,rfl⟩:=Option.map_eq_some_iff.mp hx
  have hi:i<ps.length:=(List.getElem?_eq_some_iff.mp hp).1
  have hd:ps.drop i=p::ps.drop (i+1):=by rw[aa7 hi];congr 1;exact(List.getElem?_eq_some_iff.mp hp).2
  rw[hd] at e
  have hl:=RJ p (XZ hp)
  refine⟨_,rfl,_,rfl,_,_,rfl,rfl,_,rfl,?_⟩
  refine kY (λh1=>?_) (λh1=>?_)
  ·have h1:l<=p:=by simpa using h1
   refine⟨_,rfl,_,_,rfl,rfl,_,rfl,?_⟩
   refine kY (λh2=>?_) (λh2=>?_)
   ·have h2:¬p<n:=by simpa using h2
    refine⟨_,rfl,by decide+kernel,⟨_,rfl,_,rfl,hl,_,rfl,?_⟩⟩
    exact⟨aan (PyProof.Rows.int_text_len_1921 hl) (by decide),⟨_,rfl,by decide+kernel,λ_=>qe λz=>h2 (e.mp z).1.2⟩⟩
   ·have h2:p<n:=by simpa using h2
    refine⟨_,rfl,_,_,rfl,rfl,_,_,rfl,rfl,e.trans ⟨λz=>z.2,λz=>⟨⟨h1,h2⟩,z⟩⟩⟩
  ·have h1:¬l<=p:=by simpa using h1
   refine⟨_,rfl,?_⟩
   refine⟨_,rfl,by decide+kernel,⟨_,rfl,_,rfl,hl,_,rfl,?_⟩⟩
   exact⟨aan (PyProof.Rows.int_text_len_1921 hl) (by decide),⟨_,rfl,by decide+kernel,λ_=>qe λz=>h1 (e.mp z).1.1⟩⟩
 ·rintro Z H2 ⟨l,v0,rfl,rfl,e⟩
  rw[O7,acG] at e
  exact q (e.mpr trivial)
def Uh(A:Ad):Sp:=λvs H Q E=>∃(d t:Addr)(D:Dk)(W:Addr->Prop)(s x f:Str)(texts:List Str),vs=[.ref d,.str s,.str x,.str f,.ref t]/\ia A H d D W/\Inv D/\Small D.made/\(D.made.flatMap (·.iw)).length<=1000/\kU s/\kU x/\kU f/\H t=some (.lst (gw texts))/\texts.length<=1000/\
 (s∉D.stores->E (.ref A.iP) none H)/\
 (s∈D.stores->¬(Good x/\Good f)->∀H',gv H H'->E (.ref A.jB) none H')/\
 (s∈D.stores->Good x->Good f->x∈D.names->∀H',gv H H'->E (.ref A.jr) none H')/\
 (s∈D.stores->Good x->Good f->x∉D.names->D.jQ s f≠[]->∀H',gv H H'->E (.ref A.lF) none H')/\
 (s∈D.stores->Good x->Good f->x∉D.names->D.jQ s f=[]->(D.row s f).map (·.tx)=texts->∀H',gv H H'->E (.ref A.uA) none H')/\
 (s∈D.stores->Good x->Good f->x∉D.names->D.jQ s f=[]->(D.row s f).map (·.tx)≠texts->∀H',ia A H' d (D.keep s (jV x f (D.row s f) texts)) W->oX W H H'->Q .jb H')
theorem lH{x f:Str}:(∀y∈[x,f],Good y)↔Good x/\Good f:=by
 constructor
 ·exact λh=>⟨h x (by simp),h f (by simp)⟩
 ·rintro⟨h1,h2⟩ y hy
  rcases aah.mp hy with z|z
  ·rw[z];exact h1
  ·rw[XT.mp z];exact h2
theorem wb{D:Dk}(I:Inv D){s f x:Str}(hs:s∈D.stores)(texts:List Str):∀y∈ij (jV x f (D.row s f) texts),y∈D.names:=by
 intro y hy
 unfold ij at hy
 rcases aal.mp hy with hy|hy
 ·obtain⟨m,hm,rfl⟩:=List.mem_map.mp hy
  obtain⟨hm,hn⟩:=aap.mp hm
  have hn:m.1≠x:=aaB hn
  have fin:m∈(D.row s f).map (·.nm)->m.1∈D.names:=λh=>by
   obtain⟨l,hl,rfl⟩:=List.mem_map.mp h
   obtain⟨p,h1,_,h3⟩:=I.tq hl
   have hp:=(Inv.lg.mp h1).1
   rw[me (I.D1 p hp) (aaf h3)]
   exact aaf hp
  rcases aal.mp hm with hm|hm
  ·obtain⟨l,hl,rfl⟩:=List.mem_map.mp hm
   exact fin (aaf (aap.mp hl).1)
  ·obtain⟨l,hl,hm⟩:=abj.mp hm
   have Ms:l.up=some m\/l.lo=some m:=by
    rcases aal.mp hm with hm|hm
    ·exact .inl (by simpa using hm)
    ·exact .inr (by simpa using hm)
   rcases ze texts 0 0 none l hl m Ms with(z|⟨t,z⟩)|z
   ·cases z
   ·obtain⟨q,_,_,l',yL,rfl⟩:=CN z
    exact fin (aaf (XZ yL))
   ·rw[vj] at z
    obtain⟨j,_,rfl⟩:=List.mem_map.mp z
    exact absurd rfl hn
 ·cases hy
theorem qQ{x f:Str}{row:List Ln}{texts:List Str}:(jV x f row texts).iw.length<=texts.length/\(jV x f row texts).js.length<=row.length:=by
 have rise:=pI (row.map (·.tx)) texts
 rw[O7] at rise
 have h:=Hx rise x
 refine⟨by show(ki x texts _).length<=_;omega,?_⟩
 show((row.filter _).map _).length<=_
 rw[O7]
 exact aaY _ _
theorem Ce(T:Txt mg)(O:Ok K mg A):ie P w K mg base (tU P w) 6 A.uc A.ud ["self","store","patch","file","texts"] (Uh A):=by
 have h_:=@jY P w K mg base A T O
 have j0:=@qP P w K mg base A T O
 have jg:=@oZ P w K mg base A T O
 have kX:=@sO P w K mg base A T O
 have xI:=@v_ P w K mg base A T O
 have mI:=@Dl P w K mg base A T O
 refine O.sE.f.rC n4 λjt A0 outer s H vs Q E hr h=>?_
 obtain⟨d,t,D,W,st,y,f,texts,rfl,X,I,sm,ZG,wz,G7,RK,ht,N7,q1,q2,q3,q4,q5,q6⟩:=h
 obtain⟨Y,x⟩:=id X
 have sz:sizeLine=16777216:=aaQ
 have Dy:(D.row st f).length<=1000:=aan (I.vq st f) ZG
 refine⟨_,(de (hU (zO bx (pv 0) O.gO O.iQ h_ hr (a_ (pv 1) e_)))
   (de (hU (zO bx (pv 0) O.gO O.l4 j0 hr (a_ (pv 2) (a_ (iB (a_ (pv 3) e_)) e_))))
   (de (kZ 5 n4 (zO bx (pv 0) O.gO O.k8 jg hr (a_ (pv 1) (a_ (pv 3) e_))))
   (de (il (uX (Eh (pv 5) O.j8 O.jI.t kX (hr.mono (by decide)) O.jI.b .nil pF) (λ_=>rfl)) (f_ (ke bx O.E5 (by rfl) (lO (ip i4 (ip (mR (pv 3)) (ip i4 nO)))))) hG)
   (de (il (hV (J9 3 (by exact OF hr)) (tT tY (gp my).names [6] rfl (ic (gL (pv 5) rfl)) rfl (by decide+kernel) (λ_ _ _ _=>(ir (i:=6) n4.nd rfl (Or.inl rfl))) (λ_ _ _ _=>lN) (λ_ _ _ _=>zc (gL (pv 6) rfl))) (pv 4) (iA _)) (f_ (ke bx O.KW (by rfl) (lO (ip i4 (ip (mR (pv 3)) (ip i4 nO)))))) hG)
   (f_ (hU (xW (pv 0) O.gO O.tE mI hr (a_ (pv 1) (a_ (oh O.sD xI hr (a_ (pv 2) (a_ (pv 3) (a_ (gL (pv 5) rfl) (a_ (pv 4) e_))))) e_)))))))))),?_⟩
 refine R8 ?_;intro _ _ _ _ _
 refine⟨_,rfl,d,Y.dx,_,rfl,x.hd,jy,_,rfl,d,D,W,st,rfl,X,wz,λhs=>?_,λhs=>q1 hs⟩
 refine⟨_,rfl,d,Y.dx,_,rfl,x.hd,qN,_,rfl,_,rfl,L2.jL,λl hl=>?_⟩
 have s1:gv H (upd H l (.lst [V.str f])):=(gv.refl H).new hl
 refine⟨d,l,D,W,y,[f],rfl,X.same s1,b_,by show 1<=1000;decide,λz hz=>?_,λh H' s'=>q2 hs (λg=>h (lH.mpr g)) H' (s1.trans s'),λh hn H' s'=>q3 hs (lH.mp h).1 (lH.mp h).2 hn H' (s1.trans s'),λh hn H2 s2=>?_⟩
 ·rcases aah.mp hz with z|z
  ·rw[z];exact G7
  ·rw[XT.mp z];exact RK
 obtain⟨gy,gf⟩:=lH.mp h
 have D5:=s1.trans s2
 have X2:=X.same D5
 refine⟨_,rfl,d,Y.dx,_,rfl,D5 _ _ x.hd,oY,_,rfl,_,rfl,d,D,W,st,f,rfl,X2,wz,sm,I,λh=>absurd hs h,λ_ p H3 s3 pw sg=>?_⟩
 obtain⟨px,ah,ln,g1,g2,⟨as,g3,g4⟩⟩:=id sg
 have L5:=D5.trans s3
 have hlen:=aav g4
 refine⟨_,rfl,p,px,_,rfl,g1,K8 ah ln,p,_,_,rfl,sg,Ld I st f,aan Dy (by decide),λr H4 vs s4 tK xG zp=>?_⟩
 have Ph:=L5.trans s4
 have H_:=aav zp
 by_cases hq:D.jQ st f=[]
 case neg=>
  have ZH:vs≠[]:=λz=>hq (by
   have e:(ja (Ah (gA (D.jP st) f)) (D.row st f)).length=0:=by rw[H_,z];rfl
   exact aaR.mp e)
  refine⟨true,.inl ⟨_,gN.of xG,by simpa using ZH⟩,lL ?_⟩
  exact⟨_,rfl,by decide+kernel,⟨_,rfl,_,rfl,RK.1,_,rfl,RK.1,⟨_,rfl,by decide+kernel,λ_=>q4 hs gy gf hn hq _ Ph⟩⟩⟩
 have ZH:vs=[]:=by
  have e:(ja (Ah (gA (D.jP st) f)) (D.row st f)).length=0:=by rw[show ja (Ah (gA (D.jP st) f)) (D.row st f)=[] from hq];rfl
  rw[H_] at e
  exact aaR.mp e
 refine⟨false,.inl ⟨_,gN.of xG,by rw[ZH];rfl⟩,jf ?_⟩
 have g14:=s4 _ _ g1
 have ZI:=s4 _ _ g3
 let Jv:=λ(i:Nat) (ys:List V) (Z:St) (H5:Hp)=>∃(v6:Option V),Z=[rr d,rs st,rs y,rs f,rr t,rr p,v6]/\H5=H4/\ys=gw (((D.row st f).take i).map (·.tx))
 refine⟨_,rfl,p,A.hZ,px,_,_,rfl,g14,O.j8,O.ik,lG ah ln,ln,rfl,⟨_,gN.of ZI⟩,jD (K:=K) (a:=ln) (xs:=as.map V.ref) (by rw[O7];omega) Jv
  ⟨none,rfl,rfl,rfl⟩ (by rintro _ _ _ _ _ ⟨_,_,e,e2⟩;rw[e,e2];exact⟨gN.of ZI,by rw[O7,O7,aaP];omega⟩) ?_ ?_⟩
 ·rintro i v ys Z H5 hx ⟨v6,rfl,rfl,rfl⟩
  obtain⟨b,hb,rfl⟩:=j9 hx
  obtain⟨l2,FR,dx,vn,vu,vl,k1,k2,k3,k4⟩:=ib g4 hb
  refine⟨_,rfl,b,A.gS,dx,_,_,rfl,s4 _ _ k1,O.iL,O.jJ,Ar,_,rfl,rfl,?_⟩
  rw[take_snoc FR,aaH,iY]
  rfl
 ·rintro ys Z H5 ⟨v6,rfl,rfl,rfl⟩ o WT
  rw[O7,hlen,aaE]
  have s5:=Ph.new (o:=.lst (gw ((D.row st f).map (·.tx)))) WT
  have Oe:gv H5 (upd H5 o (.lst (gw ((D.row st f).map (·.tx))))):=(gv.refl H5).new WT
  refine⟨_,rfl,_,⟨o,t,rfl,rfl⟩,NI (gN.of b_) (gN.of (s5 _ _ ht)),_,rfl,?_⟩
  by_cases he:(D.row st f).map (·.tx)=texts
  ·rw[X0 he]
   refine lL ?_
   exact⟨_,rfl,by decide+kernel,⟨_,rfl,_,rfl,RK.1,_,rfl,RK.1,⟨_,rfl,by decide+kernel,λ_=>q5 hs gy gf hn hq he _ s5⟩⟩⟩
  ·rw[aaq he]
   refine jf ?_
   have X5:=X.same s5
   refine⟨_,rfl,d,Y.dx,_,rfl,s5 _ _ x.hd,Dh,_,rfl,_,rfl,_,rfl,_,rfl,p,A.hZ,px,_,_,rfl,Oe _ _ g14,O.j8,O.ik,lG ah ln,_,rfl,y,f,ln,t,D.row st f,texts,rfl,⟨as,Oe _ _ ZI,Paired.i3 g4 λ_ _ z=>(z.same s4).same Oe⟩,s5 _ _ ht,Dy,N7,λpa H6 s6 hpa0 ZJ=>?_⟩
   have Vy:=s5.trans s6
   obtain⟨cl1,cl2⟩:=qQ (x:=y) (f:=f) (row:=D.row st f) (texts:=texts)
   refine⟨d,pa,D,W,st,_,rfl,X.same Vy,I,sm.many,hs,ZJ,hn,aan cl1 (aan N7 (by decide)),aan cl2 (aan Dy (by decide)),wb I hs texts,λH7 X7 s7=>?_⟩
   exact q6 hs gy gf hn hq he H7 X7 λb o e n=>s7 b o (Vy _ _ e) n
def QV(A:Ad):Sp:=λvs H Q E=>∃(d:Addr)(D:Dk)(W:Addr->Prop)(s x o:Str),vs=[.ref d,.str s,.str x,.str o]/\ia A H d D W/\Inv D/\xq D.made.length/\kU s/\kU x/\kU o/\
 (s∉D.stores->E (.ref A.iP) none H)/\(s∈D.stores->¬Good x->∀H',gv H H'->E (.ref A.jB) none H')/\(s∈D.stores->Good x->x∈D.names->∀H',gv H H'->E (.ref A.jr) none H')/\
 (s∈D.stores->Good x->x∉D.names->o∉D.held s->∀H',gv H H'->E (.ref A.jX) none H')/\
 (s∈D.stores->Good x->x∉D.names->o∈D.held s->∀H',ia A H' d (D.keep s ⟨x,none,[],[],some o⟩) W->oX W H H'->Q .jb H')
theorem AA{x:Str}:(∀y∈[x],Good y)↔Good x:=⟨λh=>h x (by simp),λh y hy=>by rw[XT.mp hy];exact h⟩
theorem NK(T:Txt mg)(O:Ok K mg A):ie P w K mg base (tU P w) 4 A.yh A.yi ["self","store","patch","other"] (QV A):=by
 have h_:=@jY P w K mg base A T O
 have j0:=@qP P w K mg base A T O
 have jK:=@pd P w K mg base A T O
 have jZ:=@o_ P w K mg base A T O
 have mI:=@Dl P w K mg base A T O
 refine O.B1.f.rC CV λjt A0 outer s H vs Q E hr h=>?_
 obtain⟨d,D,W,st,y,ot,rfl,X,I,jL,wz,G7,hfo,q1,q2,q3,q4,q5⟩:=h
 obtain⟨Y,x⟩:=id X
 refine⟨_,(de (hU (zO bx (pv 0) O.gO O.iQ h_ hr (a_ (pv 1) e_)))
   (de (hU (zO bx (pv 0) O.gO O.l4 j0 hr (a_ (pv 2) (a_ (iB e_) e_))))
   (de (hU (zO bx (pv 0) O.gO O.lr jK hr (a_ (pv 1) (a_ (pv 3) e_))))
   (f_ (hU (xW (pv 0) O.gO O.tE mI hr (a_ (pv 1) (a_ (uZ O.C4 jZ (hr.mono (by decide)) (by rfl) O.C5 O.lZ.b .nil pF (a_ (pv 2) (a_ uj (a_ (iB e_) (a_ (iB e_) (a_ (pv 3) e_)))))) e_)))))))),?_⟩
 refine OG ?_;intro _ _ _
 refine⟨_,rfl,d,Y.dx,_,rfl,x.hd,jy,_,rfl,d,D,W,st,rfl,X,wz,λhs=>?_,λhs=>q1 hs⟩
 refine⟨_,rfl,d,Y.dx,_,rfl,x.hd,qN,_,rfl,L2.jL,λl hl=>?_⟩
 have s1:gv H (upd H l (.lst [])):=(gv.refl H).new hl
 refine⟨d,l,D,W,y,[],rfl,X.same s1,b_,by show 0<=1000;decide,λz hz=>by rw[XT.mp hz];exact G7,λh H' s'=>q2 hs (λg=>h (AA.mpr g)) H' (s1.trans s'),λh hn H' s'=>q3 hs (AA.mp h) hn H' (s1.trans s'),λh hn H2 s2=>?_⟩
 have gy:=AA.mp h
 have D5:=s1.trans s2
 refine⟨_,rfl,d,Y.dx,_,rfl,D5 _ _ x.hd,pb,_,rfl,_,rfl,d,D,W,st,ot,rfl,X.same D5,wz,hfo,hs,λho=>?_,λho=>q4 hs gy hn ho _ D5⟩
 refine⟨_,rfl,d,Y.dx,_,rfl,D5 _ _ x.hd,Dh,_,rfl,_,rfl,L2.jL,λa ha=>⟨L2.jL,λb hb=>⟨_,rfl,?_⟩⟩⟩
 have s3:=D5.new (o:=.lst []) ha
 have s4:=s3.new (o:=.lst []) hb
 intro o dx no RE Zn
 refine⟨o,dx,_,_,_,_,_,rfl,b_,λH5 r6 r7=>⟨rfl,?_⟩⟩
 have s5:gv (upd (upd H2 a (.lst [])) b (.lst [])) H5:=λc u ec=>by
  rw[r6 c (gr ec no),d_ (gr ec no),d_ (gr ec RE)]
  exact ec
 have s15:=s4.trans s5
 have pt:oq A H5 o ⟨y,none,[],[],some ot⟩:=⟨dx,_,a,b,.str ot,r7,rfl,⟨[],s5 _ _ (hX hb b_),.nil⟩,⟨[],s5 _ _ b_,.nil⟩,rfl⟩
 refine⟨d,o,D,W,st,_,rfl,X.same s15,I,jL,hs,pt,hn,aaZ _,aaZ _,λz hz=>?_,λH7 X7 s7=>?_⟩
 ·have:z=ot:=by simpa[ij,named] using hz
  rw[this];exact(I.lD st hs ot ho).1
 ·exact q5 hs gy hn ho H7 X7 λb o e n=>s7 b o (s15 _ _ e) n
def Ui(A:Ad):Sp:=λvs H Q E=>∃(d t:Addr)(D:Dk)(W:Addr->Prop)(s x f:Str)(ps:List Int),vs=[.ref d,.str s,.str x,.str f,.ref t]/\ia A H d D W/\Inv D/\Small D.made/\kU s/\kU x/\kU f/\H t=some (.lst (ps.map V.int))/\ps.length<=1000/\(∀p∈ps,p.natAbs.log2<1920)/\
 (s∉D.stores->E (.ref A.iP) none H)/\
 (s∈D.stores->¬(Good x/\Good f)->∀H',gv H H'->E (.ref A.jB) none H')/\
 (s∈D.stores->Good x->Good f->x∈D.names->∀H',gv H H'->E (.ref A.jr) none H')/\
 (s∈D.stores->Good x->Good f->x∉D.names->¬NJ (D.row s f).length 0 ps->∀H',gv H H'->E (.ref A.oa) none H')/\
 (s∈D.stores->Good x->Good f->x∉D.names->ps=[]->∀H',gv H H'->E (.ref A.uA) none H')/\
 (s∈D.stores->Good x->Good f->x∉D.names->NJ (D.row s f).length 0 ps->ps≠[]->∀H',ia A H' d (D.keep s ⟨x,some f,[],ps.filterMap λp=>((D.row s f)[p.toNat]?).map (·.nm),none⟩) W->oX W H H'->Q .jb H')
theorem HE{n:Int}:∀{l:Int} {ps:List Int},0<=l->NJ n l ps->∀p∈ps,0<=p/\p<n
 | _,[],_,_,p,hp=>by cases hp
 | l,q::r,h0,h,p,hp=>by
  obtain⟨⟨h1,h2⟩,h3⟩:=h
  rcases aah.mp hp with rfl|hp
  ·exact⟨by omega,h2⟩
  ·exact HE (by omega) h3 p hp
theorem Lh(T:Txt mg)(O:Ok K mg A):ie P w K mg base (tU P w) 6 A.Aj A.Ak ["self","store","patch","file","places"] (Ui A):=by
 have h_:=@jY P w K mg base A T O
 have j0:=@qP P w K mg base A T O
 have jg:=@oZ P w K mg base A T O
 have AM:=@yY P w K mg base A T O
 have jZ:=@o_ P w K mg base A T O
 have mI:=@Dl P w K mg base A T O
 refine O.Ap.f.rC rY λjt A0 outer s H vs Q E hr h=>?_
 obtain⟨d,t,D,W,st,y,f,ps,rfl,X,I,sm,wz,G7,RK,ht,N7,RJ,q1,q2,q3,q4,q5,q6⟩:=h
 obtain⟨Y,x⟩:=id X
 have sz:sizeLine=16777216:=aaQ
 have Dy:(D.row st f).length<=4000:=aan (I.vq st f) sm.iw
 refine⟨_,(de (hU (zO bx (pv 0) O.gO O.iQ h_ hr (a_ (pv 1) e_)))
   (de (hU (zO bx (pv 0) O.gO O.l4 j0 hr (a_ (pv 2) (a_ (iB (a_ (pv 3) e_)) e_))))
   (de (lx (i:=5) rY.nd rfl (Or.inr rfl) (gL (zO bx (pv 0) O.gO O.k8 jg hr (a_ (pv 1) (a_ (pv 3) e_))) rfl))
   (de (hU (XY bx O.vS AM hr (a_ (pv 4) (a_ (gK gE (by rfl) T.jw aaM (a_ (pv 5) e_)) e_))))
   (de (il (kB (uX (pv 4) (λ_=>rfl))) (f_ (ke bx O.KW (by rfl) i4)) hG)
   (f_ (hU (xW (pv 0) O.gO O.tE mI hr (a_ (pv 1) (a_ (uZ O.C4 jZ (hr.mono (by decide)) (by rfl) O.C5 O.lZ.b .nil pF (a_ (pv 2) (a_ (pv 3) (a_ (iB e_) (a_ (tT z_ (gp qF).names [6] rfl (ic (pv 4)) rfl (by decide+kernel) (λ_ _ _ _=>(ir (i:=6) rY.nd rfl (Or.inl rfl))) (λ_ _ _ _=>lN) (λ_ _ _ _=>zc (gL (kJ (pv 5) (pv 6)) rfl))) (a_ uj e_)))))) e_)))))))))),?_⟩
 refine R8 ?_;intro _ _ _ _ _
 refine⟨_,rfl,d,Y.dx,_,rfl,x.hd,jy,_,rfl,d,D,W,st,rfl,X,wz,λhs=>?_,λhs=>q1 hs⟩
 refine⟨_,rfl,d,Y.dx,_,rfl,x.hd,qN,_,rfl,_,rfl,L2.jL,λl hl=>?_⟩
 have s1:gv H (upd H l (.lst [V.str f])):=(gv.refl H).new hl
 refine⟨d,l,D,W,y,[f],rfl,X.same s1,b_,by show 1<=1000;decide,λz hz=>?_,λh H' s'=>q2 hs (λg=>h (lH.mpr g)) H' (s1.trans s'),λh hn H' s'=>q3 hs (lH.mp h).1 (lH.mp h).2 hn H' (s1.trans s'),λh hn H2 s2=>?_⟩
 ·rcases aah.mp hz with z|z
  ·rw[z];exact G7
  ·rw[XT.mp z];exact RK
 obtain⟨gy,gf⟩:=lH.mp h
 have D5:=s1.trans s2
 have X2:=X.same D5
 refine⟨_,rfl,d,Y.dx,_,rfl,D5 _ _ x.hd,oY,_,rfl,_,rfl,d,D,W,st,f,rfl,X2,wz,sm,I,λh=>absurd hs h,λ_ p H3 s3 pw ⟨px,ah,ln,g1,g2,⟨as,g3,g4⟩⟩=>?_⟩
 have L5:=D5.trans s3
 have hlen:=aav g4
 have el:((as.map V.ref).length:Int)=((D.row st f).length:Int):=by rw[O7,hlen]
 refine⟨p,A.hZ,px,_,_,rfl,g1,O.j8,O.ik,lG ah ln,?_⟩
 refine⟨_,rfl,_,rfl,ln,_,rfl,.inl (gN.of g3),?_⟩
 rw[el]
 refine⟨t,ps,_,rfl,L5 _ _ ht,RJ,λok=>?_,λnok=>q4 hs gy gf hn nok _ L5⟩
 by_cases WZ:ps=[]
 ·refine⟨_,rfl,false,.inl ⟨_,gN.of (L5 _ _ ht),by rw[WZ];rfl⟩,?_⟩
  exact q5 hs gy gf hn WZ _ L5
 ·refine⟨_,rfl,true,.inl ⟨_,gN.of (L5 _ _ ht),by simpa using WZ⟩,?_⟩
  refine jf ?_
  refine⟨_,rfl,d,Y.dx,_,rfl,L5 _ _ x.hd,Dh,_,rfl,_,rfl,_,rfl,L2.jL,λa ha=>?_⟩
  have s4:=L5.new (o:=.lst []) ha
  have RL:gv H3 (upd H3 a (.lst [])):=(gv.refl H3).new ha
  have WW:(upd H3 a (.lst [])) a=some (.lst []):=b_
  generalize upd H3 a (.lst [])=H4 at s4 RL WW
  let Jv:=λ(i:Nat) (ys:List V) (Z:St) (H5:Hp)=>∃(v6:Option V),Z=[rr d,rs st,rs y,rs f,rr t,rr ln,v6]/\H5=H4/\ys.length<=i/\Paired (lI H3) ys ((ps.take i).filterMap λp=>((D.row st f)[p.toNat]?).map (·.nm))
  refine⟨_,rfl,t,rfl,⟨_,gN.of (s4 _ _ ht)⟩,jD (K:=K) (a:=t) (xs:=ps.map V.int) (by rw[O7];omega) Jv
   ⟨none,rfl,rfl,XW _,.nil⟩ (by rintro _ _ _ _ _ ⟨_,_,e,e2,_⟩;rw[e];exact⟨gN.of (s4 _ _ ht),e2⟩) ?_ ?_⟩
  ·rintro i v ys Z H5 hx ⟨v6,rfl,rfl,e2,e3⟩
   rw[aao] at hx
   obtain⟨pl,nK,rfl⟩:=Option.map_eq_some_iff.mp hx
   obtain⟨b1,b2⟩:=HE (by decide) ok pl (XZ nK)
   have j2:pl.toNat<(D.row st f).length:=by omega
   have BB:(D.row st f)[pl.toNat]?=some (D.row st f)[pl.toNat]:=UR j2
   obtain⟨b,hb,dx,vn,vu,vl,k1,⟨nt,rfl,k2⟩,k3,k4⟩:=Av g4 BB
   refine⟨_,rfl,_,rfl,ln,_,_,_,rfl,rfl,gN.of (RL _ _ g3),gG (j:=pl.toNat) (by omega) hb,b,A.gS,dx,_,_,rfl,RL _ _ k1,O.iL,O.gQ,iX,?_⟩
   refine⟨_,rfl,rfl,OK,?_⟩
   rw[take_snoc nK,abX,abE,BB]
   exact ig e3 ⟨nt,rfl,k2⟩
  ·rintro ys Z H5 ⟨v6,rfl,rfl,e2,e3⟩ c hc
   rw[O7,aaE] at e3
   have s5:=s4.new (o:=.lst ys) hc
   intro o dx no RE Zn
   refine⟨o,dx,_,_,_,_,_,rfl,b_,λH6 r6 r7=>⟨rfl,?_⟩⟩
   have s6:gv (upd H5 c (.lst ys)) H6:=λb u ec=>by
    rw[r6 b (gr ec no),d_ (gr ec no),d_ (gr ec RE)]
    exact ec
   have Vy:=s5.trans s6
   have s36:gv H3 H6:=(RL.new hc).trans s6
   have pt:oq A H6 o ⟨y,some f,[],ps.filterMap λp=>((D.row st f)[p.toNat]?).map (·.nm),none⟩:=⟨dx,_,a,c,.jb,r7,rfl,⟨[],s6 _ _ (hX hc WW),.nil⟩,⟨ys,s6 _ _ b_,Paired.i3 e3 λ_ _ z=>z.same s36⟩,rfl⟩
   have Mt:(ps.filterMap λp=>((D.row st f)[p.toNat]?).map (·.nm)).length<=4000:=aan (aci _ _) (by omega)
   refine⟨d,o,D,W,st,_,rfl,X.same Vy,I,sm.many,hs,pt,hn,aaZ _,Mt,λz hz=>?_,λH7 X7 s7=>q6 hs gy gf hn ok WZ H7 X7 λb o e n=>s7 b o (Vy _ _ e) n⟩
   unfold ij at hz
   rcases aal.mp hz with hz|hz
   ·obtain⟨m,hm,rfl⟩:=List.mem_map.mp hz
    have hm:=(aap.mp hm).1
    have hm:m∈(ps.filterMap λp=>((D.row st f)[p.toNat]?).map (·.nm)):=by simpa[named] using hm
    obtain⟨pl,_,nK⟩:=abx.mp hm
    obtain⟨l',yL,rfl⟩:=Option.map_eq_some_iff.mp nK
    obtain⟨q,h1,_,h3⟩:=I.tq (XZ yL)
    have hq:=(Inv.lg.mp h1).1
    rw[me (I.D1 q hq) (aaf h3)]
    exact aaf hq
   ·cases hz
def cellAt(ns:List Int)(k:Int):Int:=(ns[k.toNat]?).getD 0
def Dm(i:Int):Str:=⟨#[(l9.cps[(i%36).toNat]?).getD 0]⟩
noncomputable def kI(cell k:Int):Nat->Str
 | 0=>Str.ofString ""
 | j+1=>kI cell k j++(if(j:Int)=cell/12%(1+cell%12) then Dm (k+cell/144) else Dm (cell/144+5*(j:Int)+cell/5184%2*k*7))
noncomputable def nameOf(cell k:Int):Str:=kI cell k (1+cell%12).toNat
theorem Dq:l9.length=36:=by decide+kernel
theorem Li:l9.cps.size=36:=Dq
theorem Dr(a b:Str):(a++b).cps.toList=a.cps.toList++b.cps.toList:=Array.toList_append
theorem HF(a b:Str):(a++b).length=a.length+b.length:=Array.size_append
theorem zi(i:Int):∃c,Gg l9.cps.toList (i%36)=some c/\Dm i=⟨#[c]⟩/\c∈l9.cps.toList:=by
 have b:=mod_lt i 36 (by decide)
 obtain⟨c,e,ev⟩:=rK (xs:=l9.cps.toList) b.1 (by rw[aa4,Li];exact b.2)
 rw[abr] at ev
 exact⟨c,e,by unfold Dm;rw[ev];rfl,XZ (i:=(i%36).toNat) (by rw[abr];exact ev)⟩
theorem zj(cell k:Int):∀j,(kI cell k j).length=j/\∀c∈(kI cell k j).cps.toList,c∈l9.cps.toList
 | 0=>⟨by unfold kI;decide+kernel,λc hc=>by
   have:(kI cell k 0).cps.toList=[]:=by unfold kI;decide+kernel
   rw[this] at hc;cases hc⟩
 | j+1=>by
  have ⟨h1,h2⟩:=zj cell k j
  unfold kI
  obtain⟨c1,_,e1,m1⟩:=zi (k+cell/144)
  obtain⟨c2,_,e2,m2⟩:=zi (cell/144+5*(j:Int)+cell/5184%2*k*7)
  split
  ·rw[e1,HF,Dr]
   refine⟨by rw[h1];rfl,λc hc=>?_⟩
   rcases aal.mp hc with hc|hc
   ·exact h2 c hc
   ·rw[XT.mp hc];exact m1
  ·rw[e2,HF,Dr]
   refine⟨by rw[h1];rfl,λc hc=>?_⟩
   rcases aal.mp hc with hc|hc
   ·exact h2 c hc
   ·rw[XT.mp hc];exact m2
theorem qc(cell k:Int):Good (nameOf cell k):=by
 obtain⟨h1,h2⟩:=zj cell k (1+cell%12).toNat
 have b:=mod_lt cell 12 (by decide)
 exact⟨by unfold nameOf;rw[h1];omega,by unfold nameOf;rw[h1];omega,h2⟩
theorem NL{x:Str}(h:x.length<=1000)(hc:∀c∈x.cps.toList,c<1114112):kU x:=by
 refine⟨?_,h⟩
 have z:=PySem.StrLaws.reprText_len x λc Bv=>Nat.lt_trans (hc c Bv) (by decide)
 omega
theorem Lj:∀c∈l9.cps.toList,c<1114112:=by decide+kernel
theorem Good.uF{x:Str}(g:Good x):kU x:=NL (by have:=g.2.1;omega) λc hc=>Lj c (g.2.2 c hc)
def HG(i:Int):Nat:=(l9.cps[(i%36).toNat]?).getD 0
theorem Jb{i j:Int}(h:HG i=HG j):i%36=j%36:=by
 have key:∀a<36,∀b<36,(l9.cps[a]?).getD 0=(l9.cps[b]?).getD 0->a=b:=by decide+kernel
 have b1:=mod_lt i 36 (by decide)
 have b2:=mod_lt j 36 (by decide)
 have:=key (i%36).toNat (by omega) (j%36).toNat (by omega) h
 omega
theorem Ds(cell k:Int):∀n j,j<n->(kI cell k n).cps.toList[j]?=some (if(j:Int)=cell/12%(1+cell%12) then HG (k+cell/144) else HG (cell/144+5*(j:Int)+cell/5184%2*k*7))
 | 0,j,h=>by omega
 | n+1,j,h=>by
  have hl:(kI cell k n).cps.toList.length=n:=by rw[aa4];exact(zj cell k n).1
  rw[kI,Dr]
  by_cases e:j=n
  ·subst e
   rw[abl (by omega),hl,Nat.sub_self]
   split<;>rfl
  ·rw[abU (by omega)]
   exact Ds cell k n j (by omega)
theorem wc{c i j:Int}(h0:0<=i)(h1:i<36)(h2:0<=j)(h3:j<36)(h:nameOf c i=nameOf c j):i=j:=by
 have b:=mod_lt c 12 (by decide)
 have b2:=mod_lt (c/12) (1+c%12) (by omega)
 have e1:=Ds c i (1+c%12).toNat (c/12%(1+c%12)).toNat (by omega)
 have e2:=Ds c j (1+c%12).toNat (c/12%(1+c%12)).toNat (by omega)
 have h:kI c i (1+c%12).toNat=kI c j (1+c%12).toNat:=h
 rw[h] at e1
 rw[e1] at e2
 rw[aay (by omega),aay (by omega)] at e2
 have:=Jb (aaF e2)
 omega
def QW(K:Qqy):Sp:=λvs H Q _=>∃(a:Addr)(ns:List Int)(k:Int),vs=[.ref a,.int k]/\gN K H a (ns.map V.int)/\0<=k/\Q (.int (cellAt ns k)) H
theorem HH(T:Txt mg)(O:Ok K mg A):ie P w K mg base mL 1 A.si A.sj ["script","k"] (QW K):=by
 refine O.i8.f.rB yU λjt A outer s H vs Q E hr h=>?_
 obtain⟨a,ns,k,rfl,ha,h0,q⟩:=h
 refine⟨_,(de (il (hV Ee (pv 1) (gK gE (by rfl) T.jw aaM (a_ (pv 0) e_)) (iA _)) (f_ (hE (kJ (pv 0) (pv 1)))) hG)
   (f_ (hE gm))),?_⟩
 refine Mo ?_;intro _
 refine⟨_,rfl,_,rfl,a,_,rfl,.inl ha,_,_,rfl,rfl,_,rfl,?_⟩
 refine kY (λhc=>?_) (λhc=>?_)
 ·have hc:k<((ns.map V.int).length:Int):=aaB hc
  obtain⟨v,e,ev⟩:=rK h0 hc
  rw[aao] at ev
  cases en:ns[k.toNat]? with
  | none=>rw[en] at ev;cases ev
  | some z=>
   rw[en] at ev
   cases ev
   unfold cellAt at q
   rw[en] at q
   exact⟨_,rfl,_,rfl,a,_,_,_,rfl,rfl,ha,e,q⟩
 ·have hc:¬k<((ns.map V.int).length:Int):=by simpa using hc
  unfold cellAt at q
  rw[O7] at hc
  rw[List.getElem?_eq_none (by omega)] at q
  exact q
def QX:Sp:=λvs H Q _=>∃(c k:Int),vs=[.int c,.int k]/\Q (.str (nameOf c k)) H
theorem HI(T:Txt mg)(O:Ok K mg A):ie P w K mg base mL 1 A.yr A.yt ["cell","k"] QX:=by
 refine O.p7.f.rB jk λjt A outer s H vs Q E hr h=>?_
 obtain⟨c,k,rfl,q⟩:=h
 refine⟨_,(de (kZ 2 jk i4)
   (de (kZ 3 jk (gD iy gm (gD iz (pv 0) gm)))
   (de (kZ 4 jk (gD jj (pv 0) gm))
   (de (kZ 5 jk (gD rF (gD rF (gD iz (gD jj (pv 0) gm) gm) (pv 1)) gm))
   (de (kZ 6 jk i4)
   (de (iD aaN rfl (jS rfl T.ll (a_ (pv 3) e_)) (tM 7 jk) (f_ (il (hV mB (pv 7) (gD iz (gD jj (pv 0) gm) (pv 3)) (iA _)) (f_ (kZ 6 jk (gD zx (pv 6) (jo Gh (pv 2) (gD iz (gD iy (pv 1) (pv 4)) gm) (λ_ _=>rfl))))) (f_ (kZ 6 jk (gD zx (pv 6) (jo Gh (pv 2) (gD iz (gD iy (gD iy (pv 4) (gD rF gm (pv 7))) (pv 5)) gm) (λ_ _=>rfl))))))))
   (f_ (hE (pv 6))))))))),?_⟩
 refine sl7 ?_;intro _ _ _ _ _ _
 have b:=mod_lt c 12 (by decide)
 have b2:=mod_lt (c/5184) 2 (by decide)
 refine⟨_,rfl,_,_,rfl,rfl,(by show(0:Int)<12;decide),_,_,rfl,rfl,?_⟩
 refine⟨_,rfl,_,_,rfl,rfl,⟨by decide,by decide⟩,?_⟩
 refine⟨_,rfl,_,_,rfl,rfl,⟨by decide,by decide⟩,_,_,rfl,rfl,(by show(0:Int)<2;decide),_,rfl,_,_,rfl,rfl,.inl ⟨by omega,by omega⟩,_,_,rfl,rfl,.inr ⟨by decide,by decide⟩,?_⟩
 refine⟨_,rfl,_,rfl,by omega,by omega,?_⟩
 let Jv:=λ(j:Nat) (Z:St) (H2:Hp)=>∃v,Z=[ri c,ri k,rs l9,ri (1+c%12),ri (c/144),ri (c/5184%2*k*7),rs (kI c k j),v]/\H2=H
 refine lB Jv ⟨none,rfl,rfl⟩ ?_ ?_
 ·rintro j Z H2 hj ⟨v,rfl,rfl⟩
  have hlen:=(zj c k j).1
  have hz:(kI c k j).length+1<=sizeLine:=aan (m:=13) (by omega) (by decide)
  refine⟨_,rfl,_,rfl,_,_,rfl,rfl,⟨by decide,by decide⟩,_,rfl,_,_,rfl,rfl,(by show(0:Int)<1+c%12;omega),rfl,_,rfl,?_⟩
  refine kY (λhc=>?_) (λhc=>?_)
  ·have hc:(0:Int)+(j:Int)=c/12%(1+c%12):=V.int.inj (aaB hc)
   obtain⟨cp,e,es,_⟩:=zi (k+c/144)
   refine⟨_,rfl,_,rfl,_,rfl,_,rfl,_,_,rfl,rfl,_,_,rfl,rfl,(by show(0:Int)<36;decide),_,_,cp,rfl,rfl,by rw[Dq];decide,e,_,_,rfl,rfl,hz,some (.int (0+(j:Int))),?_,rfl⟩
   rw[kI,aay (by omega),es]
   rfl
  ·have hc:¬(0:Int)+(j:Int)=c/12%(1+c%12):=λz=>hc (X0 (abe V.int z))
   obtain⟨cp,e,es,_⟩:=zi (c/144+5*(j:Int)+c/5184%2*k*7)
   refine⟨_,rfl,_,rfl,_,rfl,_,rfl,_,_,rfl,rfl,.inl ⟨by decide,by decide⟩,_,_,rfl,rfl,_,rfl,_,_,rfl,rfl,_,_,rfl,rfl,(by show(0:Int)<36;decide),_,_,cp,rfl,rfl,by rw[Dq];decide,by rw[Int.zero_add];exact e,_,_,rfl,rfl,hz,some (.int (0+(j:Int))),?_,rfl⟩
   rw[kI,aaw (by omega),es]
   rfl
 ·rintro Z H2 ⟨v,rfl,rfl⟩
  refine⟨_,rfl,?_⟩
  have:(1+c%12-0).toNat=(1+c%12).toNat:=by rw[Int.sub_zero]
  exact q
def QY:Sp:=λvs H Q _=>∃(c k b:Int),vs=[.int c,.int k,.int b]/\0<b/\0<=k/\k<=1000/\∀x,0<=x->x<b->Q (.int x) H
theorem NM(T:Txt mg)(O:Ok K mg A):ie P w K mg base mL 1 A.yp A.yq ["cell","k","bound"] QY:=by
 refine O.B4.f.rB qK λjt A outer s H vs Q E hr h=>?_
 obtain⟨c,k,b,rfl,hb,SF,Vo,q⟩:=h
 refine⟨_,(de (kZ 3 qK (gD iz (gD rF (gD iy (gD iy (gD iz (pv 0) gm) (gD rF gm (pv 1))) gm) gm) gm))
  (de (kZ 3 qK (gD iz (gD rF (gD iy (pv 3) (gD rF gm (gD iy (pv 1) gm))) gm) gm))
  (f_ (hE (gD iz (gD jj (pv 3) gm) (pv 2)))))),?_⟩
 refine Ey ?_;intro _ _
 refine⟨_,rfl,_,_,rfl,rfl,(by show(0:Int)<2147483647;decide),_,rfl,_,_,rfl,rfl,.inl ⟨by decide,by decide⟩,_,_,rfl,rfl,_,_,rfl,rfl,_,_,rfl,rfl,.inr ⟨by decide,by decide⟩,_,_,rfl,rfl,(by show(0:Int)<2147483647;decide),?_⟩
 refine⟨_,rfl,_,rfl,_,_,rfl,rfl,_,_,rfl,rfl,.inl ⟨by decide,by decide⟩,_,_,rfl,rfl,_,_,rfl,rfl,.inr ⟨by decide,by decide⟩,_,_,rfl,rfl,(by show(0:Int)<2147483629;decide),?_⟩
 exact⟨_,rfl,_,_,rfl,rfl,⟨by decide,by decide⟩,_,rfl,_,_,rfl,rfl,hb,q _ (mod_lt _ b hb).1 (mod_lt _ b hb).2⟩
def xv:Str:=Str.ofString " !#$&()*+,-./0123456789:;<=>?@ABCDEFGHIJKLMNOPQRSTUVWXYZ[]^_abcdefghijklmnopqrstuvwxyz{|}~"
theorem tJ:xv.length=90:=by decide+kernel
def QZ:Sp:=λvs H Q _=>∃(c:Int),vs=[.int c]/\∀x H',gv H H'->Q (.str x) H'
theorem Fl:∀(xs:List Str),(∀x∈xs,x.length=1)->(xs.map (·.length)).sum=xs.length
 | [],_=>rfl
 | x::r,h=>by
  rw[aaL,List.sum_cons,h x aaD,Fl r λy hy=>h y (aam _ hy),aai]
  omega
theorem NN(T:Txt mg)(O:Ok K mg A):ie P w K mg base mL 1 A.yu A.yv ["cell"] QZ:=by
 refine O.xo.f.rB lW λjt A outer s H vs Q E hr h=>?_
 obtain⟨c,rfl,q⟩:=h
 refine⟨_,(de (lx (i:=1) lW.nd rfl (Or.inr rfl) i4)
   (de (il (hV mB (gD iz (pv 0) gm) gm (iA _)) (f_ (hE (kJ (iB (a_ i4 (a_ i4 (a_ i4 (a_ i4 e_))))) (gD iz (gD jj (pv 0) gm) gm)))) hG)
   (de (kZ 2 lW (gD iz (gD jj (pv 0) gm) gm))
   (de (ql (il (hV mB (gD iz (gD jj (pv 0) gm) gm) gm (iA _)) (f_ (kZ 2 lW gm)) hG))
   (f_ (hE (pC PySem.F.plainAttrs_str PySem.F.slot_str_join PySem.F.type_str_join MU i4 (a_ (tT x9 (gp oI).names [3] rfl (jS rfl T.ll (a_ (pv 2) e_)) rfl (by decide+kernel) (λ_ _ _ _=>(ir (i:=3) lW.nd rfl (Or.inl rfl))) (λ_ _ _ _=>lN) (λ_ _ _ _=>zc (jo Gh (pv 1) (gD iz (gD iy (gD jj (pv 0) gm) (gD rF gm (pv 3))) (gK va (by rfl) T.jw aaM (a_ (pv 1) e_))) (λ_ _=>rfl)))) e_)))))))),?_⟩
 refine OH ?_;intro _ _ _ _
 refine⟨_,rfl,_,_,rfl,rfl,(by show(0:Int)<3;decide),rfl,_,rfl,?_⟩
 refine kY (λ_=>?_) (λ_=>?_)
 ·refine⟨jL,λl hl=>?_⟩
  refine⟨_,rfl,_,_,rfl,rfl,⟨by decide,by decide⟩,_,_,rfl,rfl,(by show(0:Int)<4;decide),?_⟩
  have b:=mod_lt (c/3) 4 (by decide)
  obtain⟨v,e,ev⟩:=rK (xs:=[V.str (Str.ofString "a"),V.str (Str.ofString "b"),V.str (Str.ofString ""),V.str (Str.ofString " ")]) b.1 (by simpa using b.2)
  refine⟨l,_,_,v,rfl,rfl,gN.of b_,e,?_⟩
  have hv:∃x,v=V.str x:=by
   have hm:=XZ ev
   simp at hm
   rcases hm with rfl|rfl|rfl|rfl<;>exact⟨_,rfl⟩
  obtain⟨x,rfl⟩:=hv
  exact q x _ ((gv.refl H).new hl)
 ·refine⟨_,rfl,_,_,rfl,rfl,⟨by decide,by decide⟩,_,_,rfl,rfl,(by show(0:Int)<5;decide),?_⟩
  have b:=mod_lt (c/3) 5 (by decide)
  refine⟨λZ H2=>∃(z:Int)(v:Option V),Z=[ri c,rs xv,ri z,v]/\H2=H/\0<=z/\z<=80,?_,?_⟩
  ·refine⟨_,rfl,_,_,rfl,rfl,⟨by decide,by decide⟩,_,_,rfl,rfl,(by show(0:Int)<9;decide),rfl,_,rfl,?_⟩
   refine kY (λ_=>?_) (λ_=>?_)
   ·exact⟨80,_,rfl,rfl,by decide,by decide⟩
   ·exact⟨_,_,rfl,rfl,b.1,by omega⟩
  ·rintro Z H2 ⟨z,v,rfl,rfl,z0,z1⟩
   refine⟨rfl,_,rfl,_,rfl,by omega,by omega,?_⟩
   let Jv:=λ(m:Nat) (ys:List V) (Z:St) (H3:Hp)=>∃(v:Option V)(xs:List Str),Z=[ri c,rs xv,ri z,v]/\H3=H2/\ys=gw xs/\xs.length=m/\∀x∈xs,x.length=1
   refine rJ (by have:sizeLine=2 ^ 24:=rfl;omega) Jv
    ⟨none,[],rfl,rfl,rfl,rfl,λx hx=>nomatch hx⟩ (by rintro _ _ _ _ ⟨_,xs,_,_,e,e2,_⟩;rw[e,O7];omega) ?_ ?_
   ·rintro m ys Z H3 hm ⟨v,xs,rfl,rfl,rfl,hx,h1⟩
    refine⟨_,rfl,_,rfl,_,_,rfl,rfl,⟨by decide,by decide⟩,_,rfl,_,_,rfl,rfl,.inl ⟨by decide,by decide⟩,_,_,rfl,rfl,_,rfl,_,rfl,by rw[tJ];decide,_,_,rfl,rfl,(by show(0:Int)<(xv.length:Int);rw[tJ];decide),?_⟩
    have b:=mod_lt (c/45+7*(0+(m:Int))) (xv.length:Int) (by rw[tJ];decide)
    obtain⟨cp,e,_⟩:=rK (xs:=xv.cps.toList) b.1 (by rw[aa4];exact b.2)
    refine⟨_,_,cp,rfl,rfl,by rw[tJ];decide,e,?_⟩
    refine⟨_,xs++[⟨#[cp]⟩],rfl,rfl,iY _ _,by rw[YO,hx];rfl,λx Vz=>?_⟩
    rcases aal.mp Vz with Vz|Vz
    ·exact h1 x Vz
    ·rw[XT.mp Vz];rfl
   ·rintro ys Z H3 ⟨v,xs,rfl,rfl,rfl,hx,h1⟩ p hp
    refine⟨_,p,xs,rfl,rfl,gN.of b_,?_,?_⟩
    ·rw[Fl xs h1]
     have:(Str.ofString "").length=0:=by decide+kernel
     rw[this]
     omega
    ·exact q _ _ ((gv.refl H3).new hp)
theorem wd(l:List Str)(k:Nat):u_ (gw l) none (some (k:Int))=gw (l.take k):=by
 unfold u_
 rw[HT.Em,HT.Hq,Nat.sub_zero,List.drop_zero]
 unfold gw
 rw[O7,<-List.map_take]
 congr 1
 by_cases h:k<=l.length
 ·rw[Nat.min_eq_left h]
 ·rw[Nat.min_eq_right (by omega),List.take_of_length_le (XW _),List.take_of_length_le (by omega)]
theorem Fm(l:List Str)(k:Nat):u_ (gw l) (some (k:Int)) none=gw (l.drop k):=by
 unfold u_
 rw[HT.Em,HT.Hq,List.take_of_length_le (by rw[List.length_drop];exact XW _)]
 unfold gw
 rw[O7,<-List.map_drop]
 congr 1
 by_cases h:k<=l.length
 ·rw[Nat.min_eq_left h]
 ·rw[Nat.min_eq_right (by omega),List.drop_of_length_le (XW _),List.drop_of_length_le (by omega)]
theorem xw(l:List Str){z:Int}{k:Nat}(h:z=(k:Int)):u_ (gw l) (some z) none=gw (l.drop k):=by rw[h,Fm]
structure GR(ts Ia:List Str):Prop where
 ne:ts≠Ia
 len:Ia.length<=ts.length+3
 near:Ia.length<=K01.lcs ts Ia+3
theorem AB{x y s:List Str}(h1:s.Sublist x)(h2:s.Sublist y):s.length<=K01.lcs x y:=(K01.j4 x y).1 s h1 h2
theorem Dt{ts Ia:List Str}(h:ts.length≠Ia.length):ts≠Ia:=λz=>h (abe List.length z)
theorem Jc(ts:List Str)(k:Nat)(x:Str):GR ts (ts.take k++[x]++ts.drop k):=by
 have hl:(ts.take k++[x]++ts.drop k).length=ts.length+1:=by simp;omega
 have hs:ts.Sublist (ts.take k++[x]++ts.drop k):=by
  conv=>lhs;rw[<-abW k ts]
  rw[aa5]
  exact(aaV _).append (abk _ _)
 have:=AB (aaV ts) hs
 exact⟨Dt (by omega),by omega,by omega⟩
theorem Lk(ts:List Str)(k:Nat)(h:k<ts.length):GR ts (ts.take k++ts.drop (k+1)):=by
 have hl:(ts.take k++ts.drop (k+1)).length=ts.length-1:=by simp;omega
 have hs:(ts.take k++ts.drop (k+1)).Sublist ts:=by
  conv=>rhs;rw[<-abW k ts]
  refine(aaV _).append ?_
  rw[aa7 h]
  exact abM _ _
 have:=AB hs (aaV _)
 exact⟨Dt (by omega),by omega,by omega⟩
theorem GS(ts:List Str)(k:Nat)(x:Str)(h:k<ts.length)(hx:ts[k]≠x):GR ts (ts.take k++[x]++ts.drop (k+1)):=by
 have hl:(ts.take k++[x]++ts.drop (k+1)).length=ts.length:=by simp;omega
 have hs:(ts.take k++ts.drop (k+1)).Sublist ts:=by
  conv=>rhs;rw[<-abW k ts]
  refine(aaV _).append ?_
  rw[aa7 h]
  exact abM _ _
 have Fx:(ts.take k++ts.drop (k+1)).Sublist (ts.take k++[x]++ts.drop (k+1)):=by
  rw[aa5]
  exact(aaV _).append (abk _ _)
 have:=AB hs Fx
 have FR:(ts.take k++ts.drop (k+1)).length=ts.length-1:=by simp;omega
 refine⟨λz=>hx ?_,by omega,by omega⟩
 have e:ts[k]?=(ts.take k++[x]++ts.drop (k+1))[k]?:=by rw[<-z]
 rw[aa5,abl (by rw[aaP];omega),aaP,show k-min k ts.length=0 by omega,UR h] at e
 exact aaF e
theorem GU(ts:List Str)(k:Nat)(x y z:Str):GR ts ([x]++(ts.take k++[y]++ts.drop k)++[z]):=by
 have hl:([x]++(ts.take k++[y]++ts.drop k)++[z]).length=ts.length+3:=by simp;omega
 have hs:ts.Sublist ([x]++(ts.take k++[y]++ts.drop k)++[z]):=by
  refine List.Sublist.trans ?_ (List.sublist_append_left _ _)
  refine List.Sublist.trans ?_ (abk _ _)
  conv=>lhs;rw[<-abW k ts]
  rw[aa5]
  exact(aaV _).append (abk _ _)
 have:=AB (aaV ts) hs
 exact⟨Dt (by omega),by omega,by omega⟩
theorem Jd(ts:List Str)(k:Nat)(x y z:Str)(h:k+1<ts.length):GR ts (ts.take k++[x,y,z]++ts.drop (k+2)):=by
 have hl:(ts.take k++[x,y,z]++ts.drop (k+2)).length=ts.length+1:=by simp;omega
 have hs:(ts.take k++ts.drop (k+2)).Sublist ts:=by
  conv=>rhs;rw[<-abW k ts]
  refine(aaV _).append ?_
  exact K01.zR (by omega)
 have Fx:(ts.take k++ts.drop (k+2)).Sublist (ts.take k++[x,y,z]++ts.drop (k+2)):=by
  rw[aa5]
  exact(aaV _).append (abk _ _)
 have:=AB hs Fx
 have FR:(ts.take k++ts.drop (k+2)).length=ts.length-2:=by simp;omega
 exact⟨Dt (by omega),by omega,by omega⟩
def Q0:Sp:=λvs H Q _=>∃(t:Addr)(ts:List Str)(c:Int),vs=[.ref t,.int c]/\H t=some (.lst (gw ts))/\ts.length<=900/\∀p H' Ia,gv H H'->H' p=some (.lst (gw Ia))->GR ts Ia->Q (.ref p) H'
theorem HJ(T:Txt mg)(O:Ok K mg A):ie P w K mg base mL 2 A.yw A.yx ["texts","cell"] Q0:=by
 have yM:=@NN P w K mg base A T O
 refine O.xp.f.rB j7 λjt A outer s H vs Q E hr h=>?_
 obtain⟨t,ts,c,rfl,ht,hl,q⟩:=h
 have sz:sizeLine=16777216:=aaQ
 have et:((gw ts).length:Int)=(ts.length:Int):=by simp
 refine⟨_,(de (kZ 2 j7 (gD iz (gD jj (pv 1) gm) (gD iy (gK gE (by rfl) T.jw aaM (a_ (pv 0) e_)) gm)))
   (de (kZ 3 j7 (oh O.xo yM hr (a_ (gD jj (pv 1) gm) e_)))
   (de (kZ 4 j7 (gD mQ (gD mQ (mD oB (pv 0) oz (oA (pv 2))) (iB (a_ (pv 3) e_))) (mD oB (pv 0) (oA (pv 2)) oz)))
   (de (kZ 5 j7 (gD iz (pv 1) gm))
   (de (ql (il ((pw_and (hV mB (pv 5) gm (iA _)) (pw_and1 (hV Ef (gK gE (by rfl) T.jw aaM (a_ (pv 0) e_)) gm (iA _)))).pt) (de (kZ 6 j7 (gD iz (pv 2) (gK gE (by rfl) T.jw aaM (a_ (pv 0) e_))))
   (f_ (hE (gD mQ (mD oB (pv 0) oz (oA (pv 6))) (mD oB (pv 0) (oA (gD iy (pv 6) gm)) oz))))) hG))
   (de (ql (il ((pw_and (hV mB (pv 5) gm (iA _)) (pw_and (hV Ee (pv 2) (gK gE (by rfl) T.jw aaM (a_ (pv 0) e_)) (iA _)) (pw_and1 (hV Hl (kJ (pv 0) (pv 2)) (pv 3) (iA _))))).pt) (f_ (hE (gD mQ (gD mQ (mD oB (pv 0) oz (oA (pv 2))) (iB (a_ (pv 3) e_))) (mD oB (pv 0) (oA (gD iy (pv 2) gm)) oz)))) hG))
   (de (ql (il (hV mB (pv 5) gm (iA _)) (f_ (hE (gD mQ (gD mQ (iB (a_ (pv 3) e_)) (pv 4)) (iB (a_ (oh O.xo yM hr (a_ (gD jj (pv 1) gm) e_)) e_))))) hG))
   (de (ql (il ((pw_and (hV mB (pv 5) gm (iA _)) (pw_and1 (hV Ee (gD iy (pv 2) gm) (gK gE (by rfl) T.jw aaM (a_ (pv 0) e_)) (iA _)))).pt) (de (kZ 7 j7 (iB (a_ (kJ (pv 0) (gD iy (pv 2) gm)) (a_ (pv 3) (a_ (kJ (pv 0) (pv 2)) e_)))))
   (f_ (hE (gD mQ (gD mQ (mD oB (pv 0) oz (oA (pv 2))) (pv 7)) (mD oB (pv 0) (oA (gD iy (pv 2) gm)) oz))))) hG))
   (f_ (hE (pv 4))))))))))),?_⟩
 refine sl9 ?_;intro _ _ _ _ _ _ _ _
 refine⟨_,rfl,_,_,rfl,rfl,⟨by decide,by decide⟩,_,rfl,t,_,rfl,.inl (gN.of ht),_,_,rfl,rfl,_,_,rfl,rfl,(by rw[et];omega),?_⟩
 rw[et]
 have b:=mod_lt (c/5) ((ts.length:Int)+1) (by omega)
 obtain⟨k,hk⟩:∃k:Nat,c/5%((ts.length:Int)+1)=(k:Int):=⟨_,(abH b.1).symm⟩
 dsimp only
 rw[hk]
 have JC:k<=ts.length:=by omega
 refine⟨_,rfl,_,_,rfl,rfl,⟨by decide,by decide⟩,c/30,rfl,λx H1 s1=>?_⟩
 have ht1:=s1 _ _ ht
 refine⟨_,rfl,_,rfl,_,rfl,t,_,rfl,gN.of ht1,λa ha=>?_⟩
 rw[wd]
 have s2:=s1.new (o:=.lst (gw (ts.take k))) ha
 have h2a:(upd H1 a (.lst (gw (ts.take k)))) a=some (.lst (gw (ts.take k))):=b_
 generalize upd H1 a (.lst (gw (ts.take k)))=H2 at s2 h2a
 refine⟨_,rfl,L2.jL,λb0 FC=>?_⟩
 have s3:=s2.new (o:=.lst [V.str x]) FC
 refine⟨a,b0,_,_,rfl,rfl,hX FC h2a,b_,by simp;omega,λd hd=>?_⟩
 have s4:=s3.new (o:=.lst (gw (ts.take k)++[V.str x])) hd
 have h4d:(upd (upd H2 b0 (.lst [V.str x])) d (.lst (gw (ts.take k)++[V.str x]))) d=some (.lst (gw (ts.take k++[x]))):=by rw[b_,iY]
 generalize upd (upd H2 b0 (.lst [V.str x])) d (.lst (gw (ts.take k)++[V.str x]))=H4 at s4 h4d
 refine⟨_,rfl,_,rfl,_,rfl,t,_,rfl,gN.of (s4 _ _ ht),λe he=>?_⟩
 rw[Fm]
 have s5:=s4.new (o:=.lst (gw (ts.drop k))) he
 refine⟨d,e,_,_,rfl,rfl,hX he h4d,b_,by simp;omega,λm hm=>?_⟩
 have s6:=s5.new (o:=.lst (gw (ts.take k++[x])++gw (ts.drop k))) hm
 have ZK:(upd (upd H4 e (.lst (gw (ts.drop k)))) m (.lst (gw (ts.take k++[x])++gw (ts.drop k)))) m=some (.lst (gw (ts.take k++[x]++ts.drop k))):=by rw[b_,nP]
 generalize upd (upd H4 e (.lst (gw (ts.drop k)))) m (.lst (gw (ts.take k++[x])++gw (ts.drop k)))=H6 at s6 ZK
 have G9:=s6 _ _ ht
 refine⟨_,rfl,_,_,rfl,rfl,(by show(0:Int)<5;decide),?_⟩
 refine⟨λZ H7=>Z=[rr t,ri c,ri k,rs x,rr m,ri (c%5),none,none]/\H7=H6,?_,?_⟩
 ·refine⟨_,rfl,rfl,_,rfl,?_⟩
  refine kY (λ_=>?_) (λ_=>jf ⟨rfl,rfl⟩)
  refine⟨_,rfl,t,_,rfl,.inl (gN.of G9),_,_,rfl,rfl,_,rfl,?_⟩
  refine kY (λh1=>?_) (λ_=>⟨rfl,rfl⟩)
  have h1:0<ts.length:=by have:=aaB h1;rw[et] at this;omega
  refine⟨_,rfl,_,rfl,t,_,rfl,.inl (gN.of G9),_,_,rfl,rfl,(by rw[et];omega),?_⟩
  have b2:=mod_lt (k:Int) (ts.length:Int) (by omega)
  obtain⟨o,ho⟩:∃o:Nat,(k:Int)%(ts.length:Int)=(o:Int):=⟨_,(abH b2.1).symm⟩
  rw[et]
  dsimp only
  rw[ho]
  refine⟨_,rfl,_,rfl,_,rfl,t,_,rfl,gN.of G9,λa ha=>?_⟩
  have s7:=s6.new (o:=.lst (u_ (gw ts) none (some (o:Int)))) ha
  refine⟨_,rfl,_,rfl,_,_,rfl,rfl,_,rfl,t,_,rfl,gN.of (s7 _ _ ht),λe he=>?_⟩
  have s8:=s7.new (o:=.lst (u_ (gw ts) (some ((o:Int)+1)) none)) he
  refine⟨a,e,gw (ts.take o),gw (ts.drop (o+1)),rfl,rfl,hX he (by rw[b_,wd]),by rw[b_,xw ts (k:=o+1) (by omega)],by simp;omega,λp hp=>?_⟩
  refine q p _ _ (s8.new hp) ?_ (Lk ts o (by omega))
  rw[b_,nP]
 rintro Z H7 ⟨rfl,rfl⟩
 refine⟨λZ H8=>Z=[rr t,ri c,ri k,rs x,rr m,ri (c%5),none,none]/\H8=H7,?_,?_⟩
 ·refine⟨_,rfl,rfl,_,rfl,?_⟩
  refine kY (λ_=>?_) (λ_=>jf ⟨rfl,rfl⟩)
  refine⟨_,rfl,_,rfl,t,_,rfl,.inl (gN.of G9),_,_,rfl,rfl,_,rfl,?_⟩
  refine kY (λh1=>?_) (λ_=>jf ⟨rfl,rfl⟩)
  have h1:k<ts.length:=by have:=aaB h1;rw[et] at this;omega
  have hx:ts[k]?=some ts[k]:=UR h1
  refine⟨_,rfl,_,rfl,t,_,_,_,rfl,rfl,gN.of G9,gG rfl (j3 hx),_,rfl,rfl,_,rfl,?_⟩
  refine kY (λh2=>?_) (λ_=>⟨rfl,rfl⟩)
  have h2:ts[k]≠x:=λz=>by rw[z] at h2;simp at h2
  refine⟨_,rfl,_,rfl,_,rfl,t,_,rfl,gN.of G9,λa ha=>?_⟩
  have s7:=s6.new (o:=.lst (u_ (gw ts) none (some (k:Int)))) ha
  rw[wd] at s7 ⊢
  refine⟨_,rfl,L2.jL,λb0 FC=>?_⟩
  have s8:=s7.new (o:=.lst [V.str x]) FC
  refine⟨a,b0,_,_,rfl,rfl,hX FC b_,b_,by simp;omega,λd hd=>?_⟩
  have s9:=s8.new (o:=.lst (gw (ts.take k)++[V.str x])) hd
  refine⟨_,rfl,_,rfl,_,_,rfl,rfl,_,rfl,t,_,rfl,gN.of (s9 _ _ ht),λe he=>?_⟩
  have FT:=s9.new (o:=.lst (u_ (gw ts) (some ((k:Int)+1)) none)) he
  refine⟨d,e,_,gw (ts.drop (k+1)),rfl,rfl,hX he b_,by rw[b_,xw ts (k:=k+1) (by omega)],by simp;omega,λp hp=>?_⟩
  refine q p _ _ (FT.new hp) ?_ (GS ts k x h1 h2)
  rw[b_,iY,nP]
 rintro Z H8 ⟨rfl,rfl⟩
 refine⟨λZ H9=>Z=[rr t,ri c,ri k,rs x,rr m,ri (c%5),none,none]/\H9=H8,?_,?_⟩
 ·refine⟨_,rfl,rfl,_,rfl,?_⟩
  refine kY (λ_=>?_) (λ_=>⟨rfl,rfl⟩)
  refine⟨_,rfl,L2.jL,λa ha=>?_⟩
  have s7:=s6.new (o:=.lst [V.str x]) ha
  refine⟨_,rfl,a,m,_,_,rfl,rfl,b_,hX ha ZK,by simp;omega,λb0 FC=>?_⟩
  have s8:=s7.new (o:=.lst ([V.str x]++gw (ts.take k++[x]++ts.drop k))) FC
  refine⟨_,rfl,_,_,rfl,rfl,⟨by decide,by decide⟩,c/60,rfl,λy H9 s9=>⟨L2.jL,λd hd=>?_⟩⟩
  have FT:=(s8.trans s9).new (o:=.lst [V.str y]) hd
  refine⟨b0,d,_,_,rfl,rfl,hX hd (s9 _ _ b_),b_,by simp;omega,λp hp=>?_⟩
  refine q p _ _ (FT.new hp) ?_ (GU ts k x x y)
  rw[b_]
  simp[gw]
 rintro Z H9 ⟨rfl,rfl⟩
 refine⟨λZ y8=>Z=[rr t,ri c,ri k,rs x,rr m,ri (c%5),none,none]/\y8=H9,?_,?_⟩
 ·refine⟨_,rfl,rfl,_,rfl,?_⟩
  refine kY (λ_=>?_) (λ_=>jf ⟨rfl,rfl⟩)
  refine⟨_,rfl,_,_,rfl,rfl,_,rfl,t,_,rfl,.inl (gN.of G9),_,_,rfl,rfl,_,rfl,?_⟩
  refine kY (λh1=>?_) (λ_=>⟨rfl,rfl⟩)
  have h1:k+1<ts.length:=by have:=aaB h1;rw[et] at this;omega
  have hx:ts[k]?=some ts[k]:=UR (by omega)
  have hy:ts[k+1]?=some ts[k+1]:=UR h1
  refine⟨_,rfl,_,rfl,_,_,rfl,rfl,t,_,_,_,rfl,rfl,gN.of G9,gG (j:=k+1) (by omega) (j3 hy),_,rfl,_,rfl,_,rfl,t,_,_,_,rfl,rfl,gN.of G9,gG rfl (j3 hx),L2.jL,λu hu=>?_⟩
  have s7:=s6.new (o:=.lst [V.str ts[k+1],V.str x,V.str ts[k]]) hu
  have h7u:(upd H9 u (.lst [V.str ts[k+1],V.str x,V.str ts[k]])) u=some (.lst (gw [ts[k+1],x,ts[k]])):=b_
  generalize upd H9 u (.lst [V.str ts[k+1],V.str x,V.str ts[k]])=Ib at s7 h7u
  refine⟨_,rfl,_,rfl,_,rfl,t,_,rfl,gN.of (s7 _ _ ht),λa ha=>?_⟩
  rw[wd]
  have s8:=s7.new (o:=.lst (gw (ts.take k))) ha
  refine⟨_,rfl,a,u,_,_,rfl,rfl,b_,hX ha h7u,by simp;omega,λd hd=>?_⟩
  have s9:=s8.new (o:=.lst (gw (ts.take k)++gw [ts[k+1],x,ts[k]])) hd
  refine⟨_,rfl,_,rfl,_,_,rfl,rfl,_,rfl,t,_,rfl,gN.of (s9 _ _ ht),λe he=>?_⟩
  have FT:=s9.new (o:=.lst (u_ (gw ts) (some ((k:Int)+2)) none)) he
  refine⟨d,e,_,gw (ts.drop (k+2)),rfl,rfl,hX he b_,by rw[b_,xw ts (k:=k+2) (by omega)],by simp;omega,λp hp=>?_⟩
  refine q p _ _ (FT.new hp) ?_ (Jd ts k ts[k+1] x ts[k] h1)
  rw[b_,nP,nP]
 rintro Z y8 ⟨rfl,rfl⟩
 exact⟨_,rfl,q m _ _ s6 ZK (Jc ts k x)⟩
structure Sz(k:Nat)(D:Dk):Prop where
 many:D.made.length<=k
 iw:(D.made.flatMap (·.iw)).length<=3*k
 js:(D.made.flatMap (·.js)).length<=3*(k*k)
theorem HK(k:Nat):(k+1)*(k+1)=k*k+2*k+1:=by simp only [Nat.mul_add,Nat.add_mul];omega
theorem Sz.up{k:Nat}{D:Dk}(z:Sz k D):Sz (k+1) D:=⟨Nat.le_succ_of_le z.many,by have:=z.iw;omega,by have:=z.js;have:=HK k;omega⟩
theorem Sz.keep{k:Nat}{D:Dk}(z:Sz k D)(s:Str){p:Pt}(hp:p.iw.length<=3)(hc:p.js.length<=3*k+3):Sz (k+1) (D.keep s p):=by
 refine⟨?_,?_,?_⟩
 ·show(D.made++[p]).length<=_
  rw[YO];have:=z.many;show _+1<=_;omega
 ·show((D.made++[p]).flatMap (·.iw)).length<=_
  rw[abd,YO,aaW,ab0,aa0];have:=z.iw;omega
 ·show((D.made++[p]).flatMap (·.js)).length<=_
  rw[abd,YO,aaW,ab0,aa0];have:=z.js;have:=HK k;omega
theorem Sz.small{k:Nat}{D:Dk}(z:Sz k D)(h:k<=36):Small D.made:=by
 have h2:k*k<=36*36:=Nat.mul_le_mul h h
 exact⟨aan z.many (by omega),aan z.iw (by omega),aan z.js (by omega)⟩
theorem Sz.row{k:Nat}{D:Dk}(z:Sz k D)(I:Inv D)(s f:Str):(D.row s f).length<=3*k:=aan (I.vq s f) z.iw
theorem qR(D:Dk)(s:Str)(p:Pt):(D.keep s p).names=D.names++[p.nm]:=by
 show(D.made++[p]).map (·.nm)=_
 rw[aaH];rfl
theorem Cf{x f:Str}{row:List Ln}{texts:List Str}(e:GR (row.map (·.tx)) texts):(jV x f row texts).iw.length<=3:=by
 have rise:=pI (row.map (·.tx)) texts
 rw[O7] at rise
 have h:=Hx rise x
 rw[K01.xX] at h
 have:=e.near
 show(ki x texts _).length<=3
 omega
theorem pick{xs:List Str}{i:Int}(h0:0<=i)(h:i<(xs.length:Int)):∃x,Gg (gw xs) i=some (V.str x)/\x∈xs:=by
 obtain⟨v,e,ev⟩:=rK (xs:=gw xs) h0 (by simpa using h)
 obtain⟨x,hx,rfl⟩:=lP ev
 exact⟨x,e,XZ hx⟩
def Q1(A:Ad):Sp:=λvs H Q _=>∃(d ss fs:Addr)(D:Dk)(W:Addr->Prop)(k:Nat)(stores files:List Str)(c:Int)(x:Str)(b:Bool),vs=[.ref d,.ref ss,.ref fs,.int c,.str x,.bl b]/\ia A H d D W/\Inv D/\Sz k D/\k<36/\
 H ss=some (.lst (gw stores))/\stores≠[]/\stores.length<=1000/\(∀s∈stores,s∈D.stores/\kU s)/\H fs=some (.lst (gw files))/\files≠[]/\files.length<=1000/\(∀f∈files,Good f)/\Good x/\x∉D.names/\(∀z∈D.names,kU z)/\
 ∀H' D',ia A H' d D' W->oX W H H'->Inv D'->Sz (k+1) D'->D'.stores=D.stores->(D'.names=D.names\/D'.names=D.names++[x])->Q .jb H'
theorem NO(T:Txt mg)(O:Ok K mg A):ie P w K mg base mL 7 A.yy A.yz ["desk","stores","files","cell","name","backs"] (Q1 A):=by
 have og:=(@GN P w K mg base A T O).FQ
 have jz:=(@GL P w K mg base A T O).FQ
 have FE:=(@NK P w K mg base A T O).FQ
 have FF:=(@NH P w K mg base A T O).FQ
 have FG:=(@NG P w K mg base A T O).FQ
 have kj:=(@sS P w K mg base A T O).FQ
 have pf:=(@Ce P w K mg base A T O).FQ
 have uI:=(@Lh P w K mg base A T O).FQ
 have sY:=@HJ P w K mg base A T O
 refine O.B5.f.rB jl λjt A0 outer s H vs Q E hr h=>?_
 obtain⟨d,ss,fs,D,W,k,stores,files,c,x,bk,rfl,X,I,z,hk,RM,hs0,Wt,uH,wz,W0,Jx,hfg,gx,hx,OX,q⟩:=h
 obtain⟨Y,y⟩:=id X
 have sz:sizeLine=16777216:=aaQ
 have sm:=z.small (by omega)
 have jL:xq D.made.length:=sm.many
 have y4:D.made.length<=4000:=jL
 have es:((gw stores).length:Int)=(stores.length:Int):=by simp
 have ef:((gw files).length:Int)=(files.length:Int):=by simp
 have YI:0<stores.length:=List.length_pos_iff.mpr hs0
 have hf1:0<files.length:=List.length_pos_iff.mpr W0
 refine⟨_,(de (kZ 6 jl (kJ (pv 1) (gD iz (pv 3) (gK gE (by rfl) T.jw aaM (a_ (pv 1) e_)))))
   (de (kZ 7 jl (kJ (pv 2) (gD iz (gD jj (pv 3) gm) (gK gE (by rfl) T.jw aaM (a_ (pv 2) e_)))))
   (de (kZ 8 jl (gD iz (gD jj (pv 3) gm) gm))
   (de (kZ 9 jl (gD jj (pv 3) gm))
   (de (BR (j:=10) x_ (gp oJ).names [13] jl.nd rfl rfl rfl (ic (xW (pv 0) O.gO O.vT og hr (a_ (pv 6) (a_ (pv 7) e_)))) rfl (by decide+kernel) (λ_ _ _ _=>(ir (i:=13) jl.nd rfl (Or.inl rfl))) (λ_ _ _ _=>lN) (λ_ _ _ _=>zc (jo kS (pv 13) gm (λ_ _=>rfl))))
   (f_ (il (Kz ((pw_and (hV mB (pv 8) gm (iA _)) (pw_and (lu (pv 5)) (pw_and1 (hV Ef (gK gE (by rfl) T.jw aaM (a_ (xW (pv 0) O.gO O.k7 jz hr (a_ (pv 6) e_)) e_)) gm (iA _))))).pt)) (f_ (hU (xW (pv 0) O.gO O.B1 FE hr (a_ (pv 6) (a_ (pv 4) (a_ (kJ (xW (pv 0) O.gO O.k7 jz hr (a_ (pv 6) e_)) (gD iz (pv 9) (gK gE (by rfl) T.jw aaM (a_ (xW (pv 0) O.gO O.k7 jz hr (a_ (pv 6) e_)) e_)))) e_)))))) (f_ (il (Kz ((pw_and (hV mB (pv 8) gm (iA _)) (pw_and (hV mB (gD iz (pv 9) gm) gm (iA _)) (pw_and1 (hV Ef (gK gE (by rfl) T.jw aaM (a_ (xW (pv 0) O.gO O.k7 jz hr (a_ (pv 6) e_)) e_)) gm (iA _))))).pt)) (f_ (hU (xW (pv 0) O.gO O.B3 FF hr (a_ (pv 6) (a_ (kJ (xW (pv 0) O.gO O.k7 jz hr (a_ (pv 6) e_)) (xP rG gm)) e_))))) (f_ (il (hV Ef (pv 8) gm (iA _)) (de (kZ 11 jl (kJ (pv 1) (gD iz (pv 9) (gK gE (by rfl) T.jw aaM (a_ (pv 1) e_)))))
   (de (kZ 12 jl (xW (pv 0) O.gO O.k7 jz hr (a_ (pv 11) e_)))
   (f_ (il (hV Ef (gK gE (by rfl) T.jw aaM (a_ (pv 12) e_)) gm (iA _)) (f_ (hU (xW (pv 0) O.gO O.B2 FG hr (a_ (pv 6) (a_ (pv 11) (a_ (kJ (pv 12) (gD iz (gD jj (pv 9) gm) (gK gE (by rfl) T.jw aaM (a_ (pv 12) e_)))) e_)))))) hG)))) (f_ (il (hV mB (gK gE (by rfl) T.jw aaM (a_ (xW (pv 0) O.gO O.mz kj hr (a_ (pv 6) (a_ (pv 7) e_))) e_)) gm (iA _)) (f_ (hU (xW (pv 0) O.gO O.sE pf hr (a_ (pv 6) (a_ (pv 4) (a_ (pv 7) (a_ (oh O.xp sY hr (a_ (pv 10) (a_ (pv 9) e_))) e_))))))) (f_ (hU (xW (pv 0) O.gO O.Ap uI hr (a_ (pv 6) (a_ (pv 4) (a_ (pv 7) (a_ (iB (a_ (gD iz (pv 9) (gK gE (by rfl) T.jw aaM (a_ (pv 10) e_))) e_)) e_)))))))))))))))))))),?_⟩
 refine R8 ?_;intro _ _ _ _ _
 have b1:=mod_lt c (stores.length:Int) (by omega)
 obtain⟨st,ZL,N9⟩:=pick (xs:=stores) b1.1 b1.2
 have b2:=mod_lt (c/7) (files.length:Int) (by omega)
 obtain⟨f,ZM,hf2⟩:=pick (xs:=files) b2.1 b2.2
 obtain⟨uQ,G_⟩:=uH st N9
 have gf:=hfg f hf2
 refine⟨_,rfl,_,rfl,_,rfl,ss,_,rfl,.inl (gN.of RM),_,_,rfl,rfl,(by rw[es];omega),ss,_,_,_,rfl,rfl,gN.of RM,(by rw[es];exact ZL),?_⟩
 refine⟨_,rfl,_,rfl,_,_,rfl,rfl,⟨by decide,by decide⟩,_,rfl,fs,_,rfl,.inl (gN.of wz),_,_,rfl,rfl,(by rw[ef];omega),fs,_,_,_,rfl,rfl,gN.of wz,(by rw[ef];exact ZM),?_⟩
 refine⟨_,rfl,_,_,rfl,rfl,⟨by decide,by decide⟩,_,_,rfl,rfl,(by show(0:Int)<6;decide),?_⟩
 refine⟨_,rfl,_,_,rfl,rfl,⟨by decide,by decide⟩,?_⟩
 refine⟨_,rfl,d,Y.dx,_,rfl,y.hd,GK,_,rfl,_,rfl,d,D,W,st,f,rfl,X,G_,sm,I,λh=>absurd uQ h,λ_ r H1 s1 tK ⟨vs,xG,zp⟩=>?_⟩
 have Dy:=z.row I st f
 have VA:=aav zp
 let Jv:=λ(i:Nat) (ys:List V) (Z:St) (H4:Hp)=>∃(Hc:Option V),Z=[rr d,rr ss,rr fs,ri c,rs x,some (.bl bk),rs st,rs f,ri (c/11%6),ri (c/66),none,none,none,Hc]/\H4=H1/\ys=gw (((D.row st f).take i).map (·.tx))
 refine⟨r,rfl,⟨_,gN.of xG⟩,jD (K:=K) (a:=r) (xs:=vs) (by omega) Jv
  ⟨none,rfl,rfl,rfl⟩ (by rintro _ _ _ _ _ ⟨_,_,e,e2⟩;rw[e,e2];exact⟨gN.of xG,by rw[O7,O7,aaP];omega⟩) ?_ ?_⟩
 ·rintro i v ys Z H4 hx ⟨Hc,rfl,rfl,rfl⟩
  obtain⟨ln,tQ,t,rfl,ht⟩:=ib zp hx
  refine⟨_,rfl,t,_,_,_,rfl,rfl,oy.of ht,gG (j:=2) rfl rfl,_,rfl,rfl,?_⟩
  rw[take_snoc tQ,aaH,iY]
  rfl
 rintro ys Z H4 ⟨Hc,rfl,rfl,rfl⟩ VB U8
 rw[VA,aaE]
 have s2:=s1.new (o:=.lst (gw ((D.row st f).map (·.tx)))) U8
 have VC:(upd H4 VB (.lst (gw ((D.row st f).map (·.tx))))) VB=some (.lst (gw ((D.row st f).map (·.tx)))):=b_
 generalize upd H4 VB (.lst (gw ((D.row st f).map (·.tx))))=H2 at s2 VC
 have X2:=X.same s2
 have L6:(((D.row st f).map (·.tx)).length:Int)=((D.row st f).length:Int):=by rw[O7]
 have el:∀l:List Str,((gw l).length:Int)=(l.length:Int):=λl=>by simp
 have hasB:∀u,(D.has u).length<=D.made.length:=λu=>by
  rw[Dk.qy,O7];exact aaY _ _
 have RN:∀u,∀v∈D.has u,v∈D.held u/\v∈D.names:=λu v hv=>by
  obtain⟨h1,h2⟩:=aap.mp hv
  exact⟨aaB h2,h1⟩
 refine⟨λb H3=>gv H2 H3/\(b=true->D.has st≠[]),?_,?_⟩
 ·refine⟨_,rfl,rfl,_,rfl,?_⟩
  refine kY (λ_=>?_) (λ_=>⟨gv.refl _,λz=>by cases z⟩)
  refine⟨_,rfl,_,rfl,?_⟩
  refine kY (λ_=>?_) (λ_=>⟨gv.refl _,λz=>by cases z⟩)
  refine⟨_,rfl,d,Y.dx,_,rfl,s2 _ _ y.hd,qO,_,rfl,d,D,W,st,rfl,X2,G_,jL,λh=>absurd uQ h,λ_ p pw=>?_⟩
  refine⟨p,_,rfl,.inl (gN.of b_),_,_,rfl,rfl,_,rfl,(gv.refl H2).new pw,λh e=>?_⟩
  rw[e] at h
  exact absurd (aaB h) (by decide)
 rintro b H3 ⟨s23,hb⟩
 have s3:=s2.trans s23
 have X3:=X.same s3
 cases b with
 | true=>
  have oe:=hb rfl
  have hpos:0<(D.has st).length:=List.length_pos_iff.mpr oe
  refine lL ?_
  refine⟨_,rfl,d,Y.dx,_,rfl,s3 _ _ y.hd,Nx,_,rfl,_,rfl,_,rfl,d,Y.dx,_,rfl,s3 _ _ y.hd,qO,_,rfl,d,D,W,st,rfl,X3,G_,jL,λh=>absurd uQ h,λ_ p pw=>?_⟩
  have s4:=s3.new (o:=.lst (gw (D.has st))) pw
  refine⟨_,rfl,_,rfl,d,Y.dx,_,rfl,s4 _ _ y.hd,qO,_,rfl,d,D,W,st,rfl,X.same s4,G_,jL,λh=>absurd uQ h,λ_ p2 A8=>?_⟩
  have s5:=s4.new (o:=.lst (gw (D.has st))) A8
  have b3:=mod_lt (c/66) ((D.has st).length:Int) (by omega)
  obtain⟨o,eo,ho⟩:=pick (xs:=D.has st) b3.1 b3.2
  obtain⟨RO,SK⟩:=RN st o ho
  refine⟨p2,_,rfl,.inl (gN.of b_),_,_,rfl,rfl,(by rw[el];omega),p,_,_,_,rfl,rfl,gN.of (hX A8 b_),(by rw[el];exact eo),?_⟩
  refine⟨d,D,W,st,x,o,rfl,X.same s5,I,jL,G_,gx.uF,OX o SK,λh=>absurd uQ h,λ_ h=>absurd gx h,λ_ _ h=>absurd h hx,λ_ _ _ h=>absurd RO h,λ_ _ _ _ H' X' s'=>?_⟩
  exact q H' _ X' (λb o e n=>s' b o (s5 _ _ e) n) (I.back uQ hx RO) (z.keep st (aaZ _) (aaZ _)) rfl (.inr (qR D st _))
 | false=>
 refine jf ?_
 refine⟨λb H4=>gv H3 H4/\(b=true->D.has st≠[]),?_,?_⟩
 ·refine⟨_,rfl,rfl,_,rfl,?_⟩
  refine kY (λ_=>?_) (λ_=>⟨gv.refl _,λz=>by cases z⟩)
  refine⟨_,rfl,_,_,rfl,rfl,(by show(0:Int)<4;decide),rfl,_,rfl,?_⟩
  refine kY (λ_=>?_) (λ_=>⟨gv.refl _,λz=>by cases z⟩)
  refine⟨_,rfl,d,Y.dx,_,rfl,s3 _ _ y.hd,qO,_,rfl,d,D,W,st,rfl,X3,G_,jL,λh=>absurd uQ h,λ_ p pw=>?_⟩
  refine⟨p,_,rfl,.inl (gN.of b_),_,_,rfl,rfl,_,rfl,(gv.refl H3).new pw,λh e=>?_⟩
  rw[e] at h
  exact absurd (aaB h) (by decide)
 rintro b H4 ⟨RL,hb⟩
 have s4:=s3.trans RL
 have X4:=X.same s4
 cases b with
 | true=>
  have oe:=hb rfl
  obtain⟨zs,la,Of⟩:∃zs la,D.has st=zs++[la]:=⟨_,_,(List.dropLast_concat_getLast oe).symm⟩
  have WK:=RN st la (by rw[Of];simp)
  refine lL ?_
  refine⟨_,rfl,d,Y.dx,_,rfl,s4 _ _ y.hd,Nz,_,rfl,_,rfl,d,Y.dx,_,rfl,s4 _ _ y.hd,qO,_,rfl,d,D,W,st,rfl,X4,G_,jL,λh=>absurd uQ h,λ_ p pw=>?_⟩
  have s5:=s4.new (o:=.lst (gw (D.has st))) pw
  have Sl:Gg (gw (D.has st)) (-1)=some (V.str la):=by rw[Of,<-iY];exact Eo _ _
  refine⟨_,rfl,p,_,_,_,rfl,rfl,gN.of b_,Sl,?_⟩
  refine⟨d,D,W,st,la,rfl,X.same s5,I,jL,G_,OX la WK.2,OX,λh=>absurd uQ h,λ_ h=>absurd WK.1 h,λ_ _ h=>absurd (I.BY uQ Of) h,λ_ _ _ H' X' s'=>?_⟩
  exact q H' _ X' (λb o e n=>s' b o (s5 _ _ e) n) (I.drop uQ (I.BY uQ Of)) ⟨z.up.many,z.up.iw,z.up.js⟩ rfl (.inl rfl)
 | false=>
 refine jf ?_
 refine⟨_,rfl,_,_,rfl,rfl,_,rfl,?_⟩
 refine kY (λ_=>?_) (λ_=>?_)
 ·have b3:=mod_lt (c/66) (stores.length:Int) (by omega)
  obtain⟨so,Jt,L7⟩:=pick (xs:=stores) b3.1 b3.2
  obtain⟨L8,VD⟩:=uH so L7
  refine⟨_,rfl,_,rfl,_,rfl,ss,_,rfl,.inl (gN.of (s4 _ _ RM)),_,_,rfl,rfl,(by rw[es];omega),ss,_,_,_,rfl,rfl,gN.of (s4 _ _ RM),(by rw[es];exact Jt),?_⟩
  refine⟨_,rfl,d,Y.dx,_,rfl,s4 _ _ y.hd,qO,_,rfl,d,D,W,so,rfl,X4,VD,jL,λh=>absurd L8 h,λ_ p pw=>?_⟩
  have s5:=s4.new (o:=.lst (gw (D.has so))) pw
  refine⟨_,rfl,p,_,rfl,.inl (gN.of b_),_,_,rfl,rfl,_,rfl,?_⟩
  refine kY (λh=>?_) (λ_=>?_)
  ·have h:0<(D.has so).length:=by have:=aaB h;rw[el] at this;omega
   have b4:=mod_lt (c/66/5) ((D.has so).length:Int) (by omega)
   obtain⟨o,eo,ho⟩:=pick (xs:=D.has so) b4.1 b4.2
   obtain⟨RO,SK⟩:=RN so o ho
   refine⟨_,rfl,d,Y.dx,_,rfl,s5 _ _ y.hd,Ny,_,rfl,_,rfl,_,rfl,_,rfl,_,_,rfl,rfl,⟨by decide,by decide⟩,_,rfl,p,_,rfl,.inl (gN.of b_),_,_,rfl,rfl,(by rw[el];omega),p,_,_,_,rfl,rfl,gN.of b_,(by rw[el];exact eo),?_⟩
   refine⟨d,D,W,st,so,o,rfl,X.same s5,I,jL,G_,VD,OX o SK,λh=>absurd uQ h,λ_ h=>absurd L8 h,λ_ _ h=>absurd RO h,λ_ _ _ cm H6 H' s6 So _ X' s'=>?_⟩
   exact q H' _ X' (λb o e n=>s' b o (by rw[d_ (gr (s6 _ _ (s5 _ _ e)) So)];exact s6 _ _ (s5 _ _ e)) n) (I.take uQ SK) ⟨z.up.many,z.up.iw,z.up.js⟩ rfl (.inl rfl)
  ·exact q _ D (X.same s5) (oX.of s5) I z.up rfl (.inl rfl)
 refine⟨_,rfl,d,Y.dx,_,rfl,s4 _ _ y.hd,sQ,_,rfl,_,rfl,d,D,W,st,f,rfl,X4,G_,sm,I,λh=>absurd uQ h,λ_ p H5 qs Oe pw O8 A8=>?_⟩
 have s5:=s4.trans Oe
 have H_:=aav A8
 have VE:=Oe _ _ (RL _ _ (s23 _ _ VC))
 refine⟨p,_,rfl,.inl (gN.of O8),rfl,_,rfl,?_⟩
 refine kY (λh=>?_) (λh=>?_)
 ·have hq:D.jQ st f=[]:=by
   have:=V.int.inj (aaB h)
   rw[<-H_] at this
   exact aaR.mp (by omega)
  refine⟨_,rfl,d,Y.dx,_,rfl,s5 _ _ y.hd,Cb,_,rfl,_,rfl,_,rfl,_,rfl,_,rfl,VB,(D.row st f).map (·.tx),c/66,rfl,VE,by rw[O7];omega,λt H6 ts RF G9 ed=>?_⟩
  have s6:=s5.trans RF
  have Rr:=ed.len
  rw[O7] at Rr
  refine⟨d,t,D,W,st,x,f,ts,rfl,X.same s6,I,sm,aan z.iw (by omega),G_,gx.uF,gf.uF,G9,by omega,λh=>absurd uQ h,λ_ h=>absurd ⟨gx,gf⟩ h,λ_ _ _ h=>absurd h hx,λ_ _ _ _ h=>absurd hq h,λ_ _ _ _ _ h=>absurd h ed.ne,λ_ _ _ _ _ _ H' X' s'=>?_⟩
  refine q H' _ X' (λb o e n=>s' b o (s6 _ _ e) n) (I.record uQ hx hq ts) (z.keep st (Cf ed) (aan qQ.2 (by omega))) rfl (.inr (qR D st _))
 ·have hq:D.jQ st f≠[]:=λe=>h (by rw[<-H_,e];rfl)
  have hrpos:0<(D.row st f).length:=by
   rcases Nat.eq_zero_or_pos (D.row st f).length with e|e
   ·exfalso
    apply hq
    show ja _ (D.row st f)=[]
    rw[aaR.mp e]
    rfl
   ·exact e
  have b3:=mod_lt (c/66) ((D.row st f).length:Int) (by omega)
  refine⟨_,rfl,d,Y.dx,_,rfl,s5 _ _ y.hd,Lc,_,rfl,_,rfl,_,rfl,_,rfl,_,rfl,VB,_,rfl,.inl (gN.of VE),_,_,rfl,rfl,(by rw[el,L6];omega),L2.jL,λt ht=>?_⟩
  have s6:=s5.new (o:=.lst [V.int (c/66%((gw ((D.row st f).map (·.tx))).length:Int))]) ht
  refine⟨d,t,D,W,st,x,f,[c/66%((gw ((D.row st f).map (·.tx))).length:Int)],rfl,X.same s6,I,sm,G_,gx.uF,gf.uF,b_,by show 1<=1000;decide,λp hp=>?_,λh=>absurd uQ h,λ_ h=>absurd ⟨gx,gf⟩ h,λ_ _ _ h=>absurd h hx,λ_ _ _ _ h=>absurd ?_ h,(λ_ _ _ _ h=>by cases h),λ_ _ _ _ ok _ H' X' s'=>?_⟩
  ·rw[XT.mp hp,el,L6]
   refine abz (m:=108) ?_ (by decide)
   exact aan (Nat.log2_le_self _) (by omega)
  ·rw[el,L6]
   exact⟨⟨b3.1,b3.2⟩,trivial⟩
  ·refine q H' _ X' (λb o e n=>s' b o (s6 _ _ e) n) (I.cut uQ hx λm hm=>?_) (z.keep st (aaZ _) (aan (aci _ _) (by show 1<=_;omega))) rfl (.inr (qR D st _))
   obtain⟨pl,_,nK⟩:=abx.mp hm
   obtain⟨l',yL,rfl⟩:=Option.map_eq_some_iff.mp nK
   exact aaf (XZ yL)
theorem nI{K:Qqy}{H H':Hp}{a:Addr}{xs:List V}(h:gN K H a xs)(s:gv H H'):gN K H' a xs:=by
 rcases h with(h|⟨u,h⟩)|h
 ·exact .inl (.inl (s _ _ h))
 ·exact .inl (.inr ⟨u,s _ _ h⟩)
 ·exact .inr h
abbrev yZ(ns:List Int)(i:Int):Int:=cellAt ns i%20736
noncomputable def rD(ns:List Int):List Str:=[nameOf (yZ ns 0) 0,nameOf (yZ ns 0) 1,nameOf (yZ ns 0) 2]
noncomputable def qh(ns:List Int):List Str:=[nameOf (yZ ns 1) 0,nameOf (yZ ns 1) 1]
theorem Ci(ns:List Int):(rD ns).Nodup:=by
 have h:∀i j:Int,0<=i->i<36->0<=j->j<36->i≠j->nameOf (yZ ns 0) i≠nameOf (yZ ns 0) j:=λi j a b c d e z=>e (wc a b c d z)
 unfold rD
 simp only [aa9,aah,acn,or_false,not_or,abu,and_true]
 exact⟨⟨h 0 1 (by decide) (by decide) (by decide) (by decide) (by decide),h 0 2 (by decide) (by decide) (by decide) (by decide) (by decide)⟩,h 1 2 (by decide) (by decide) (by decide) (by decide) (by decide),by simp⟩
theorem sU{ns:List Int}:∀s∈rD ns,Good s:=by
 intro s hs
 unfold rD at hs
 simp only [aah,acn,or_false] at hs
 rcases hs with rfl|rfl|rfl<;>exact qc _ _
theorem Fn{ns:List Int}:∀s∈qh ns,Good s:=by
 intro s hs
 unfold qh at hs
 simp only [aah,acn,or_false] at hs
 rcases hs with rfl|rfl<;>exact qc _ _
structure Built(A:Ad)(ns:List Int)(n:Nat)(H H':Hp)(b d ss fs:Addr)(D:Dk)(W:Addr->Prop):Prop where
 same:gv H H'
 fresh:H b=none
 at_:H' b=some (.lst [.ref d,.ref ss,.ref fs])
 st:H' ss=some (.lst (gw (rD ns)))
 fl:H' fs=some (.lst (gw (qh ns)))
 Yi:ia A H' d D W
 own:∀x,W x->H x=none
 inv:Inv D
 sz:Sz n D
 stores:D.stores=rD ns
 names:∀x∈D.names,∃j:Nat,j<n/\x=nameOf (yZ ns 3) j
def Q2(K:PySem.W.Frag)(A:Ad):Sp:=λvs H Q _=>∃(a:Addr)(ns:List Int)(first:Int)(n:Nat)(bk:Bool),vs=[.ref a,.int first,.int n,.bl bk]/\gN K H a (ns.map V.int)/\ns.length<=1000/\0<=first/\first<=1000/\n<=35/\∀b d ss fs D W H',Built A ns n H H' b d ss fs D W->Q (.ref b) H'
theorem NP(T:Txt mg)(O:Ok K mg A):ie P w K mg base mL 8 A.yA A.yB ["script","first","most","backs"] (Q2 K A):=by
 have y9:=@Di P w K mg base A T O
 have DD:=(@Le P w K mg base A T O).FQ
 have mJ:=@HI P w K mg base A T O
 have iM:=@HH P w K mg base A T O
 have FH:=@NM P w K mg base A T O
 have FJ:=@NO P w K mg base A T O
 refine O.B6.f.rB i7 λjt A0 outer s H vs Q E hr h=>?_
 obtain⟨a,ns,first,n,bk,rfl,ha,RC,W0,hf1,hn,q⟩:=h
 have sz:sizeLine=16777216:=aaQ
 refine⟨_,(de (kZ 4 i7 (JQ O.QA y9 (hr.mono (by decide)) rfl O.QB O.uf.b .nil pF))
   (de (BR (j:=5) rZ (gp mG).names [8] i7.nd rfl rfl rfl (jS rfl T.ll (a_ gm e_)) rfl (by decide+kernel) (λ_ _ _ _=>(ir (i:=8) i7.nd rfl (Or.inl rfl))) (λ_ _ _ _=>lN) (λ_ _ _ _=>zc (oh O.p7 mJ hr (a_ (gD iz (oh O.i8 iM hr (a_ (pv 0) (a_ gm e_))) gm) (a_ (pv 8) e_)))))
   (de (BR (j:=6) rZ (gp mG).names [8] i7.nd rfl rfl rfl (jS rfl T.ll (a_ gm e_)) rfl (by decide+kernel) (λ_ _ _ _=>(ir (i:=8) i7.nd rfl (Or.inl rfl))) (λ_ _ _ _=>lN) (λ_ _ _ _=>zc (oh O.p7 mJ hr (a_ (gD iz (oh O.i8 iM hr (a_ (pv 0) (a_ gm e_))) gm) (a_ (pv 8) e_)))))
   (de (iD aaN rfl (ic (pv 5)) (tM 7 i7) (f_ (hU (xW (pv 4) O.gO O.Ao DD hr (a_ (pv 7) e_)))))
   (de (iD aaN rfl (jS rfl T.ll (a_ (pv 2) e_)) (tM 8 i7) (de (kZ 9 i7 (oh O.i8 iM hr (a_ (pv 0) (a_ (gD iy (pv 1) (pv 8)) e_))))
   (de (ql (il (hV Ti (gD iy (pv 1) (pv 8)) (gK gE (by rfl) T.jw aaM (a_ (pv 0) e_)) (iA _)) (f_ (kZ 9 i7 (oh O.B4 FH hr (a_ (oh O.i8 iM hr (a_ (pv 0) (a_ gm e_))) (a_ (pv 8) (a_ gm e_)))))) hG))
   (f_ (hU (oh O.B5 FJ hr (a_ (pv 4) (a_ (pv 5) (a_ (pv 6) (a_ (pv 9) (a_ (oh O.p7 mJ hr (a_ (gD iz (oh O.i8 iM hr (a_ (pv 0) (a_ gm e_))) gm) (a_ (pv 8) e_))) (a_ (pv 3) e_))))))))))))
   (f_ (hE (iB (a_ (pv 4) (a_ (pv 5) (a_ (pv 6) e_))))))))))),?_⟩
 refine R8 ?_;intro _ _ _ _ _
 intro d px nd Zy nxd
 refine⟨d,px,rfl,b_,λH1 W X1 hW k1=>⟨rfl,?_⟩⟩
 have s0:gv H (upd (upd H px (.own d)) d (.ins A.gB px [])):=λb o e=>by rw[d_ (gr e nd),d_ (gr e Zy)];exact e
 have s1:gv H H1:=λb o e=>k1 b o (s0 b o e) (gr e nd)
 have hW0:∀b,W b->H b=none:=λb hb=>s0.free (hW b hb)
 refine⟨_,rfl,by decide,by decide,?_⟩
 let Jv:=λ(m:Nat) (ys:List V) (Z:St) (H2:Hp)=>∃(v8:Option V),Z=[rr a,ri first,ri n,some (.bl bk),rr d,none,none,none,v8,none]/\H2=H1/\ys=gw ((List.range m).map λ(j:Nat)=>nameOf (yZ ns 0) j)
 refine rJ (n:=3) (by decide) Jv ⟨none,rfl,rfl,rfl⟩ (by rintro _ _ _ _ ⟨_,_,_,e⟩;rw[e];simp) ?_ ?_
 ·rintro m ys Z H2 hm ⟨v8,rfl,rfl,rfl⟩
  refine⟨_,rfl,a,ns,0,rfl,nI ha s1,by decide,_,_,rfl,rfl,(by show(0:Int)<20736;decide),_,rfl,_,_,rfl,?_⟩
  refine⟨_,rfl,rfl,?_⟩
  rw[acz,aaH,<-nP]
  show _++[V.str (nameOf (yZ ns 0) (0+(m:Int)))]=_
  rw[Int.zero_add]
  rfl
 rintro ys Z H2 ⟨v8,rfl,rfl,rfl⟩ ss RM
 have s2:=s1.new (o:=.lst (gw (rD ns))) RM
 have X2:=X1.same ((gv.refl H2).new (o:=.lst (gw (rD ns))) RM)
 have VF:(upd H2 ss (.lst (gw (rD ns)))) ss=some (.lst (gw (rD ns))):=b_
 have ZL:gw ((List.range 3).map λ(j:Nat)=>nameOf (yZ ns 0) j)=gw (rD ns):=rfl
 rw[ZL]
 generalize upd H2 ss (.lst (gw (rD ns)))=H3 at s2 X2 VF
 refine⟨_,rfl,by decide,by decide,?_⟩
 let Jv:=λ(m:Nat) (ys:List V) (Z:St) (H2:Hp)=>∃(v8:Option V),Z=[rr a,ri first,ri n,some (.bl bk),rr d,rr ss,none,none,v8,none]/\H2=H3/\ys=gw ((List.range m).map λ(j:Nat)=>nameOf (yZ ns 1) j)
 refine rJ (n:=2) (by decide) Jv ⟨none,rfl,rfl,rfl⟩ (by rintro _ _ _ _ ⟨_,_,_,e⟩;rw[e];simp) ?_ ?_
 ·rintro m ys Z H2 hm ⟨v8,rfl,rfl,rfl⟩
  refine⟨_,rfl,a,ns,1,rfl,nI ha s2,by decide,_,_,rfl,rfl,(by show(0:Int)<20736;decide),_,rfl,_,_,rfl,?_⟩
  refine⟨_,rfl,rfl,?_⟩
  rw[acz,aaH,<-nP]
  show _++[V.str (nameOf (yZ ns 1) (0+(m:Int)))]=_
  rw[Int.zero_add]
  rfl
 rintro ys Z H4 ⟨v8,rfl,rfl,rfl⟩ fs wz
 have ZM:gw ((List.range 2).map λ(j:Nat)=>nameOf (yZ ns 1) j)=gw (qh ns):=rfl
 rw[ZM]
 have s3:=s2.new (o:=.lst (gw (qh ns))) wz
 have X3:=X2.same ((gv.refl H4).new (o:=.lst (gw (qh ns))) wz)
 have RP:=hX (u:=.lst (gw (qh ns))) wz VF
 have VG:(upd H4 fs (.lst (gw (qh ns)))) fs=some (.lst (gw (qh ns))):=b_
 generalize upd H4 fs (.lst (gw (qh ns)))=H5 at s3 X3 RP VG
 dsimp only [lA];refine JA ?_;intro _
 let Jv:=λ(i:Nat) (Z:St) (H6:Hp)=>∃(v7:Option V)(D:Dk)(W:Addr->Prop),Z=[rr a,ri first,ri n,some (.bl bk),rr d,rr ss,rr fs,v7,none,none]/\gv H H6/\H6 ss=some (.lst (gw (rD ns)))/\H6 fs=some (.lst (gw (qh ns)))/\ia A H6 d D W/\(∀b,W b->H b=none)/\Inv D/\D.made=[]/\D.stores=(rD ns).take i
 refine⟨_,rfl,ss,rfl,⟨_,gN.of RP⟩,iU (K:=K) (a:=ss) (xs:=gw (rD ns)) Jv
  ⟨none,Wi,W,rfl,s3,RP,VG,X3,hW0,Yh,rfl,rfl⟩ (by rintro _ _ _ _ ⟨_,_,_,_,_,e,_⟩;exact gN.of e) ?_ ?_⟩
 ·rintro i v Z H6 hx ⟨v7,D,W,rfl,s6,h1,h2,X6,VH,I6,SM,RQ⟩
  obtain⟨st,uH,rfl⟩:=lP hx
  have g:=sU st (XZ uH)
  have Sn:i<3:=(List.getElem?_eq_some_iff.mp uH).1
  have Oc:st∉D.stores:=λhm=>by
   rw[RQ] at hm
   obtain⟨j,hj⟩:=aaU.mp hm
   have Ju:j<i:=by have:=(List.getElem?_eq_some_iff.mp hj).1;rw[aaP] at this;omega
   rw[acb,aay Ju] at hj
   have:=(abS (List.getElem?_eq_some_iff.mp hj).1 (Ci ns)).mp (hj.trans uH.symm)
   omega
  obtain⟨Y,y⟩:=id X6
  refine⟨_,rfl,d,Y.dx,_,rfl,y.hd,Lb,_,rfl,d,D,W,st,rfl,X6,g.uF,?_,λh=>absurd g h,λ_ h=>absurd h Oc,λ_ _ H7 W7 X7 s7 hW7=>?_⟩
  ·rw[RQ,aaP];omega
  ·refine⟨_,D.begin st,W7,rfl,λb o e=>?_,s7 _ _ h1 (X6.lst h1),s7 _ _ h2 (X6.lst h2),X7,λb hb=>?_,I6.begin Oc,SM,?_⟩
   ·exact s7 b o (s6 _ _ e) (λhb=>by rw[VH b hb] at e;cases e)
   ·rcases hW7 b hb with h|h
    ·exact VH b h
    ·exact s6.free h
   ·show D.stores++[st]=_
    rw[RQ,take_snoc uH]
 rintro Z H6 ⟨v7,D0,W,rfl,s6,h1,h2,X6,VH,I6,SM,RQ⟩
 have RQ:D0.stores=rD ns:=by rw[RQ,O7];exact aaE
 refine⟨_,rfl,_,rfl,by omega,by omega,?_⟩
 rw[abQ]
 let Jv:=λ(i:Nat) (Z:St) (H7:Hp)=>∃(v8 v9:Option V)(D:Dk),Z=[rr a,ri first,ri n,some (.bl bk),rr d,rr ss,rr fs,v7,v8,v9]/\gv H H7/\H7 ss=some (.lst (gw (rD ns)))/\H7 fs=some (.lst (gw (qh ns)))/\ia A H7 d D W/\Inv D/\Sz i D/\D.stores=rD ns/\∀x∈D.names,∃j:Nat,j<i/\x=nameOf (yZ ns 3) j
 refine lB Jv
  ⟨none,none,D0,rfl,s6,h1,h2,X6,I6,⟨by rw[SM];exact XW _,by rw[SM];exact XW _,by rw[SM];exact XW _⟩,RQ,λx hx=>by unfold Dk.names at hx;rw[SM] at hx;cases hx⟩ ?_ ?_
 ·rintro i Z H7 hi ⟨v8,v9,D,rfl,s7,k1,k2,X7,I7,z7,W3,Og⟩
  rw[show(0:Int)+(i:Int)=(i:Int) by omega]
  refine⟨_,rfl,_,rfl,_,rfl,_,_,rfl,rfl,a,ns,_,rfl,nI ha s7,by omega,?_⟩
  refine⟨λZ H8=>∃c:Int,Z=[rr a,ri first,ri n,some (.bl bk),rr d,rr ss,rr fs,v7,ri i,ri c]/\H8=H7,?_,?_⟩
  ·refine⟨_,rfl,_,rfl,_,_,rfl,rfl,_,rfl,a,_,rfl,.inl (nI ha s7),_,_,rfl,rfl,_,rfl,?_⟩
   refine kY (λ_=>?_) (λ_=>⟨_,rfl,rfl⟩)
   refine⟨_,rfl,a,ns,2,rfl,nI ha s7,by decide,_,rfl,_,_,_,rfl,by decide,by omega,by omega,λx _ _=>⟨x,rfl,rfl⟩⟩
  rintro Z H8 ⟨c,rfl,rfl⟩
  refine⟨_,rfl,_,rfl,_,rfl,_,rfl,_,rfl,a,ns,3,rfl,nI ha s7,by decide,_,_,rfl,rfl,(by show(0:Int)<20736;decide),_,rfl,_,_,rfl,_,rfl,?_⟩
  have gx:=qc (yZ ns 3) (i:Int)
  refine⟨d,ss,fs,D,W,i,rD ns,qh ns,c,_,bk,rfl,X7,I7,z7,by omega,k1,(by unfold rD;simp),(by show 3<=1000;decide),λt ht=>⟨by rw[W3];exact ht,(sU t ht).uF⟩,k2,(by unfold qh;simp),(by show 2<=1000;decide),Fn,gx,λhm=>?_,λt ht=>?_,λH9 D' X9 s9 I9 z9 hs9 hn9=>?_⟩
  ·obtain⟨j,hj,e⟩:=Og _ hm
   have:=wc (by omega) (by omega) (by omega) (by omega) e
   omega
  ·obtain⟨j,hj,e⟩:=Og _ ht
   rw[e];exact(qc _ _).uF
  ·refine⟨_,_,D',rfl,λb o e=>s9 b o (s7 _ _ e) (λhb=>by rw[VH b hb] at e;cases e),s9 _ _ k1 (X7.lst k1),s9 _ _ k2 (X7.lst k2),X9,I9,z9,hs9.trans W3,λt ht=>?_⟩
   rcases hn9 with e|e
   ·rw[e] at ht
    obtain⟨j,hj,e⟩:=Og _ ht
    exact⟨j,by omega,e⟩
   ·rw[e] at ht
    rcases aal.mp ht with ht|ht
    ·obtain⟨j,hj,e⟩:=Og _ ht
     exact⟨j,by omega,e⟩
    ·exact⟨i,by omega,XT.mp ht⟩
 ·rintro Z H7 ⟨v8,v9,D,rfl,s7,k1,k2,X7,I7,z7,W3,Og⟩
  refine⟨_,rfl,_,rfl,_,rfl,L2.jL,λb hb=>?_⟩
  have s8:=s7.new (o:=.lst [.ref d,.ref ss,.ref fs]) hb
  exact q b d ss fs D W _ ⟨s8,s7.free hb,b_,hX hb k1,hX hb k2,X7.same ((gv.refl H7).new hb),VH,I7,z7,W3,Og⟩
end
inductive Dv where
 | o
 | s (x:Str)
 | i (n:Int)
 | l (xs:List Dv)
 | t (xs:List Dv)
inductive Rep(H:Hp):Nat->V->Dv->Prop
 | o {n}:Rep H n .jb .o
 | s {n x}:Rep H n (.str x) (.s x)
 | i {n x}:Rep H n (.int x) (.i x)
 | l {n a vs xs} (h:H a=some (.lst vs)) (hl:vs.length=xs.length) (hr:∀(j:Nat) u d,vs[j]?=some u->xs[j]?=some d->Rep H n u d):Rep H (n+1) (.ref a) (.l xs)
 | t {n a vs xs} (h:H a=some (.tup vs)) (hl:vs.length=xs.length) (hr:∀(j:Nat) u d,vs[j]?=some u->xs[j]?=some d->Rep H n u d):Rep H (n+1) (.ref a) (.t xs)
theorem Rep.same{H H':Hp}{n:Nat}{v:V}{d:Dv}(r:Rep H n v d)(s:gv H H'):Rep H' n v d:=by
 induction r with
 | o=>exact .o
 | s=>exact .s
 | i=>exact .i
 | l h hl _ ih=>exact .l (s _ _ h) hl ih
 | t h hl _ ih=>exact .t (s _ _ h) hl ih
theorem Rep.up{H:Hp}{n:Nat}{v:V}{d:Dv}(r:Rep H n v d):Rep H (n+1) v d:=by
 induction r with
 | o=>exact .o
 | s=>exact .s
 | i=>exact .i
 | l h hl _ ih=>exact .l h hl ih
 | t h hl _ ih=>exact .t h hl ih
theorem Rep.mono{H:Hp}{n m:Nat}{v:V}{d:Dv}(r:Rep H n v d)(h:n<=m):Rep H m v d:=by
 obtain⟨k,rfl⟩:=Nat.exists_eq_add_of_le h
 induction k with
 | zero=>exact r
 | succ k ih=>exact(ih (by omega)).up
theorem all_true(n:Nat):((List.range n).all λ_=>true)=true:=by rw[abD];intro x _;rfl
theorem Rep.eq{K:Qqy}{H:Hp}{n:Nat}{u v:V}{d:Dv}(r1:Rep H n u d):Rep H n v d->mO K H n u v true:=by
 induction r1 generalizing v with
 | @o n=>
  intro r2
  cases r2
  exact mO.flat (K:=K) (H:=H) (n:=n) (x:=V.jb) (y:=V.jb) rfl rfl
 | @s n x=>
  intro r2
  cases r2
  have:=mO.CI (K:=K) (H:=H) (n:=n) x x
  rw[X0 rfl] at this
  exact this
 | @i n x=>
  intro r2
  cases r2
  have:=mO.J_ (K:=K) (H:=H) (n:=n) x x
  rw[X0 rfl] at this
  exact this
 | @l n a vs xs h hl hr ih=>
  intro r2
  cases r2 with
  | @l _ c ws _ h' yL ZN=>
   have:=mO.lists (K:=K) (H:=H) (n:=n) (e:=λ_=>true) (gN.of h) (gN.of h') (hl.trans yL.symm) λj u v hu hv=>by
    have hj:j<xs.length:=by rw[<-hl];exact(List.getElem?_eq_some_iff.mp hu).1
    exact ih j u _ hu (UR hj) (ZN j v _ hv (UR hj))
   rw[all_true] at this
   exact this
 | @t n a vs xs h hl hr ih=>
  intro r2
  cases r2 with
  | @t _ c ws _ h' yL ZN=>
   have:=mO.qi (K:=K) (H:=H) (n:=n) (e:=λ_=>true) (oy.of h) (oy.of h') λj u v hu hv=>by
    have hj:j<xs.length:=by rw[<-hl];exact(List.getElem?_eq_some_iff.mp hu).1
    exact ih j u _ hu (UR hj) (ZN j v _ hv (UR hj))
   rw[all_true,hl,yL,beq_self_eq_true,Bool.and_true] at this
   exact this
theorem Rep.xx{H:Hp}{n:Nat}{a:Addr}{Y:Type}{F:V->Y->Prop}{g:Y->Dv}{vs:List V}{xs:List Y}(h:H a=some (.lst vs))(p:Paired F vs xs)(hF:∀v x,F v x->Rep H n v (g x)):Rep H (n+1) (.ref a) (.l (xs.map g)):=by
 refine .l h (by rw[O7];exact aav p) λj u d hu hd=>?_
 obtain⟨x,hx,f⟩:=ib p hu
 rw[aao,hx] at hd
 cases hd
 exact hF u x f
theorem Rep.strs{H:Hp}{a:Addr}{n:Nat}{l:List Str}(h:H a=some (.lst (gw l))):Rep H (n+1) (.ref a) (.l (l.map Dv.s)):=by
 refine .l h (by rw[O7,O7]) λj u d hu hd=>?_
 obtain⟨x,hx,rfl⟩:=lP hu
 rw[aao,hx] at hd
 cases hd
 exact .s
theorem Rep.two{H:Hp}{a:Addr}{n:Nat}{u v:V}{x y:Dv}(h:H a=some (.lst [u,v]))(h1:Rep H n u x)(h2:Rep H n v y):Rep H (n+1) (.ref a) (.l [x,y]):=by
 refine .l h rfl λj u' d hu hd=>?_
 match j with
 | 0=>cases hu;cases hd;exact h1
 | 1=>cases hu;cases hd;exact h2
 | j+2=>simp at hu
def Je(row:List Ln):Dv:=.l (row.map λl=>.t [.s l.nm.1,.i l.nm.2,.s l.tx])
def Se(qs:List (Nat×Nat)):Dv:=.l (qs.map λq=>.t [.i q.1,.i q.2])
theorem wa.rep{H:Hp}{a:Addr}{row:List Ln}(x:wa H a row):Rep H 2 (.ref a) (Je row):=by
 obtain⟨vs,h,p⟩:=x
 refine Rep.xx h p λv l ⟨t,e,ht⟩=>?_
 subst e
 refine .t ht rfl λj u d hu hd=>?_
 match j with
 | 0=>cases hu;cases hd;exact .s
 | 1=>cases hu;cases hd;exact .i
 | 2=>cases hu;cases hd;exact .s
 | j+3=>simp at hu
theorem Cj{H:Hp}{a:Addr}{vs:List V}{qs:List (Nat×Nat)}(h:H a=some (.lst vs))(x:iC H qs vs):Rep H 2 (.ref a) (Se qs):=by
 refine .l h (by rw[O7];exact(aav x).symm) λj u d hu hd=>?_
 obtain⟨q,hq,b,e,hb⟩:=iq x hu
 subst e
 rw[aao,hq] at hd
 cases hd
 refine .t hb rfl λj u d hu hd=>?_
 match j with
 | 0=>cases hu;cases hd;exact .i
 | 1=>cases hu;cases hd;exact .i
 | j+2=>simp at hu
noncomputable def OP(D:Dk)(s:Str)(files:List Str):Dv:=.l (files.map λf=>.l [Je (D.row s f),Se (D.jQ s f)])
end PK
namespace L2
open PySem PySem.Spec PyProof.Rows
noncomputable def eV:Value->V
 | .bool b=>.bl b
 | .int i _=>.int i
 | .str z _=>.str z
 | .bytes b _=>.D8 b
 | .float b _=>.Ml b
 | .ref a=>.ref a
 | .type n=>.ty n
 | _=>.jb
theorem OQ{y:V}{u:Value}(r:RelV y u):eV u=y:=by
 cases y with
 | jb=>cases r;rfl
 | bl b=>cases r;rfl
 | int i=>obtain⟨t,rfl⟩:=r;rfl
 | str z=>obtain⟨t,rfl⟩:=r;rfl
 | D8 z=>obtain⟨t,rfl⟩:=r;rfl
 | Ml z=>obtain⟨t,rfl⟩:=r;rfl
 | ref a=>cases r;rfl
 | ty n=>cases r;rfl
theorem Ll{g:V->Bool}:∀{xs:List V} {us:List Value},Vals xs us->us.any (λu=>g (eV u))=xs.any g
 | _,_,.nil=>rfl
 | y::xs,u::us,.cons r t=>by rw[acB,acB,OQ r,Ll t]
section
variable{X:Cx}
def Yj(K:Qqy)(n:Nat)(neg:Bool):R2:=λx y H Q=>∃p xs,∃g:V->Bool,y=.ref p/\gN K H p xs/\(∀z∈xs,mO K H n z x (g z))/\Q (.bl (if neg then !xs.any g else xs.any g)) H
theorem NQ{c_:Qqz}{Z:St}{H:Hp}{s:Shared}{n:Nat}{xs:List V}{g_:List Value}{x:V}{v:Value}{g:V->Bool}(hu:X.A.units+n+1<cLine)(I:Inv X c_ Z H s)(r:Vals xs g_)(rx:RelV x v)(hg:∀z∈xs,mO X.K H n z x (g z)):∀w∈g_.toArray,SeqAt.EqAt X.A.in1 s w v (g (eV w)):=λw hw=>by
 have hw:w∈g_:=by simpa using hw
 obtain⟨j,hj,rfl⟩:=List.mem_iff_getElem.mp hw
 have hl:=r.length
 obtain⟨u,SJ,ru⟩:=r.get (UR (i:=j) (by omega))
 rw[UR hj] at SJ
 cases SJ
 rw[OQ ru]
 exact(hg _ (aco _)).at I X.A.in1 _ _ ru rx (by show X.A.units+1+n<cLine;omega)
theorem Ck(n:Nat)(hu:X.A.units+n+1<cLine):xO X (compareOp .NotIn) (Yj X.K n true):=by
 intro c_ s Z H x y v u Q I rx ry h
 obtain⟨p,xs,g,rfl,hq,hg,q⟩:=h
 cases ry
 obtain⟨g_,r,pl,hz⟩:=I.list hq
 refine SeqAt.notIn_listAt (λw=>g (eV w)) pl.isList (NQ hu I r rx hg) ⟨.bl _,H,I,rfl,?_⟩
 rw[show g_.toArray.any (λw=>g (eV w))=g_.any (λw=>g (eV w)) by simp,Ll r]
 exact q
end
section
variable{X:Cx}{tg:Expr}
end
open PySem PySem.W PyProof.Rows
section
variable(n:Nat)(o:Nat->Nat->Bool)
def xy{Z:Type}:KasT Z->Z
 | .ret a=>a
 | .ask i j k=>xy (k (o i j))
def Gd{Z:Type}:KasT Z->Prop
 | .ret _=>True
 | .ask i j k=>i<n/\j<n/\Gd (k (o i j))
def Rn{Z:Type}(t:KasT Z)(P:Z->Prop):Prop:=Gd n o t/\P (xy o t)
variable{n o}
theorem Rn.ret{Z:Type}{a:Z}{P:Z->Prop}(h:P a):Rn n o (.ret a) P:=⟨trivial,h⟩
theorem Rn.ask{Z:Type}{i j:Nat}{k:Bool->KasT Z}{P:Z->Prop}(hi:i<n)(hj:j<n)(h:Rn n o (k (o i j)) P):Rn n o (.ask i j k) P:=⟨⟨hi,hj,h.1⟩,h.2⟩
theorem yG{Z Y:Type}{f:Z->KasT Y}:∀t:KasT Z,xy o (t.bind f)=xy o (f (xy o t))
 | .ret a=>rfl
 | .ask i j k=>yG (k (o i j))
theorem HL{Z Y:Type}{f:Z->KasT Y}:∀t:KasT Z,Gd n o t->Gd n o (f (xy o t))->Gd n o (t.bind f)
 | .ret a,_,h=>h
 | .ask i j k,h,h'=>⟨h.1,h.2.1,HL (k (o i j)) h.2.2 h'⟩
theorem Rn.bind{Z Y:Type}{t:KasT Z}{f:Z->KasT Y}{P:Y->Prop}(h:Rn n o t λa=>Rn n o (f a) P):Rn n o (t.bind f) P:=⟨HL t h.1 h.2.1,by rw[yG];exact h.2.2⟩
theorem Rn.mono{Z:Type}{t:KasT Z}{P P':Z->Prop}(h:Rn n o t P)(hp:∀a,P a->P' a):Rn n o t P':=⟨h.1,hp _ h.2⟩
theorem Rn.wp{Z:Type}{cmp:Nat->Nat->(Bool->Shared->Prop)->Shared->Prop}{Q:Z->Shared->Prop}{s:Shared}(hc:∀i j C,i<n->j<n->C (o i j) s->cmp i j C s):∀{t:KasT Z} {P:Z->Prop},Rn n o t P->(∀a,P a->Q a s)->t.kasWp cmp Q s
 | .ret a,P,h,hq=>hq a h.2
 | .ask i j k,P,h,hq=>hc i j _ h.1.1 h.1.2.1 (Rn.wp hc (t:=k (o i j)) ⟨h.1.2.2,h.2⟩ hq)
end
section
variable{n:Nat}{k:Nat->Nat}
def Pm(n:Nat)(p:Array Nat):Prop:=p.toList.Perm (List.range n)
theorem Pm.size{p:Array Nat}(h:Pm n p):p.size=n:=by rw[<-aa4,List.Perm.length_eq h,abR]
theorem Pm.lt{p:Array Nat}(h:Pm n p)(hn:0<n)(i:Nat):p.getD i 0<n:=by
 unfold Array.getD
 split
 ·rename_i hi
  have:p[i]∈p.toList:=by simp
  exact abt.mp (List.Perm.subset h this)
 ·exact hn
theorem Pm.perm{p q:Array Nat}(h:Pm n p)(hq:q.Perm p):Pm n q:=(Array.perm_iff_toList_perm.mp hq).trans h
def kr(k:Nat->Nat)(p:Array Nat)(i:Nat):Nat:=k (p.getD i 0)
theorem sV{p q:Array Nat}{i j:Nat}(h:p[i]?=q[j]?):kr k p i=kr k q j:=by
 unfold kr
 rw[Array.getD_eq_getD_getElem?,Array.getD_eq_getD_getElem?,h]
theorem GV{p:Array Nat}{i j:Nat}(hj:j<=p.size)(x:Nat):kr k (kas_rev p i j) x=if i<=x/\x<j then kr k p (i+j-1-x) else kr k p x:=by
 have e:=getElem?_mirror_all (i:=i) hj x
 unfold kas_rev
 by_cases h1:i<=x/\x<j
 ·rw[aay h1] at e ⊢;exact sV e
 ·rw[aaw h1] at e ⊢;exact sV e
theorem Du{p:Array Nat}{i j:Nat}(hj:j<=p.size)(heq:∀x,i<=x->x<j->kr k p x=kr k p (j-1))(x:Nat):kr k (kas_rev p i j) x=kr k p x:=by
 rw[GV hj]
 split
 ·rw[heq _ (by omega) (by omega),heq x (by omega) (by omega)]
 ·rfl
theorem Lm{p:Array Nat}{src d:Nat}(hs:src<p.size)(hd:d<=src)(x:Nat):kr k (bubble p src d) x=if x=src-d then kr k p src else if src-d<x/\x<=src then kr k p (x-1) else kr k p x:=by
 have e:=getElem?_bubble hs d hd x
 by_cases h1:x=src-d
 ·rw[aay h1] at e ⊢;exact sV e
 ·rw[aaw h1] at e ⊢
  by_cases h2:src-d<x/\x<=src
  ·rw[aay h2] at e ⊢;exact sV e
  ·rw[aaw h2] at e ⊢;exact sV e
def Jf(k:Nat->Nat)(p:Array Nat)(m:Nat):Prop:=∀i j,i<=j->j<m->kr k p i<=kr k p j
def Uj(k:Nat->Nat)(p:Array Nat)(m:Nat):Prop:=∀i j,i<=j->j<m->kr k p j<=kr k p i
abbrev Jg(k:Nat->Nat):Nat->Nat->Bool:=λi j=>decide (k i<k j)
theorem Rn.ak{p:Array Nat}{Z:Type}{i j:Nat}{f:Bool->KasT Z}{P:Z->Prop}(hp:Pm n p)(hn:0<n)(h1:kr k p i<kr k p j->Rn n (Jg k) (f true) P)(h0:¬kr k p i<kr k p j->Rn n (Jg k) (f false) P):Rn n (Jg k) (.ask (p.getD i 0) (p.getD j 0) f) P:=by
 refine .ask (hp.lt hn _) (hp.lt hn _) ?_
 by_cases h:kr k p i<kr k p j
 ·rw[show Jg k (p.getD i 0) (p.getD j 0)=true from X0 h]
  exact h1 h
 ·rw[show Jg k (p.getD i 0) (p.getD j 0)=false from aaq h]
  exact h0 h
theorem GW{p:Array Nat}(hp:Pm n p)(hn:0<n):∀f a,1<=a->Jf k p a->Rn n (Jg k) (kas_asc p f a) λm=>a<=m/\m<=a+f/\Jf k p m/\(m=a+f\/kr k p m<kr k p (m-1))
 | 0,a,ha,hs=>.ret ⟨XW _,XW _,hs,.inl rfl⟩
 | f+1,a,ha,hs=>by
  refine .ak hp hn (λh=>?_) λh=>?_
  ·exact .ret ⟨XW _,by omega,hs,.inr h⟩
  ·refine(GW hp hn f (a+1) (by omega) λi j Fy hj=>?_).mono λm ⟨h1,h2,h3,h4⟩=>⟨by omega,by omega,h3,h4.imp (λz=>by omega) id⟩
   rcases(by omega:j<a\/j=a/\(i=j\/i<=a-1)) with e|⟨rfl,rfl|e⟩
   ·exact hs i j Fy e
   ·exact XW _
   ·have:=hs i (j-1) e (by omega)
    omega
theorem HM{p:Array Nat}(hp:Pm n p)(hn:0<n){m nr:Nat}(h1:1<=m)(hm:m<=nr)(SN:nr<=n)(hs:Uj k p m):Rn n (Jg k) (kas_tail3 m nr p) λr=>1<=r.1/\r.1<=nr/\Pm n r.2/\Jf k r.2 r.1:=by
 unfold kas_tail3
 have Sj:Pm n (kas_rev p 0 m):=hp.perm (mirror_perm _ _ _ _)
 refine .bind ((GW Sj hn (nr-m) m h1 λi j Fy hj=>?_).mono λx ⟨g1,g2,g3,_⟩=>.ret ⟨by omega,by omega,Sj,g3⟩)
 rw[GV (by rw[hp.size];omega),GV (by rw[hp.size];omega),aay (by omega),aay (by omega)]
 exact hs _ _ (by omega) (by omega)
theorem zl(hn:0<n):∀f (p:Array Nat) a q,Pm n p->1<=a->a+f<=n->Uj k p a->q+1<=a->(∀i,a-(q+1)<=i->i<a->kr k p i=kr k p (a-1))->
  Rn n (Jg k) (kas_desc f p a q) λr=>Pm n r.1/\a<=r.2.1/\r.2.1<=a+f/\Uj k r.1 r.2.1/\r.2.2+1<=r.2.1/\∀i,r.2.1-(r.2.2+1)<=i->i<r.2.1->kr k r.1 i=kr k r.1 (r.2.1-1)
 | 0,p,a,q,hp,h1,ha,hs,hq,he=>.ret ⟨hp,XW _,XW _,hs,hq,he⟩
 | f+1,p,a,q,hp,h1,ha,hs,hq,he=>by
  have step:∀p':Array Nat,(∀x,kr k p' x=kr k p x)->kr k p a<=kr k p (a-1)->Uj k p' (a+1):=λp' hk hle i j Fy hj=>by
   rw[hk,hk]
   rcases(by omega:j<a\/j=a/\(i=j\/i<=a-1)) with e|⟨rfl,rfl|e⟩
   ·exact hs i j Fy e
   ·exact XW _
   ·have:=hs i (j-1) e (by omega)
    omega
  refine .ak hp hn (λh=>?_) λh=>?_
  ·by_cases L9:q>0
   ·rw[aay L9]
    refine(zl hn f (kas_rev p (a-(q+1)) a) (a+1) 0 (hp.perm (mirror_perm _ _ _ _)) (by omega) (by omega) (step _ (Du (by rw[hp.size];omega) he) (by omega)) (by omega) λi g1 g2=>by congr 1;omega).mono λr ⟨g1,g2,g3,g4⟩=>⟨g1,by omega,by omega,g4⟩
   ·rw[aaw L9]
    exact(zl hn f p (a+1) 0 hp (by omega) (by omega) (step _ (λ_=>rfl) (by omega)) (by omega) λi g1 g2=>by congr 1;omega).mono λr ⟨g1,g2,g3,g4⟩=>⟨g1,by omega,by omega,g4⟩
  ·refine .ak hp hn (λh'=>?_) λh'=>?_
   ·exact .ret ⟨hp,XW _,Nat.le_add_right _ _,hs,hq,he⟩
   ·have e:kr k p a=kr k p (a-1):=by omega
    refine(zl hn f p (a+1) (q+1) hp (by omega) (by omega) (step _ (λ_=>rfl) (by omega)) (by omega) λi g1 g2=>?_).mono λr ⟨g1,g2,g3,g4⟩=>⟨g1,by omega,by omega,g4⟩
    rw[show a+1-1=a by omega]
    by_cases e2:i=a
    ·rw[e2]
    ·rw[e];exact he i (by omega) (by omega)
theorem yH{p:Array Nat}(hp:Pm n p)(hn:0<n){m nr:Nat}(hm:m+1<=nr)(SN:nr<=n)(hs:Uj k p (m+1)):Rn n (Jg k) (kas_descPart m nr p) λr=>1<=r.1/\r.1<=nr/\Pm n r.2/\Jf k r.2 r.1:=by
 unfold kas_descPart
 refine .bind ((zl hn (nr-(m+1)) p (m+1) 0 hp (by omega) (by omega) hs (by omega) λi g1 g2=>by congr 1;omega).mono λr ⟨g1,g2,g3,g4,g5,g6⟩=>?_)
 by_cases hq:r.2.2>0
 ·rw[aay hq]
  refine HM (g1.perm (mirror_perm _ _ _ _)) hn (by omega) (by omega) SN λi j Fy hj=>?_
  have e:=Du (k:=k) (p:=r.1) (i:=r.2.1-(r.2.2+1)) (j:=r.2.1) (by rw[g1.size];omega) g6
  rw[show mirror r.1 (r.2.1-(r.2.2+1)) r.2.1 ((r.2.1-(r.2.1-(r.2.2+1)))/2)=kas_rev r.1 (r.2.1-(r.2.2+1)) r.2.1 from rfl,e,e]
  exact g4 i j Fy hj
 ·rw[aaw hq]
  exact HM g1 hn (by omega) (by omega) SN g4
theorem Lo{p:Array Nat}(hp:Pm n p)(hn:0<n){nr:Nat}(h1:1<=nr)(SN:nr<=n):Rn n (Jg k) (kas_count nr p) λr=>1<=r.1/\r.1<=nr/\Pm n r.2/\Jf k r.2 r.1:=by
 unfold kas_count
 refine .bind ((GW hp hn (nr-1) 1 (XW _) λi j Fy hj=>by rw[show i=j by omega];exact XW _).mono λm ⟨g1,g2,g3,g4⟩=>?_)
 by_cases e:m=nr
 ·rw[aay (by simpa using e)]
  exact .ret ⟨g1,by omega,hp,g3⟩
 ·rw[aaw (by simpa using e)]
  have j2:kr k p m<kr k p (m-1):=g4.resolve_left (by omega)
  by_cases hg:m>1
  ·rw[aay hg]
   refine .ak hp hn (λh=>?_) λh=>?_
   ·exact .ret ⟨g1,by omega,hp,g3⟩
   ·have wq:∀x,0<=x->x<m->kr k p x=kr k p (m-1):=λx _ hx=>by
     have a1:=g3 0 x (by omega) hx
     have a2:=g3 x (m-1) (by omega) (by omega)
     omega
    have er:=Du (k:=k) (p:=p) (i:=0) (j:=m) (by rw[hp.size];omega) wq
    refine yH (hp.perm (mirror_perm _ _ _ _)) hn (by omega) SN λi j Fy hj=>?_
    rw[show mirror p 0 m ((m-0)/2)=kas_rev p 0 m from rfl,er,er]
    by_cases e2:j=m
    ·by_cases e3:i=j
     ·rw[e3];exact XW _
     ·rw[e2,wq i (by omega) (by omega)];omega
    ·rw[wq i (by omega) (by omega),wq j (by omega) (by omega)];exact XW _
  ·rw[aaw hg]
   have:m=1:=by omega
   subst this
   refine yH hp hn (by omega) SN λi j Fy hj=>?_
   by_cases e3:i=j
   ·rw[e3];exact XW _
   ·have hi:i=0:=by omega
    have hj:j=1:=by omega
    rw[hi,hj]
    exact acK j2
theorem AD{p:Array Nat}(hp:Pm n p)(hn:0<n){x:Nat}(hs:Jf k p x):∀f l r,l<=r->r<=x->r-l<=f->(∀i,i<l->kr k p i<=kr k p x)->(∀i,r<=i->i<x->kr k p x<kr k p i)->Rn n (Jg k) (kas_place p x f l r) λl=>l<=x/\(∀i,i<l->kr k p i<=kr k p x)/\∀i,l<=i->i<x->kr k p x<kr k p i
 | 0,l,r,N_,ZO,hf,O1,W4=>by
  have:l=r:=by omega
  subst this
  exact .ret ⟨ZO,O1,W4⟩
 | f+1,l,r,N_,ZO,hf,O1,W4=>by
  unfold kas_place
  by_cases hge:l>=r
  ·rw[aay hge]
   have:l=r:=by omega
   subst this
   exact .ret ⟨ZO,O1,W4⟩
  ·rw[aaw hge]
   refine .ak hp hn (λh=>?_) λh=>?_
   ·refine AD hp hn hs f l ((l+r)/2) (by omega) (by omega) (by omega) O1 λi g1 g2=>?_
    have:=hs _ _ g1 g2
    omega
   ·refine AD hp hn hs f ((l+r)/2+1) r (by omega) (by omega) (by omega) (λi g1=>?_) W4
    have:=hs i ((l+r)/2) (by omega) (by omega)
    omega
theorem Lp(hn:0<n):∀f (p:Array Nat) x,Pm n p->x+f=n->Jf k p x->Rn n (Jg k) (kas_bin f p x) λr=>Pm n r/\Jf k r n
 | 0,p,x,hp,hx,hs=>.ret ⟨hp,by rw[<-hx];exact hs⟩
 | f+1,p,x,hp,hx,hs=>by
  refine .bind ((AD hp hn hs x 0 x (aaZ _) (XW _) (by omega) (λi hi=>by omega) (λi h1 h2=>by omega)).mono λl ⟨g1,g2,g3⟩=>?_)
  refine Lp hn f (bubble p x (x-l)) (x+1) (hp.perm (bubble_perm _ _ _)) (by omega) λi j Fy hj=>?_
  have hsz:x<p.size:=by rw[hp.size];omega
  rw[Lm hsz (by omega),Lm hsz (by omega),show x-(x-l)=l by omega]
  repeat' split
  all_goals first
   | (exfalso;omega)
   | exact XW _
   | exact g2 _ (by omega)
   | exact acK (g3 _ (by omega) (by omega))
   | exact hs _ _ (by omega) (by omega)
theorem NR(hn:0<n):Rn n (Jg k) (kas_sort n) λr=>Pm n r/\Jf k r n:=by
 unfold kas_sort
 have hp:Pm n (List.toArray (List.range n)):=by unfold Pm;rw[List.toList_toArray]
 refine .bind ((Lo hp hn hn (XW _)).mono λr ⟨g1,g2,g3,g4⟩=>?_)
 by_cases h:r.1<n
 ·rw[aay h]
  have e:max r.1 1=r.1:=by omega
  rw[e]
  exact Lp hn _ _ _ g3 (by omega) g4
 ·rw[aaw h]
  have e:r.1=n:=by omega
  rw[e] at g4
  exact .ret ⟨g3,g4⟩
end
open PySem PySem.W PySem.Spec PyProof.Rows
abbrev T3:=Str×Int×Str
def sl(a b:Str):Bool:=decide (a.cps.toList<b.cps.toList)
noncomputable def Cm(x y:T3):Bool:=if x.1=y.1 then(if x.2.1=y.2.1 then(if x.2.2=y.2.2 then false else sl x.2.2 y.2.2) else decide (x.2.1<y.2.1)) else sl x.1 y.1
theorem Lq(a:Str):sl a a=false:=strKind.irrefl a.cps.toList
theorem NS{a b:Str}(h:a.cps.toList=b.cps.toList):a=b:=by
 cases a;cases b
 exact abe Str.mk (Array.toList_inj.mp h)
theorem Lr{a b:Str}(h1:sl a b=false)(h2:sl b a=false):a=b:=NS (strKind.total _ _ h1 h2)
theorem OR{a b c:Str}(h1:sl a b=true)(h2:sl b c=true):sl a c=true:=strKind.trans _ _ _ h1 h2
theorem NT(x:T3):Cm x x=false:=by unfold Cm;rw[aay rfl,aay rfl,aay rfl]
theorem HN{x y:T3}(h1:Cm x y=false)(h2:Cm y x=false):x=y:=by
 unfold Cm at h1 h2
 obtain⟨a,b,c⟩:=x
 obtain⟨a',b',c'⟩:=y
 dsimp only at h1 h2
 by_cases e1:a=a'
 ·subst e1
  rw[aay rfl] at h1 h2
  by_cases e2:b=b'
  ·subst e2
   rw[aay rfl] at h1 h2
   by_cases e3:c=c'
   ·rw[e3]
   ·rw[aaw e3] at h1
    rw[aaw (ab1 e3)] at h2
    exact absurd (Lr h1 h2) e3
  ·rw[aaw e2] at h1
   rw[aaw (ab1 e2)] at h2
   have h1:=of_decide_eq_false h1
   have h2:=of_decide_eq_false h2
   omega
 ·rw[aaw e1] at h1
  rw[aaw (ab1 e1)] at h2
  exact absurd (Lr h1 h2) e1
theorem Q3{x y z:T3}(h1:Cm x y=true)(h2:Cm y z=true):Cm x z=true:=by
 unfold Cm at h1 h2 ⊢
 obtain⟨a,b,c⟩:=x
 obtain⟨a',b',c'⟩:=y
 obtain⟨a2,b2,c2⟩:=z
 dsimp only at h1 h2 ⊢
 by_cases e1:a=a'
 ·subst e1
  rw[aay rfl] at h1
  by_cases f1:a=a2
  ·subst f1
   rw[aay rfl] at h2 ⊢
   by_cases e2:b=b'
   ·subst e2
    rw[aay rfl] at h1
    by_cases f2:b=b2
    ·subst f2
     rw[aay rfl] at h2 ⊢
     by_cases e3:c=c'
     ·rw[aay e3] at h1;cases h1
     ·rw[aaw e3] at h1
      by_cases f3:c'=c2
      ·rw[aay f3] at h2;cases h2
      ·rw[aaw f3] at h2
       have:=OR h1 h2
       by_cases g:c=c2
       ·subst g;rw[Lq] at this;cases this
       ·rw[aaw g];exact this
    ·rw[aaw f2] at h2 ⊢;exact h2
   ·rw[aaw e2] at h1
    have h1:=aaB h1
    by_cases f2:b'=b2
    ·subst f2
     rw[aaw e2];exact X0 h1
    ·rw[aaw f2] at h2
     have h2:=aaB h2
     rw[aaw (by omega)]
     exact X0 (by omega)
  ·rw[aaw f1] at h2 ⊢;exact h2
 ·rw[aaw e1] at h1
  by_cases f1:a'=a2
  ·subst f1
   rw[aaw e1];exact h1
  ·rw[aaw f1] at h2
   have:=OR h1 h2
   by_cases g:a=a2
   ·subst g;rw[Lq] at this;cases this
   ·rw[aaw g];exact this
noncomputable def Jh(ts:List T3)(i:Nat):Nat:=((ts[i]?).map λx=>(ts.filter λy=>Cm y x).length).getD 0
theorem pe{Z:Type}{p q:Z->Bool}:∀{l:List Z},(∀x∈l,p x=true->q x=true)->(l.filter p).length<=(l.filter q).length
 | [],_=>XW _
 | x::r,h=>by
  have ih:=pe (l:=r) λy hy=>h y (aam _ hy)
  by_cases hp:p x=true
  ·rw[YS hp,YS (h x aaD hp),aai,aai];omega
  ·rw[aaj hp]
   by_cases hq:q x=true
   ·rw[YS hq,aai];omega
   ·rw[aaj hq];exact ih
theorem Bs{Z:Type}{p q:Z->Bool}{l:List Z}{x:Z}(hx:x∈l)(hp:p x=false)(hq:q x=true)(h:∀x∈l,p x=true->q x=true):(l.filter p).length<(l.filter q).length:=by
 obtain⟨a,b,rfl⟩:=List.append_of_mem hx
 have h1:=pe (l:=a) λy hy=>h y (aaJ _ hy)
 have h2:=pe (l:=b) λy hy=>h y (aaX _ (aam _ hy))
 rw[aaI,aaI,YO,YO,aaj (by rw[hp];decide),YS hq,aai]
 omega
theorem Ls{ts:List T3}{i j:Nat}{x y:T3}(hx:ts[i]?=some x)(hy:ts[j]?=some y):decide (Jh ts i<Jh ts j)=Cm x y:=by
 have key:∀{i j:Nat} {x y:T3},ts[i]?=some x->ts[j]?=some y->Cm x y=true->Jh ts i<Jh ts j:=λ{i j x y} hx hy h=>by
  unfold Jh
  rw[hx,hy]
  exact Bs (XZ hx) (NT x) h λz _ hz=>Q3 hz h
 cases h:Cm x y with
 | true=>exact X0 (key hx hy h)
 | false=>
  refine aaq λz=>?_
  cases h':Cm y x with
  | true=>have:=key hy hx h';omega
  | false=>
   have e:=HN h h'
   subst e
   unfold Jh at z
   rw[hx,hy] at z
   exact abv _ z
def xA(h:Heap)(v:Value)(x:T3):Prop:=∃a o t1 t2 t3 m,v=.ref a/\h.get? a=some o/\o.cls=.type "tuple"/\o.data=.seq #[.str x.1 t1,.int x.2.1 t2,.str x.2.2 t3] m
section
variable{prog:Program}{w:World}{A:Around}{E:Qqq}{s:Shared}
theorem Q4{u v:Value}{x y:T3}{Q:Bool->Shared->Prop}(hu:xA s.heap u x)(hv:xA s.heap v y)(hq:Q (Cm x y) s):wpAny (model prog w) A (keyLt' (tuples' true) u v) Q (λ_ _=>False) s:=by
 obtain⟨a,o,t1,t2,t3,m,rfl,ho,hc,hd⟩:=hu
 obtain⟨a',o',t1',t2',t3',m',rfl,qg,Bv,Us⟩:=hv
 refine kat_lt ho hd qg Us ?_
 obtain⟨x1,x2,x3⟩:=x
 obtain⟨y1,y2,y3⟩:=y
 unfold Cm at hq
 dsimp only at hq
 show KatLex prog w A true (decide (3<3)) Q [(Value.str x1 t1,Value.str y1 t1'),(Value.int x2 t2,Value.int y2 t2'),(Value.str x3 t3,Value.str y3 t3')] 0 s
 refine kat_cons (wpAny_eqBool_str ?_)
 by_cases e1:x1=y1
 ·rw[aay e1] at hq
  rw[X0 e1]
  refine kat_yes (kat_cons (wpAny_eqBool_int ?_))
  by_cases e2:x2=y2
  ·rw[aay e2] at hq
   rw[show(x2 ==y2)=true by simpa using e2]
   refine kat_yes (kat_cons (wpAny_eqBool_str ?_))
   by_cases e3:x3=y3
   ·rw[aay e3] at hq
    rw[X0 e3]
    exact kat_yes (kat_nil hq)
   ·rw[aaw e3] at hq
    rw[aaq e3]
    exact kat_no (kat_one _ _ (lt_str hq))
  ·rw[aaw e2] at hq
   rw[show(x2 ==y2)=false by simpa using e2]
   exact kat_no (kat_one _ _ (lt_int hq))
 ·rw[aaw e1] at hq
  rw[aaq e1]
  exact kat_no (oneLt_str hq)
end
section
variable{prog:Program}{w:World}{A:Around}{E:Qqq}{s:Shared}
noncomputable abbrev QH(h:Heap)(a:Addr)(vs:List Value):Heap:=((h.update a (Obj.mapSeq λ_=>#[])).push (seqObj "tuple" vs.toArray 0)).push (seqObj "list" #[] 0)
noncomputable abbrev Sf(s:Shared)(a:Addr)(vs:List Value):Shared:={s with heap:=QH s.heap a vs}
noncomputable abbrev Wj(h:Heap)(vs:List Value):Heap:=((h.push (seqObj "list" #[] 0)).update h.objs.size (Obj.mapSeq (·++vs.toArray))).push (seqObj "list" vs.toArray 0)
theorem Bt{a:Addr}{vs:List Value}{ts:List T3}{n:Nat}{P:PySem.Fin->Shared->Prop}(ho:s.heap.get? a=some (seqObj "list" vs.toArray n))
  (ht:Paired (xA s.heap) vs ts) (hna:∀v∈vs,v≠.ref a) (W5:vs.length<64)
  (h:∀p:Array Nat,Pm vs.length p->Jf (Jh ts) p vs.length->P (.done (.ret .none)) {s with heap:=sortedHeap s.heap a vs (List.toArray (p.toList.map λi=>vs.getD i Value.none))}) :
  wpAny (model prog w) A (Builtin.«list.sort» ⟨[.ref a],[]⟩) P E s:=by
 rw[list_sort_plain]
 have ha:a<s.heap.objs.size:=aaK ho
 have hlen:=aav ht
 refine UW (listItems_at ho rfl ?_)
 refine UW (listUpdate_at ho rfl ?_)
 obtain⟨e1,RO⟩:∃e1,(s.heap.update a (Obj.mapSeq λ_=>#[])).get? a=some (seqObj "list" #[] e1):=⟨_,get?_update_seq ho (λ_=>#[])⟩
 refine UW (seqEpoch_at RO rfl ?_)
 refine UW (wpAny_newTuple ?_)
 refine UW (wpAny_newList ?_)
 refine abT ?_
 have W6:(QH s.heap a vs).get? a=some (seqObj "list" #[] e1):=by
  rw[acj _ _ _ (by rw[size_push',Heap.size_update];exact aa1 (Nat.lt_succ_of_lt ha)),acj _ _ _ (by rw[Heap.size_update];exact aa1 ha)]
  exact RO
 have keep:∀b o,b≠a->s.heap.get? b=some o->(QH s.heap a vs).get? b=some o:=λb o hb e=>by
  have j2:=aaK e
  rw[acj _ _ _ (by rw[size_push',Heap.size_update];exact aa1 (Nat.lt_succ_of_lt j2)),acj _ _ _ (by rw[Heap.size_update];exact aa1 j2),Heap.get?_update_ne _ _ _ _ hb]
  exact e
 have G9:Paired (xA (QH s.heap a vs)) vs ts:=by
  have key:∀{us:List Value} {ys:List T3},(∀v∈us,v≠.ref a)->Paired (xA s.heap) us ys->Paired (xA (QH s.heap a vs)) us ys:=by
   intro us ys hu p
   induction p with
   | nil=>exact .nil
   | cons f _ ih=>
    refine .cons ?_ (ih λv hv=>hu v (aam _ hv))
    obtain⟨b,o,t1,t2,t3,m,rfl,hb,r⟩:=f
    exact⟨b,o,t1,t2,t3,m,rfl,keep b o (λe=>hu _ aaD (by rw[e])) hb,r⟩
  exact key hna ht
 show wpAny (model prog w) A _ P E (Sf s a vs)
 dsimp only
 have hsz:vs.toArray.size=vs.length:=by simp
 by_cases h2:vs.toArray.size<2
 ·rw[aay h2,aay h2]
  refine UW (aaz ?_)
  rw[StateT.run_pure]
  refine UW (aaz ?_)
  dsimp only
  refine UW (seqEpoch_at W6 rfl ?_)
  refine UW (listUpdate_at W6 rfl ?_ (hsz2:=by rw[Array.size_map];show(pairsOf vs).size<=_;rw[pairsOf_size,acI];omega))
  simp only [acC,aa_,acd]
  have fin:=h (List.range vs.length).toArray (by unfold Pm;rw[List.toList_toArray]) λi j Fy hj=>by
   have:i=j:=by omega
   rw[this];exact XW _
  have e:List.toArray ((List.range vs.length).toArray.toList.map λi=>vs.getD i Value.none)=(arrOf (SortSt.mk' general' (vs.toArray.zip vs.toArray) #[] 7 none)).map (·.2):=by
   have e2:((List.range vs.length).map λi=>vs.getD i Value.none)=vs:=by
    match vs,hsz,h2 with
    | [],_,_=>rfl
    | [_],_,_=>rfl
    | _::_::_,_,h2=>simp at h2;omega
   rw[List.toList_toArray,e2]
   show vs.toArray=(vs.toArray.zip vs.toArray).map (·.2)
   apply Array.toList_inj.mp
   rw[Array.toList_map,Array.toList_zip]
   exact(List.map_snd_zip (XW _)).symm
  rw[e] at fin
  exact aaz fin
 ·rw[aaw h2,aaw h2]
  have WL:2<=vs.length:=by omega
  obtain⟨fs,wz,Jx,hft⟩:∃fs,KatTups (QH s.heap a vs) vs fs/\fs.length=vs.length/\∀v∈fs,∃x t,v=Value.str x t:=by
   have key:∀{hh:Heap} {us:List Value} {ys:List T3},Paired (xA hh) us ys->∃fs,KatTups hh us fs/\fs.length=us.length/\∀v∈fs,∃x t,v=Value.str x t:=by
    intro hh us ys p
    induction p with
    | nil=>exact⟨[],.nil,rfl,λv hv=>by cases hv⟩
    | @cons v x _ _ f _ ih=>
     obtain⟨fs,g1,g2,g3⟩:=ih
     obtain⟨b,o,t1,t2,t3,m,rfl,hb,hc,hd⟩:=f
     refine⟨.str x.1 t1::fs,.cons hb hc hd (by simp) g1,by rw[aai,aai,g2],λv hv=>?_⟩
     rcases aah.mp hv with e|hv
     ·exact⟨_,_,e⟩
     ·exact g3 v hv
   exact key G9
  refine UW (kat_kind (s:=(Sf s a vs)) (T:=.type "str") wz (by omega) (λv hv=>?_) (by decide) ?_)
  ·obtain⟨x,t,rfl⟩:=hft v hv
   exact λA Q E s _ q=>aaz q
  ·have ZP:∀i j C,i<vs.length->j<vs.length->C (decide (Jh ts i<Jh ts j)) (Sf s a vs)->kas_ask prog w A (tuples' true) vs i j C (Sf s a vs):=λi j C hi hj hC=>by
    have gi:vs[i]?=some vs[i]:=UR hi
    have gj:vs[j]?=some vs[j]:=UR hj
    have hg:∀{us:List Value} {ys:List T3} {hh:Heap},Paired (xA hh) us ys->∀{i:Nat} {v:Value},us[i]?=some v->∃y,ys[i]?=some y/\xA hh v y:=by
     intro us ys hh p
     induction p with
     | nil=>intro i v h;simp at h
     | cons f t ih=>
      intro i v h
      cases i with
      | zero=>rw[List.getElem?_cons_zero] at h;cases h;exact⟨_,rfl,f⟩
      | succ i=>rw[List.getElem?_cons_succ] at h;exact ih h
    obtain⟨x,hx,tx⟩:=hg G9 gi
    obtain⟨y,hy,ty⟩:=hg G9 gj
    rw[Ls hx hy] at hC
    unfold kas_ask
    rw[show vs.getD i Value.none=vs[i] by simp[List.getD,gi],show vs.getD j Value.none=vs[j] by simp[List.getD,gj]]
    exact Q4 tx ty hC
   refine UW (abK (kat_run (ks:=vs) (vs:=vs) (Q:=λyK s'=>∃p:Array Nat,Pm vs.length p/\Jf (Jh ts) p vs.length/\arrOf yK=p.map (kas_item (vs.toArray.zip vs.toArray))/\failedOf yK=none/\s'=(Sf s a vs))
    (G:=λp s'=>(Pm vs.length p/\Jf (Jh ts) p vs.length)/\s'=(Sf s a vs))
    rfl WL W5 (λp yK s' a1 a2 a3 a4=>⟨p,a4.1.1,a4.1.2,a2,a3,a4.2⟩) (Rn.wp ZP (NR (k:=Jh ts) (by omega)) λp hp=>⟨hp,rfl⟩)) ?_ λ_ _ e=>e)
   rintro⟨⟨⟩,yK⟩ s' ⟨p,hp,hs,har,hf,rfl⟩
   dsimp only
   have ZQ:=kat_snds (ks:=vs) (vs:=vs) rfl har
   rw[ZQ]
   have hsz2:(List.toArray (p.toList.map λi=>vs.getD i Value.none)).size=vs.length:=by rw[aaA,O7,aa4,hp.size]
   refine UW (seqEpoch_at W6 rfl ?_)
   refine UW (listUpdate_at W6 rfl ?_ (hsz2:=by rw[hsz2,acI];omega))
   rw[hf]
   simp only [acC,aa_,acd]
   exact aaz (h p hp hs)
theorem GX{l:Addr}{vs:List Value}{ts:List T3}{Q:Qqq}(hl:s.heap.IsList l vs.toArray)(ht:Paired (xA s.heap) vs ts)(W5:vs.length<64)
  (h:∀p:Array Nat,Pm vs.length p->Jf (Jh ts) p vs.length->Q (.ref (s.heap.objs.size+1)) {s with heap:=sortedAll s.heap vs (List.toArray (p.toList.map λi=>vs.getD i Value.none))}) :
  wpAny (model prog w) A (call (.builtin "sorted") [.ref l]) Q E s:=by
 refine Calls.call_function_entry kind_sorted plain_sorted entry_sorted (args_sorted1 _) ?_
 unfold Builtin.«sorted»
 refine UW (m:=checkCount "sorted" 1 1 _) (aaz ?_)
 refine UW (collect_list hl ?_ (by rw[acI];omega))
 refine UW (wpAny_newList ?_ (by rw[acI];omega))
 have hsz:((s.heap.push (seqObj "list" #[] 0)).update s.heap.objs.size (Obj.mapSeq (·++vs.toArray))).objs.size=s.heap.objs.size+1:=by
  rw[Heap.size_update,size_push']
 have Wm:(Wj s.heap vs).get? (s.heap.objs.size+1)=some (seqObj "list" vs.toArray 0):=by
  rw[<-hsz];exact aaO _ rfl
 have keep:∀b o,s.heap.get? b=some o->(Wj s.heap vs).get? b=some o:=λb o q=>by
  have j2:b<s.heap.objs.size:=aaK q
  rw[acj _ _ _ (by rw[hsz];exact aa1 (Nat.lt_succ_of_lt j2)),Heap.get?_update_ne _ _ _ _ (aa1 j2),acj _ _ _ (aa1 j2)]
  exact q
 have key:∀{us:List Value} {ys:List T3},Paired (xA s.heap) us ys->Paired (xA (Wj s.heap vs)) us ys/\∀v∈us,v≠.ref (s.heap.objs.size+1):=by
  intro us ys p
  induction p with
  | nil=>exact⟨.nil,λv hv=>by cases hv⟩
  | cons f _ ih=>
   obtain⟨b,o,t1,t2,t3,m,rfl,hb,r⟩:=f
   refine⟨.cons ⟨b,o,t1,t2,t3,m,rfl,keep b o hb,r⟩ ih.1,λv hv=>?_⟩
   rcases aah.mp hv with e|hv
   ·intro e'
    rw[e] at e'
    cases e'
    exact absurd (aaK hb) (Nat.not_lt.mpr (Nat.le_succ _))
   ·exact ih.2 v hv
 obtain⟨k1,k2⟩:=key ht
 show wpAny _ _ _ _ _ {s with heap:=Wj s.heap vs}
 rw[hsz]
 refine UW (abT (aca slot_list_sort ⟨_,Wm,rfl⟩ entry_list_sort (Bt Wm k1 k2 W5 λp a1 a2=>⟨_,rfl,?_⟩) (args_list_sort _)))
 exact aaz ⟨_,rfl,h p a1 a2⟩
end
def OS(H:Hp)(v:V)(x:T3):Prop:=∃a,v=.ref a/\H a=some (.tup [.str x.1,.int x.2.1,.str x.2.2])
section
variable{X:Cx}
theorem HP{c_:Qqz}{Z:St}{H:Hp}{s:Shared}(I:Inv X c_ Z H s):∀{ys:List V} {ts:List T3} {us:List Value},Paired (OS H) ys ts->Vals ys us->Paired (xA s.heap) us ts
 | _,_,_,.nil,.nil=>.nil
 | _,_,_,.cons f p,.cons r q=>by
  refine .cons ?_ (HP I p q)
  obtain⟨a,rfl,h⟩:=f
  cases r
  obtain⟨g_,rv,pl,_⟩:=I.tuple (oy.of h)
  obtain⟨o,ho,hc,n,hd⟩:=pl
  cases rv with
  | cons r1 rv=>
   cases rv with
   | cons r2 rv=>
    cases rv with
    | cons r3 rv=>
     cases rv
     obtain⟨t1,rfl⟩:=r1
     obtain⟨t2,rfl⟩:=r2
     obtain⟨t3,rfl⟩:=r3
     exact⟨a,o,t1,t2,t3,n,rfl,ho,hc,hd⟩
theorem Ji{Z:Type}(d:Z){l:List Z}{p:Array Nat}(hp:Pm l.length p):(p.toList.map λi=>l.getD i d).Perm l:=by
 have e:(List.range l.length).map (λi=>l.getD i d)=l:=by
  refine List.ext_getElem? λk=>?_
  rw[aao]
  by_cases h:k<l.length
  ·rw[ack h,UR h]
   simp[List.getD,UR h]
  ·rw[List.getElem?_eq_none (by rw[abR];omega),List.getElem?_eq_none (by omega)]
   rfl
 have:=List.Perm.map (λi=>l.getD i d) hp
 rwa [e] at this
theorem sW{Z Y:Type}{F:Z->Y->Prop}(da:Z)(db:Y){xs:List Z}{ys:List Y}(p:Paired F xs ys):∀(l:List Nat),(∀i∈l,i<xs.length)->Paired F (l.map λi=>xs.getD i da) (l.map λi=>ys.getD i db)
 | [],_=>.nil
 | i::r,h=>by
  refine .cons ?_ (sW da db p r λj hj=>h j (aam _ hj))
  have hi:=h i aaD
  have key:∀{xs:List Z} {ys:List Y},Paired F xs ys->∀i,i<xs.length->F (xs.getD i da) (ys.getD i db):=by
   intro xs ys p
   induction p with
   | nil=>intro i hi;exact absurd hi (Nat.not_lt_zero _)
   | cons f t ih=>
    intro i hi
    cases i with
    | zero=>exact f
    | succ i=>exact ih i (Nat.lt_of_succ_lt_succ hi)
  exact key p i hi
theorem AE:uW X (.builtin "sorted") (λxs H Q=>∃p ys ts,xs=[.ref p]/\gN X.K H p ys/\Paired (OS H) ys ts/\ys.length<64/\∀l zs Ia,H l=none->Paired (OS H) zs Ia->Ia.Perm ts->Ia.Pairwise (λx y=>Cm y x=false)->zs.length=ys.length->Q (.ref l) (upd H l (.lst zs))):=by
 intro c_ s Z H xs us Q I r h
 obtain⟨a,ys,ts,rfl,hq,hp,W5,q⟩:=h
 obtain⟨u,rfl,ru⟩:=vals1 r
 cases (show u=Value.ref a from ru)
 obtain⟨g_,rv,pp,hz⟩:=I.list hq
 have hlen:=rv.length
 have j2:=aav hp
 refine GX (vs:=g_) pp.isList (HP I hp rv) (by omega) λp Pk hs=>?_
 have qS:∀i∈p.toList,i<g_.length:=λi hi=>abt.mp (List.Perm.subset Pk hi)
 have hsz:(p.toList.map λi=>ys.getD i V.jb).length=ys.length:=by rw[O7,aa4,Pk.size,hlen]
 obtain⟨c,hc⟩:=sortedAll_at s.heap g_ (List.toArray (p.toList.map λi=>g_.getD i Value.none))
 have pm3:Pm ts.length p:=by rw[<-j2,hlen];exact Pk
 refine⟨.ref (s.heap.objs.size+1),upd H (s.heap.objs.size+1) (.lst (p.toList.map λi=>ys.getD i V.jb)),I.laid (t':=s.toks) (λb o e=>sortedAll_old e) (Nat.le_succ _) (show iZ X.prog X.w _ _ _ (.lst (p.toList.map λi=>ys.getD i V.jb)) from ⟨by rw[hsz];exact hz,p.toList.map (λi=>g_.getD i Value.none),c,sW V.jb Value.none rv _ (λi hi=>by rw[hlen];exact qS i hi),hc⟩),rfl,?_⟩
 refine q _ _ (p.toList.map λi=>ts.getD i (Str.empty,0,Str.empty)) (I.iK.fresh (Nat.le_succ _)) (sW _ _ hp _ λi hi=>by rw[hlen];exact qS i hi) (Ji _ pm3) ?_ hsz
 rw[ab4,aa8]
 intro i j hi hj Fy
 rw[aa4,Pk.size] at hi hj
 have g:∀k (hk:k<p.toList.length),p.getD k 0=p.toList[k]:=λk hk=>by
  have hk':k<p.size:=by rwa [aa4] at hk
  simp[Array.getD,hk']
 have hle:=hs i j (acK Fy) hj
 unfold kr at hle
 rw[g i (by rw[aa4,Pk.size];exact hi),g j (by rw[aa4,Pk.size];exact hj)] at hle
 have gt:∀k,k∈p.toList->ts[k]?=some (ts.getD k (Str.empty,0,Str.empty)):=λk hk=>by
  have:=qS k hk
  have U4:k<ts.length:=by omega
  simp[List.getD,UR U4]
 rw[<-Ls (gt _ (aco _)) (gt _ (aco _))]
 exact aaq (by omega)
end
theorem Jj{x y:List T3}(hp:x.Perm y)(hx:x.Pairwise λa b=>Cm b a=false)(hy:y.Pairwise λa b=>Cm b a=false):x=y:=
 List.Perm.eq_of_pairwise (le:=λa b=>Cm b a=false) (λa b _ _ h1 h2=>HN h2 h1) hx hy hp
end L2
namespace PM
open PySem (Str)
open Dk
theorem Fo{D:Dk}{s:Str}{p:Pt}(hp:p.nm∉D.names):D.made.filter (λq=>decide (q.nm∈(D.keep s p).held s))=D.jP s:=by
 unfold jP
 refine List.filter_congr λq hq=>?_
 rw[decide_eq_decide]
 show q.nm∈(if s=s then D.held s++[p.nm] else D.held s)↔_
 rw[aay rfl,aal,XT]
 exact⟨λz=>z.resolve_right λe=>hp (e▸aaf hq),.inl⟩
theorem we{D:Dk}{s:Str}{p:Pt}(hp:p.nm∉D.names):(D.keep s p).jP s=D.jP s++[p]:=by
 rw[<-Fo (s:=s) hp]
 unfold jP
 show(D.made++[p]).filter _=_
 rw[aaI]
 congr 1
 have:decide (p.nm∈(D.keep s p).held s)=true:=by
  rw[aaT]
  show p.nm∈(if s=s then D.held s++[p.nm] else D.held s)
  rw[aay rfl];simp
 rw[ab_,aay this];rfl
theorem Lu{D:Dk}{s:Str}{p:Pt}(hp:p.nm∉D.names):(D.keep s p).has s=D.has s++[p.nm]:=by
 rw[qy,qy,we hp,aaH];rfl
theorem xB{ps:List Pt}{p:Pt}(ho:p.other=none):live (ps++[p])=live ps++[p]:=by
 unfold live
 rw[List.reverse_append]
 show(nu (p::ps.reverse) []).reverse=_
 rw[show nu (p::ps.reverse) []=if p.nm∈([]:List Str) then nu ps.reverse [] else p::nu ps.reverse (match p.other with|some o=>o::[]|none=>[]) from rfl,aaw (by simp),ho,acD]
theorem NU{D:Dk}(I:Inv D){p:Pt}(hp:p∈D.made){n:Nm}(hn:n∈p.js):n.1∈D.names:=by
 have h1:n.1∈ij p:=aaJ _ (aaf (aap.mpr ⟨aaJ _ hn,X0 (I.KO p hp n hn)⟩))
 obtain⟨i,hi⟩:=aaU.mp hp
 have h2:=I.before i p hi n.1 ((I.need p hp n.1).mpr ⟨n.1,h1,.inl rfl⟩)
 obtain⟨q,hq,e⟩:=List.mem_map.mp h2
 exact e▸aaf (List.mem_of_mem_take hq)
theorem Jk{lt:Nm->Nm->Prop}{rk:Nm->Nat}(hr:∀m n,lt m n->rk m<rk n){ls R:List Ln}(nd:(ls.map (·.nm)).Nodup)(hp:R.Perm ls)(hc:R.Pairwise λa b=>lt a.nm b.nm):rowOf lt ls=R:=by
 have pm:=zT hr nd
 refine List.Perm.eq_of_pairwise (le:=λa b=>lt a.nm b.nm) (λa b _ _ h1 h2=>?_) ?_ hc (pm.trans hp.symm)
 ·have:=hr _ _ h1
  have:=hr _ _ h2
  omega
 ·have LV:(rowOf lt ls).Pairwise λa b=>a.nm≠b.nm:=ab4.mp ((pm.map _).nodup_iff.mpr nd)
  have tot:∀a∈R,∀b∈R,a.nm≠b.nm->lt a.nm b.nm\/lt b.nm a.nm:=λa ha b hb ne=>by
   obtain⟨i,hi,rfl⟩:=List.mem_iff_getElem.mp ha
   obtain⟨j,hj,rfl⟩:=List.mem_iff_getElem.mp hb
   have hp:=aa8.mp hc
   rcases Nat.lt_trichotomy i j with z|z|z
   ·exact .inl (hp i j hi hj z)
   ·subst z;exact absurd rfl ne
   ·exact .inr (hp j i hj hi z)
  refine((vg hr nd).and LV).imp_of_mem λha hb h=>?_
  exact(tot _ ((pm.trans hp.symm).subset ha) _ ((pm.trans hp.symm).subset hb) h.2).resolve_right h.1
open Classical in
theorem GY{lt:Nm->Nm->Prop}{row:List Ln}(h:row.Pairwise λa b=>lt a.nm b.nm):ja lt row=[]:=by
 unfold ja
 rw[List.flatMap_eq_nil_iff]
 intro i hi
 rw[List.map_eq_nil_iff,List.filter_eq_nil_iff]
 intro j hj z
 have z:¬ltAt lt row i j:=aaB z
 apply z
 have hi:=abt.mp hi
 obtain⟨k,hk,e⟩:=List.mem_range'.mp hj
 have hj:j<row.length:=by omega
 exact⟨row[i],row[j],UR hi,UR hj,aa8.mp h i j hi hj (by omega)⟩
def y0(row:List Ln):List (Nat×Nat)->Nat->Option Ln
 | [],_=>none
 | q::r,s=>if q.2=s then row[q.1]? else y0 row r s
theorem Uk(row:List Ln)(qs:List (Nat×Nat)):l6 row qs=λs=>(y0 row qs s).map (·.nm):=by
 funext s
 induction qs with
 | nil=>rfl
 | cons q r ih=>
  unfold l6 y0
  split
  ·rfl
  ·exact ih
theorem AF{row:List Ln}{qs:List (Nat×Nat)}{s:Nat}{l:Ln}(h:y0 row qs s=some l):∃q∈qs,q.2=s/\row[q.1]?=some l:=by
 induction qs with
 | nil=>cases h
 | cons q r ih=>
  unfold y0 at h
  by_cases e:q.2=s
  ·rw[aay e] at h
   exact⟨q,aaD,e,h⟩
  ·rw[aaw e] at h
   obtain⟨q',hq,z⟩:=ih h
   exact⟨q',aam _ hq,z⟩
theorem OT{row:List Ln}{m:Nat}:∀{qs:List (Nat×Nat)},EI row.length m qs->∀q∈qs,y0 row qs q.2=row[q.1]?
 | [],_,q,hq=>by cases hq
 | q'::r,h,q,hq=>by
  have hr:EI row.length m r:=⟨(List.pairwise_cons.mp h.1).2,λx hx=>h.2 x (aam _ hx)⟩
  unfold y0
  rcases aah.mp hq with e|hq
  ·rw[e,aay rfl]
  ·have:=(List.pairwise_cons.mp h.1).1 q hq
   rw[aaw (by omega)]
   exact OT hr q hq
section
variable(p:Str)(ln:Nat->Option Ln)
noncomputable def mg:Nat->Nat->Option Nm->List Str->List Ln
 | _,_,_,[]=>[]
 | i,j,u,t::r=>match ln i with
  | some l=>l::mg (i+1) j (some l.nm) r
  | none=>⟨(p,j),t,u,Hw (λs=>(ln s).map (·.nm)) r.length i⟩::mg (i+1) (j+1) (some (p,j)) r
noncomputable abbrev NV(i j:Nat)(u:Option Nm)(r:List Str):List Ln:=qw p (λs=>(ln s).map (·.nm)) i j u r
variable{p ln}
theorem wg{i j:Nat}{u:Option Nm}{t:Str}{r:List Str}{l:Ln}(h:ln i=some l):mg p ln i j u (t::r)=l::mg p ln (i+1) j (some l.nm) r/\NV p ln i j u (t::r)=NV p ln (i+1) j (some l.nm) r:=by
 constructor
 ·rw[mg,h]
 ·unfold NV
  rw[qw]
  simp only [h,ab6]
theorem wj{i j:Nat}{u:Option Nm}{t:Str}{r:List Str}(h:ln i=none):mg p ln i j u (t::r)=⟨(p,j),t,u,Hw (λs=>(ln s).map (·.nm)) r.length i⟩::mg p ln (i+1) (j+1) (some (p,j)) r/\NV p ln i j u (t::r)=⟨(p,j),t,u,Hw (λs=>(ln s).map (·.nm)) r.length i⟩::NV p ln (i+1) (j+1) (some (p,j)) r:=by
 constructor
 ·rw[mg,h]
 ·unfold NV
  rw[qw]
  simp only [h,Option.map_none]
theorem Lv:∀(r:List Str)(i j:Nat)(u:Option Nm),(∀k l,ln (i+k)=some l->k<r.length->r[k]?=some l.tx)->(mg p ln i j u r).map (·.tx)=r
 | [],_,_,_,_=>rfl
 | t::r,i,j,u,h=>by
  have hr:∀k l,ln (i+1+k)=some l->k<r.length->r[k]?=some l.tx:=λk l e hk=>by
   have:=h (k+1) l (by rw[<-e];congr 1;omega) (by rw[aai];omega)
   rwa [List.getElem?_cons_succ] at this
  cases e:ln i with
  | some l=>
   rw[(wg e).1,aaL,Lv r (i+1) j _ hr]
   have:=h 0 l e (by rw[aai];omega)
   rw[List.getElem?_cons_zero] at this
   rw[<-aaF this]
  | none=>rw[(wj e).1,aaL,Lv r (i+1) (j+1) _ hr]
theorem GZ{l:Ln}:∀(r:List Str)(i j:Nat)(u:Option Nm),l∈mg p ln i j u r↔(∃k,k<r.length/\ln (i+k)=some l)\/l∈NV p ln i j u r
 | [],_,_,_=>⟨λh=>(by cases h),λh=>h.elim (λ⟨k,hk,_⟩=>absurd hk (Nat.not_lt_zero _)) λh=>(by cases h)⟩
 | t::r,i,j,u=>by
  have sh:(∃k,k<(t::r).length/\ln (i+k)=some l)↔ln i=some l\/∃k,k<r.length/\ln (i+1+k)=some l:=by
   constructor
   ·rintro⟨k,hk,e⟩
    cases k with
    | zero=>exact .inl e
    | succ k=>exact .inr ⟨k,by rw[aai] at hk;omega,by rw[<-e];congr 1;omega⟩
   ·rintro(e|⟨k,hk,e⟩)
    ·exact⟨0,by rw[aai];omega,e⟩
    ·exact⟨k+1,by rw[aai];omega,by rw[<-e];congr 1;omega⟩
  rw[sh]
  cases e:ln i with
  | some l'=>
   rw[(wg e).1,(wg e).2,aah,GZ r (i+1) j,Option.some_inj,or_assoc]
   exact⟨λh=>h.imp (λz=>z.symm) id,λh=>h.imp (λz=>z.symm) id⟩
  | none=>
   rw[(wj e).1,(wj e).2,aah,aah,GZ r (i+1) (j+1)]
   exact⟨λh=>h.elim (λz=>.inr (.inl z)) λz=>z.elim (λz=>.inl (.inr z)) λz=>.inr (.inr z),λh=>h.elim (λz=>z.elim (λz=>(by cases z)) λz=>.inr (.inl z)) λz=>z.elim .inl λz=>.inr (.inr z)⟩
theorem AG{LN:List Ln}(hk:∀s t a b,ln s=some a->ln t=some b->s<t->Ah LN a.nm b.nm):∀(r:List Str)(i j:Nat)(u:Option Nm),(∀l∈NV p ln i j u r,l∈LN)->
  (∀m,u=some m->(∃s l,s<i/\ln s=some l/\l.nm=m)\/∃l'∈LN,l'.nm=m/\∀b,ln i=some b->r≠[]->l'.lo=some b.nm)->
  (∀l∈mg p ln i j u r,∀m,u=some m->Ah LN m l.nm)/\(mg p ln i j u r).Pairwise λa b=>Ah LN a.nm b.nm
 | [],_,_,_,_,_=>⟨λl hl=>(by cases hl),List.Pairwise.nil⟩
 | t::r,i,j,u,hl,hu=>by
  cases e:ln i with
  | some l=>
   rw[(wg e).2] at hl
   rw[(wg e).1]
   have hd:∀m,u=some m->Ah LN m l.nm:=λm hm=>by
    rcases hu m hm with⟨s,l',hs,h1,rfl⟩|⟨l',h1,rfl,h2⟩
    ·exact hk s i l' l h1 e hs
    ·exact .one ⟨l',h1,.inr ⟨rfl,h2 l e (by simp)⟩⟩
   obtain⟨h1,h2⟩:=AG hk r (i+1) j (some l.nm) hl λm hm=>.inl ⟨i,l,by omega,e,aaF hm⟩
   refine⟨λo ho m hm=>?_,List.Pairwise.cons (λo ho=>h1 o ho _ rfl) h2⟩
   rcases aah.mp ho with rfl|ho
   ·exact hd m hm
   ·exact(hd m hm).trans (h1 o ho _ rfl)
  | none=>
   rw[(wj e).2] at hl
   rw[(wj e).1]
   have hn:=hl _ aaD
   have hd:∀m,u=some m->Ah LN m (p,j):=λm hm=>.one ⟨_,hn,.inl ⟨rfl,hm⟩⟩
   obtain⟨h1,h2⟩:=AG hk r (i+1) (j+1) (some (p,j)) (λo ho=>hl o (aam _ ho)) λm hm=>.inr ⟨_,hn,aaF hm,λb hb hr=>by
    show Hw _ r.length i=some b.nm
    cases r with
    | nil=>exact absurd rfl hr
    | cons t' r'=>
     rw[aai,Hw]
     simp only [hb,ab6]⟩
   refine⟨λo ho m hm=>?_,List.Pairwise.cons (λo ho=>h1 o ho _ rfl) h2⟩
   rcases aah.mp ho with rfl|ho
   ·exact hd m hm
   ·exact(hd m hm).trans (h1 o ho _ rfl)
end
def tr(l:Ln):Str×Nat×Str:=(l.nm.1,l.nm.2,l.tx)
section
variable{D:Dk}{s f x:Str}
structure Yk(D D':Dk)(s f x:Str)(texts:List Str):Prop where
 tx:(D'.row s f).map (·.tx)=texts
 qu:D'.jQ s f=[]
theorem Fp(I:Inv D)(hs:s∈D.stores)(fresh:x∉D.names)(hq:D.jQ s f=[])(texts:List Str):Yk D (D.keep s (jV x f (D.row s f) texts)) s f x texts:=by
 have I2:=I.record hs fresh hq texts
 have rise:=pI ((D.row s f).map (·.tx)) texts
 rw[O7] at rise
 generalize eqs:K01.kept ((D.row s f).map (·.tx)) texts=qs at rise
 have rel:∀q∈qs,∃l,(D.row s f)[q.1]?=some l/\texts[q.2]?=some l.tx:=by
  have g:=K01.BW ((D.row s f).map (·.tx)) texts
  rw[eqs] at g
  have key:∀{i j qs},K01.Good ((D.row s f).map (·.tx)) texts i j qs->∀q∈qs,∃l,(D.row s f)[q.1]?=some l/\texts[q.2]?=some l.tx:=by
   intro i j qs g
   induction g with
   | nil=>intro q hq;cases hq
   | @cons i j p q r h1 h2 a e1 e2 h3 t ih=>
    intro z hz
    rcases aah.mp hz with rfl|hz
    ·rw[aao] at e1
     obtain⟨l,hl,e⟩:=Option.map_eq_some_iff.mp e1
     exact⟨l,hl,by rw[e];exact e2⟩
    ·exact ih z hz
  exact key g
 have rowL:∀l∈D.row s f,l∈gA (D.jP s) f:=λl hl=>(j5 _ f).subset ((I.kE s f).subset hl)
 have old:∀l∈D.row s f,l.nm.1≠x:=λl hl e=>by
  obtain⟨p,hp,_,h3⟩:=I.tq hl
  exact fresh (by rw[<-e,me (I.D1 p (aap.mp hp).1) (aaf h3)];exact aaf (aap.mp hp).1)
 generalize ep:jV x f (D.row s f) texts=p at I2
 have pnm:p.nm=x:=by rw[<-ep];rfl
 have ppu:p.iw=NV x (y0 (D.row s f) qs) 0 0 none texts:=by
  rw[<-ep]
  show ki x texts (l6 (D.row s f) (K01.kept ((D.row s f).map (·.tx)) texts))=_
  rw[eqs,Uk];rfl
 have ZR:p.js=((D.row s f).filter λl=>l.nm∉qt (D.row s f) qs).map (·.nm):=by
  rw[<-ep,<-eqs];rfl
 have pfi:p.file=some f:=by rw[<-ep];rfl
 have pot:p.other=none:=by rw[<-ep];rfl
 have VI:∀l∈p.iw,l.nm.1=x:=λl hl=>by
  have h:=I2.D1 p (by show p∈D.made++[p];simp)
  rw[<-pnm]
  exact me h (aaf hl)
 have e2:(D.keep s p).jP s=D.jP s++[p]:=we (by rw[pnm];exact fresh)
 have lp:gA (D.jP s++[p]) f=gA (D.jP s) f++p.iw:=by
  unfold gA
  rw[aaI,abd,ab_,aay (by rw[aaT];exact pfi)]
  simp
 let R:=mg x (y0 (D.row s f) qs) 0 0 none texts
 have lnR:∀k l,y0 (D.row s f) qs k=some l->l∈D.row s f:=λk l h=>by
  obtain⟨q,_,_,h2⟩:=AF h
  exact XZ h2
 have ch:R.Pairwise λa b=>Ah (gA (D.jP s) f++p.iw) a.nm b.nm:=by
  have c0:=Inv.chain hq
  refine(AG (LN:=gA (D.jP s) f++p.iw) (λa b l l' h1 h2 G4=>?_) texts 0 0 none (λl hl=>aaX _ (by rw[ppu];exact hl)) (λm h=>by cases h)).2
  obtain⟨q1,m1,e1,r1⟩:=AF h1
  obtain⟨q2,m2,e2,r2⟩:=AF h2
  have j2:q1.1<q2.1:=by
   obtain⟨i,hi,ei⟩:=List.mem_iff_getElem.mp m1
   obtain⟨j,hj,ej⟩:=List.mem_iff_getElem.mp m2
   have hp:=aa8.mp rise.1
   rcases Nat.lt_trichotomy i j with z|z|z
   ·have:=hp i j hi hj z;rw[ei,ej] at this;exact this.1
   ·subst z;rw[ei] at ej;subst ej;omega
   ·have:=hp j i hj hi z;rw[ei,ej] at this;omega
  obtain⟨g1,w1⟩:=List.getElem?_eq_some_iff.mp r1
  obtain⟨g2,w2⟩:=List.getElem?_eq_some_iff.mp r2
  have:=aa8.mp c0 _ _ g1 g2 j2
  rw[w1,w2] at this
  exact this.mono λl hl=>aaJ _ hl
 have left:∀l∈D.row s f,l.nm∈qt (D.row s f) qs↔∃k,k<texts.length/\y0 (D.row s f) qs (0+k)=some l:=λl hl=>by
  have nd:((D.row s f).map (·.nm)).Nodup:=((I.kE s f).map _).nodup_iff.mpr (I.wY s f)
  constructor
  ·intro h
   obtain⟨q,hq,e⟩:=abx.mp h
   obtain⟨l',yL,e⟩:=Option.map_eq_some_iff.mp e
   have:l'=l:=by
    obtain⟨i,hi,ei⟩:=List.mem_iff_getElem.mp (XZ yL)
    obtain⟨j,hj,ej⟩:=List.mem_iff_getElem.mp hl
    have:=(List.getElem_inj (i:=i) (j:=j) (h₀:=by rw[O7];exact hi) (h₁:=by rw[O7];exact hj) nd).mp (by rw[List.getElem_map,List.getElem_map,ei,ej];exact e)
    subst this
    rw[<-ei,<-ej]
   subst this
   exact⟨q.2,(rise.2 q hq).2,by rw[Nat.zero_add,OT rise q hq];exact yL⟩
  ·rintro⟨k,_,h⟩
   obtain⟨q,hq,_,h2⟩:=AF h
   exact abx.mpr ⟨q,hq,by rw[h2];rfl⟩
 have mem:∀l,l∈R↔l∈ji (D.jP s++[p]) f:=λl=>by
  show l∈mg x (y0 (D.row s f) qs) 0 0 none texts↔_
  rw[GZ]
  unfold ji
  rw[xB pot]
  have lpl:gA (live (D.jP s)++[p]) f=gA (live (D.jP s)) f++p.iw:=by
   unfold gA
   rw[aaI,abd,ab_,aay (by rw[aaT];exact pfi)]
   simp
  have gl:gone (live (D.jP s)++[p])=gone (live (D.jP s))++p.js:=by
   unfold gone
   rw[abd];simp
  rw[lpl,gl,aap,aal,aaT,aal,<-ppu]
  have L_:∀l,l∈D.row s f↔l∈gA (live (D.jP s)) f/\l.nm∉gone (live (D.jP s)):=λl=>by
   rw[(I.kE s f).mem_iff]
   unfold ji
   rw[aap,aaT]
  have Oh:∀m∈gone (live (D.jP s)),m.1≠x:=λm hm e=>by
   obtain⟨q,hq,hn⟩:=abj.mp hm
   exact fresh (e▸NU I (aap.mp ((vc _).subset hq)).1 hn)
  have RS:∀m∈p.js,m.1≠x:=λm hm=>by
   rw[ZR] at hm
   obtain⟨l,hl,rfl⟩:=List.mem_map.mp hm
   exact old l (aap.mp hl).1
  constructor
  ·rintro(⟨k,hk,e⟩|h)
   ·have hr:=lnR _ l e
    refine⟨.inl ((L_ l).mp hr).1,λz=>z.elim ((L_ l).mp hr).2 λz=>?_⟩
    rw[ZR] at z
    obtain⟨l',yL,e'⟩:=List.mem_map.mp z
    exact aaB (aap.mp yL).2 (by rw[e'];exact(left l hr).mpr ⟨k,hk,e⟩)
   ·exact⟨.inr h,λz=>z.elim (λz=>Oh _ z (VI l h)) λz=>RS _ z (VI l h)⟩
  ·rintro⟨h|h,z⟩
   ·have hr:=(L_ l).mpr ⟨h,λw=>z (.inl w)⟩
    refine .inl ((left l hr).mp ?_)
    refine Classical.byContradiction λw=>z (.inr ?_)
    rw[ZR]
    exact aaf (aap.mpr ⟨hr,X0 w⟩)
   ·exact .inr h
 obtain⟨rk,LU⟩:=I2.Nd s f
 rw[e2,lp] at LU
 have ndR:R.Nodup:=ch.imp λh e=>by rw[e] at h;exact abv _ (LU.ah h)
 have Rz:=I2.wY s f
 rw[e2] at Rz
 have er:(D.keep s p).row s f=R:=by
  unfold Dk.row
  rw[e2,lp]
  exact Jk (rk:=rk) (λm n h=>LU.ah h) Rz ((List.perm_ext_iff_of_nodup ndR ((ab4.mp Rz).imp λh e=>h (abe _ e))).mpr mem) ch
 refine⟨?_,?_⟩
 ·rw[er]
  refine Lv texts 0 0 none λk l e hk=>?_
  rw[Nat.zero_add] at e
  obtain⟨q,hq,rfl,h2⟩:=AF e
  obtain⟨l',h3,h4⟩:=rel q hq
  rw[h2] at h3
  rw[aaF h3]
  exact h4
 ·unfold Dk.jQ
  rw[er,e2,lp]
  exact GY ch
end
section
variable{D:Dk}{s t f f' x:Str}
theorem G0(I:Inv D){l l':Ln}{o:Str}(h:l∈gA (D.jP s) f)(h':l'∈gA (D.jP o) f')(e:l.nm=l'.nm):f=f':=by
 obtain⟨p,hp,hf,hl⟩:=j6.mp h
 obtain⟨p',Sj,hf',yL⟩:=j6.mp h'
 have hm:=(aap.mp hp).1
 have Ms:=(aap.mp Sj).1
 have:=Nc I.nd hm Ms (by rw[<-me (I.D1 p hm) (aaf hl),<-me (I.D1 p' Ms) (aaf yL),e])
 subst this
 rw[hf] at hf'
 exact aaF hf'
structure Cg(D:Dk)(s f x:Str)(p:Pt):Prop where
 nm:p.nm=x
 file:p.file=some f
 other:p.other=none
 js:∀m∈p.js,m∈(D.row s f).map (·.nm)
theorem Jl(texts:List Str):Cg D s f x (jV x f (D.row s f) texts):=⟨rfl,rfl,rfl,λm hm=>by
 obtain⟨l,hl,rfl⟩:=List.mem_map.mp hm
 exact aaf (aap.mp hl).1⟩
theorem Q5{ms:List Nm}(hm:∀m∈ms,m∈(D.row s f).map (·.nm)):Cg D s f x ⟨x,some f,[],ms,none⟩:=⟨rfl,rfl,rfl,hm⟩
theorem Cg.G1{p:Pt}(c:Cg D s f x p)(I:Inv D)(fresh:x∉D.names)(hf:f'≠f):(D.keep s p).row s f'=D.row s f'/\(D.keep s p).jQ s f'=D.jQ s f':=by
 have e2:(D.keep s p).jP s=D.jP s++[p]:=we (by rw[c.nm];exact fresh)
 have oe:¬p.file=some f':=λe=>by rw[c.file] at e;exact hf (aaF e).symm
 have lp:∀ps:List Pt,gA (ps++[p]) f'=gA ps f':=λps=>by
  unfold gA
  rw[aaI,abd,aaj (by rw[aaT];exact oe)]
  simp
 have st:ji (D.jP s++[p]) f'=ji (D.jP s) f':=by
  unfold ji
  rw[xB c.other,lp]
  refine List.filter_congr λl hl=>?_
  rw[decide_eq_decide]
  have gl:gone (live (D.jP s)++[p])=gone (live (D.jP s))++p.js:=by
   unfold gone
   rw[abd];simp
  rw[gl,aal]
  refine⟨λh z=>h (.inl z),λh z=>z.elim h λz=>?_⟩
  obtain⟨l',yL,e⟩:=List.mem_map.mp (c.js _ z)
  have h1:l'∈gA (D.jP s) f:=(j5 _ f).subset ((I.kE s f).subset yL)
  have h2:l∈gA (D.jP s) f':=(vd (vc _) f').subset hl
  exact hf (G0 I h2 h1 e.symm)
 have er:(D.keep s p).row s f'=D.row s f':=by
  unfold Dk.row
  rw[e2,lp,st]
 refine⟨er,?_⟩
 unfold Dk.jQ
 rw[er,e2,lp]
theorem Lw{p:Pt}(I:Inv D)(ht:t∈D.stores)(oe:t≠s)(fresh:p.nm∉D.names):(D.keep s p).jP t=D.jP t:=by
 have hh:(D.keep s p).held t=D.held t:=aaw oe
 unfold Dk.jP
 rw[hh]
 show(D.made++[p]).filter _=_
 rw[aaI,aaj (by rw[aaT];exact λz=>fresh (I.lD t ht _ z).1)]
 simp
theorem AH{p:Pt}(I:Inv D)(ht:t∈D.stores)(oe:t≠s)(fresh:p.nm∉D.names):(D.keep s p).has t=D.has t/\∀g,(D.keep s p).row t g=D.row t g/\(D.keep s p).jQ t g=D.jQ t g:=by
 have e:=Lw I ht oe fresh
 refine⟨by rw[qy,qy,e],λg=>?_⟩
 have er:(D.keep s p).row t g=D.row t g:=by unfold Dk.row;rw[e]
 refine⟨er,?_⟩
 unfold Dk.jQ
 rw[er,e]
open Classical in
theorem qd{lt:Nm->Nm->Prop}{row:List Ln}{i j:Nat}:(i,j)∈ja lt row↔i<j/\j<row.length/\¬ltAt lt row i j:=by
 unfold ja
 rw[abj]
 constructor
 ·rintro⟨k,hk,h⟩
  obtain⟨q,hq,e⟩:=List.mem_map.mp h
  cases e
  obtain⟨h1,h2⟩:=aap.mp hq
  obtain⟨m,hm,e⟩:=List.mem_range'.mp h1
  have:=abt.mp hk
  exact⟨by omega,by omega,aaB h2⟩
 ·rintro⟨h1,h2,h3⟩
  exact⟨i,abt.mpr (by omega),List.mem_map.mpr ⟨j,aap.mpr ⟨List.mem_range'.mpr ⟨j-(i+1),by omega,by omega⟩,X0 h3⟩,rfl⟩⟩
theorem Fq(I:Inv D)(hs:s∈D.stores)(fresh:x∉D.names){ms:List Nm}(hm:∀m∈ms,m∈(D.row s f).map (·.nm)):((D.keep s ⟨x,some f,[],ms,none⟩).row s f).Perm ((D.row s f).filter λl=>decide (l.nm∉ms))/\(D.keep s ⟨x,some f,[],ms,none⟩).jQ s f=ja (Ah (gA (D.jP s) f)) ((D.keep s ⟨x,some f,[],ms,none⟩).row s f)/\((D.keep s ⟨x,some f,[],ms,none⟩).row s f).Pairwise λa b=>¬Ah (gA (D.jP s) f) b.nm a.nm:=by
 have I2:=I.cut (x:=x) hs fresh hm
 have e2:(D.keep s ⟨x,some f,[],ms,none⟩).jP s=D.jP s++[⟨x,some f,[],ms,none⟩]:=we fresh
 have lp:∀ps:List Pt,gA (ps++[⟨x,some f,[],ms,none⟩]) f=gA ps f:=λps=>by
  unfold gA
  rw[aaI,abd]
  simp
 have st:ji (D.jP s++[⟨x,some f,[],ms,none⟩]) f=(ji (D.jP s) f).filter λl=>decide (l.nm∉ms):=by
  unfold ji
  rw[xB rfl,lp,List.filter_filter]
  refine List.filter_congr λl hl=>?_
  have gl:gone (live (D.jP s)++[⟨x,some f,[],ms,none⟩])=gone (live (D.jP s))++ms:=by
   unfold gone
   rw[abd];simp
  rw[gl,abo,abn,aaT,aaT,aaT,aal]
  exact⟨λh=>⟨λz=>h (.inr z),λz=>h (.inl z)⟩,λh z=>z.elim h.2 h.1⟩
 have pm:=I2.kE s f
 rw[e2,st] at pm
 refine⟨pm.trans ((I.kE s f).symm.filter _),?_,?_⟩
 ·unfold Dk.jQ
  rw[e2,lp]
 ·obtain⟨rk,r⟩:=I2.Nd s f
  have:=vg (lt:=Ah (gA ((D.keep s ⟨x,some f,[],ms,none⟩).jP s) f)) (rk:=rk) (λm n z=>r.ah z) (I2.wY s f)
  unfold Dk.row
  rw[e2,lp] at this ⊢
  exact this
theorem Lx(I:Inv D)(hs:s∈D.stores)(fresh:x∉D.names){ms:List Nm}(hm:∀m∈ms,m∈(D.row s f).map (·.nm)){i j:Nat}(h:(i,j)∈(D.keep s ⟨x,some f,[],ms,none⟩).jQ s f):∃a b p q,((D.keep s ⟨x,some f,[],ms,none⟩).row s f)[i]?=some a/\((D.keep s ⟨x,some f,[],ms,none⟩).row s f)[j]?=some b/\(p,q)∈D.jQ s f/\((D.row s f)[p]?=some a/\(D.row s f)[q]?=some b\/(D.row s f)[p]?=some b/\(D.row s f)[q]?=some a):=by
 obtain⟨pm,eq,so⟩:=Fq I hs fresh hm
 rw[eq] at h
 obtain⟨h1,h2,h3⟩:=qd.mp h
 generalize (D.keep s ⟨x,some f,[],ms,none⟩).row s f=R at pm so h2 h3
 have hi:i<R.length:=by omega
 have ei:R[i]?=some R[i]:=UR hi
 have ej:R[j]?=some R[j]:=UR h2
 have n1:¬Ah (gA (D.jP s) f) R[i].nm R[j].nm:=λz=>h3 ⟨_,_,ei,ej,z⟩
 have n2:=aa8.mp so i j hi h2 h1
 have ma:R[i]∈D.row s f:=(aap.mp (pm.subset (aco hi))).1
 have mb:R[j]∈D.row s f:=(aap.mp (pm.subset (aco h2))).1
 obtain⟨p,hp⟩:=aaU.mp ma
 obtain⟨q,hq⟩:=aaU.mp mb
 have nK:=(List.getElem?_eq_some_iff.mp hp).1
 have H_:=(List.getElem?_eq_some_iff.mp hq).1
 have oe:p≠q:=λe=>by
  subst e
  rw[hp] at hq
  have e:R[i]=R[j]:=aaF hq
  have ndf:(R.map (·.nm)).Nodup:=(pm.map _).nodup_iff.mpr ((aa6.map _).nodup (((I.kE s f).map _).nodup_iff.mpr (I.wY s f)))
  have:=(List.getElem_inj (i:=i) (j:=j) (h₀:=by rw[O7];exact hi) (h₁:=by rw[O7];exact h2) ndf).mp (by rw[List.getElem_map,List.getElem_map,e])
  omega
 have OZ:∀{u v:Nat} {y z:Ln},(D.row s f)[u]?=some y->(D.row s f)[v]?=some z->¬Ah (gA (D.jP s) f) y.nm z.nm->¬ltAt (Ah (gA (D.jP s) f)) (D.row s f) u v:=λhy hz hn ⟨y',z',g1,g2,g3⟩=>by
  rw[hy] at g1
  rw[hz] at g2
  cases g1
  cases g2
  exact hn g3
 rcases Nat.lt_or_gt_of_ne oe with z|z
 ·exact⟨R[i],R[j],p,q,ei,ej,qd.mpr ⟨z,H_,OZ hp hq n1⟩,.inl ⟨hp,hq⟩⟩
 ·exact⟨R[i],R[j],q,p,ei,ej,qd.mpr ⟨z,nK,OZ hq hp n2⟩,.inr ⟨hq,hp⟩⟩
end
end PM
namespace PK
open PySem L2 PM
open Kp (kG iC)
def One(H0 H:Hp)(row:List Ln)(qu:List (Nat×Nat))(v:V):Prop:=∃u r c qs,v=.ref u/\H0 u=none/\H0 r=none/\H0 c=none/\H u=some (.lst [.ref r,.ref c])/\wa H r row/\H c=some (.lst qs)/\iC H qu qs
theorem One.same{H0 H H':Hp}{row:List Ln}{qu:List (Nat×Nat)}{v:V}(o:One H0 H row qu v)(s:gv H H'):One H0 H' row qu v:=by
 obtain⟨u,r,c,qs,e,h1,h2,h3,h4,h5,h6,h7⟩:=o
 refine⟨u,r,c,qs,e,h1,h2,h3,s _ _ h4,h5.same s,s _ _ h6,Paired.i3 h7 λq v ⟨a,e,h⟩=>⟨a,e,s _ _ h⟩⟩
section
variable{P:Program}{w:World}{K:Qqy}{mg:Qqx}{base:Heap}{A:Ad}
def Q6(A:Ad):Sp:=λvs H Q _=>∃(d fs:Addr)(D:Dk)(W:Addr->Prop)(s:Str)(files:List Str),vs=[.ref d,.str s,.ref fs]/\ia A H d D W/\Inv D/\Small D.made/\s∈D.stores/\kU s/\H fs=some (.lst (gw files))/\files.length<=1000/\∀p H1 vs,gv H H1->H1 p=none->Paired (λv f=>One H H1 (D.row s f) (D.jQ s f) v) vs files->Q (.ref p) (upd H1 p (.lst vs))
theorem NW(T:Txt mg)(O:Ok K mg A):ie P w K mg base mL 7 A.yC A.yD ["desk","store","files"] (Q6 A):=by
 have og:=(@GN P w K mg base A T O).FQ
 have kj:=(@sS P w K mg base A T O).FQ
 refine O.tF.f.rB vG λjt A0 outer s H vs Q E hr h=>?_
 obtain⟨d,fs,D,W,st,files,rfl,X,I,sm,hs,G_,wz,Jx,q⟩:=h
 obtain⟨Y,y⟩:=id X
 have sz:sizeLine=16777216:=aaQ
 refine⟨_,(f_ (hE (tT ya (gp oK).names [3] rfl (ic (pv 2)) rfl (by decide+kernel) (λ_ _ _ _=>(ir (i:=3) vG.nd rfl (Or.inl rfl))) (λ_ _ _ _=>lN) (λ_ _ _ _=>zc (iB (a_ (xW (pv 0) O.gO O.vT og hr (a_ (pv 1) (a_ (pv 3) e_))) (a_ (xW (pv 0) O.gO O.mz kj hr (a_ (pv 1) (a_ (pv 3) e_))) e_))))))),?_⟩
 let Jv:=λ(i:Nat) (ys:List V) (Z:St) (H4:Hp)=>∃(v3:Option V),Z=[rr d,rs st,rr fs,v3]/\gv H H4/\Paired (λv f=>One H H4 (D.row st f) (D.jQ st f) v) ys (files.take i)
 refine⟨_,rfl,fs,rfl,⟨_,gN.of wz⟩,jD (K:=K) (a:=fs) (xs:=gw files) (by rw[O7];omega) Jv
  ⟨none,rfl,gv.refl _,.nil⟩ (by rintro _ _ _ _ _ ⟨_,_,e,e2⟩;exact⟨gN.of (e _ _ wz),by rw[aav e2,aaP];omega⟩) ?_ ?_⟩
 ·rintro i v ys Z H4 hx ⟨v3,rfl,s4,e2⟩
  obtain⟨f,hf,rfl⟩:=lP hx
  refine⟨_,rfl,d,Y.dx,_,rfl,s4 _ _ y.hd,GK,_,rfl,_,rfl,d,D,W,st,f,rfl,X.same s4,G_,sm,I,λh=>absurd hs h,λ_ r H5 Oe tK xG=>?_⟩
  have s5:=s4.trans Oe
  refine⟨_,rfl,d,Y.dx,_,rfl,s5 _ _ y.hd,sQ,_,rfl,_,rfl,d,D,W,st,f,rfl,X.same s5,G_,sm,I,λh=>absurd hs h,λ_ c H6 qs RF SG LX SO=>⟨L2.jL,λu hu=>?_⟩⟩
  have W8:gv H6 (upd H6 u (.lst [.ref r,.ref c])):=(gv.refl H6).new hu
  have s47:=(Oe.trans RF).trans W8
  refine⟨_,rfl,s4.trans s47,?_⟩
  rw[take_snoc hf]
  refine ig (Paired.i3 e2 λ_ _ z=>z.same s47) ?_
  exact⟨u,r,c,qs,rfl,((s5.trans RF)).free hu,s4.free tK,s5.free SG,b_,(xG.same RF).same W8,W8 _ _ LX,Paired.i3 SO λq v ⟨a,e,h⟩=>⟨a,e,W8 _ _ h⟩⟩
 ·rintro ys Z H4 ⟨v3,rfl,s4,e2⟩ p hp
  rw[O7,aaE] at e2
  exact q p H4 ys s4 hp e2
theorem Rep.Ul{H:Hp}{n:Nat}{v:V}{xs:List Dv}(r:Rep H n v (.l xs)):∃a vs m,v=.ref a/\H a=some (.lst vs)/\vs.length=xs.length/\∀(j:Nat) u d,vs[j]?=some u->xs[j]?=some d->Rep H m u d:=by
 cases r with
 | l h hl hr=>exact⟨_,_,_,rfl,h,hl,hr⟩
theorem Rep.Um{H:Hp}{n:Nat}{v:V}{xs:List Dv}(r:Rep H n v (.t xs)):∃a vs m,v=.ref a/\H a=some (.tup vs)/\vs.length=xs.length/\∀(j:Nat) u d,vs[j]?=some u->xs[j]?=some d->Rep H m u d:=by
 cases r with
 | t h hl hr=>exact⟨_,_,_,rfl,h,hl,hr⟩
theorem Rep.Uo{H:Hp}{n:Nat}{v:V}{x:Str}(r:Rep H n v (.s x)):v=.str x:=by cases r;rfl
theorem Rep.Q7{H:Hp}{n:Nat}{v:V}{x:Int}(r:Rep H n v (.i x)):v=.int x:=by cases r;rfl
theorem Rep.Up{H:Hp}{n:Nat}{v:V}{x z:Str}{k:Int}(r:Rep H n v (.t [.s x,.i k,.s z])):∃a,v=.ref a/\H a=some (.tup [.str x,.int k,.str z]):=by
 obtain⟨a,vs,m,e,h,hl,hr⟩:=r.Um
 match vs,hl,hr,h with
 | [u1,u2,u3],_,hr,h=>
  have e1:=(hr 0 u1 _ rfl rfl).Uo
  have e2:=(hr 1 u2 _ rfl rfl).Q7
  have e3:=(hr 2 u3 _ rfl rfl).Uo
  subst e1 e2 e3
  exact⟨a,e,h⟩
theorem Rep.Uq{H:Hp}{n:Nat}{v:V}{x z:Int}(r:Rep H n v (.t [.i x,.i z])):∃a,v=.ref a/\H a=some (.tup [.int x,.int z]):=by
 obtain⟨a,vs,m,e,h,hl,hr⟩:=r.Um
 match vs,hl,hr,h with
 | [u1,u2],_,hr,h=>
  have e1:=(hr 0 u1 _ rfl rfl).Q7
  have e2:=(hr 1 u2 _ rfl rfl).Q7
  subst e1 e2
  exact⟨a,e,h⟩
theorem Ly:W.kitOne K (.type "list") (.type "list")=some true:=aay (by decide)
theorem Lz:W.kitOne K (.type "str") (.type "str")=some true:=aay (by decide)
theorem LA:W.kitOne K (.type "tuple") (.type "tuple")=some true:=aay (by decide)
theorem Q8:W.kitOne K (.type "int") (.type "int")=some true:=aay (by decide)
theorem Q9:W.kitOne K (.type "int") (.type "bool")=some false:=by kernel_rfl
def NX:Sp:=λvs H Q _=>∃i:Int,vs=[.int i]/\Q (.bl true) H
theorem Fs(T:Txt mg)(O:Ok K mg A):ie P w K mg base mL 1 A.vP A.vQ ["found"] NX:=by
 refine O.qL.f.rB Bc λjt A outer s H vs Q E hr h=>?_
 obtain⟨i,rfl,q⟩:=h
 refine⟨_,(f_ (hE (PN (gK j1 (by rfl) T.jH abf (a_ (pv 0) (a_ (ox (v:=.ty "int") (by rfl) T.TR PyProof.Rows.boot_int rfl) e_))) (PL (PQ (gK j1 (by rfl) T.jH abf (a_ (pv 0) (a_ (ox (v:=.ty "bool") (by rfl) T.Qw PyProof.Rows.boot_bool rfl) e_)))))))),?_⟩
 refine⟨_,rfl,_,_,_,_,rfl,.int i,Q8,_,rfl,lL ?_⟩
 exact⟨_,rfl,_,_,_,_,rfl,.int i,Q9,_,rfl,q⟩
def Jm:Sp:=λvs H Q _=>∃(v:V)(n:Nat)(row:List Ln),vs=[v]/\Rep H n v (Je row)/\Q (.bl true) H
theorem yI(T:Txt mg)(O:Ok K mg A):ie P w K mg base mL 2 A.rj A.rl ["row"] Jm:=by
 have nJ:=@Fs P w K mg base A T O
 refine O.o7.f.rB pL λjt A outer s H vs Q E hr h=>?_
 obtain⟨v,n,row,rfl,rp,q⟩:=h
 obtain⟨p,ps,m,rfl,hp,hl,ZS⟩:=rp.Ul
 refine⟨_,(de (il (kB (lu (gK j1 (by rfl) T.jH abf (a_ (pv 0) (a_ (ox (v:=.ty "list") (by rfl) T.xm ab9 rfl) e_))))) (f_ (hE j_)) hG)
   (de (iD aaN rfl (ic (pv 0)) (tM 1 pL) (de (il ((pw_or (kB (lu (gK j1 (by rfl) T.jH abf (a_ (pv 1) (a_ (ox (v:=.ty "tuple") (by rfl) T.Hy PyProof.Rows.boot_tuple rfl) e_))))) (pw_or (hV Hl (gK gE (by rfl) T.jw aaM (a_ (pv 1) e_)) gm (iA _)) (pw_or1 (kB (lu (gK j1 (by rfl) T.jH abf (a_ (jo kS (pv 1) gm (λ_ _=>rfl)) (a_ (ox (v:=.ty "str") (by rfl) T.OI PyProof.Rows.boot_str rfl) e_)))))))).pt) (f_ (hE j_)) hG)
   (f_ (il ((pw_or (kB (lu (oh O.qL nJ hr (a_ (jo kS (pv 1) gm (λ_ _=>rfl)) e_)))) (pw_or1 (kB (lu (gK j1 (by rfl) T.jH abf (a_ (jo kS (pv 1) gm (λ_ _=>rfl)) (a_ (ox (v:=.ty "str") (by rfl) T.OI PyProof.Rows.boot_str rfl) e_))))))).pt) (f_ (hE j_)) hG))))
   (f_ (hE j_)))),?_⟩
 refine Ey ?_;intro _ _
 refine⟨_,rfl,_,_,_,_,rfl,.lst hp,Ly,_,rfl,jf ?_⟩
 let Jv:=λ(i:Nat) (Z:St) (H2:Hp)=>∃v,Z=[rr p,v]/\H2=H
 refine⟨_,rfl,p,rfl,⟨_,gN.of hp⟩,iU (K:=K) (a:=p) (xs:=ps) Jv ⟨none,rfl,rfl⟩ (by rintro _ _ _ _ ⟨_,_,e⟩;rw[e];exact gN.of hp) ?_ ?_⟩
 ·rintro i y Z H2 hi ⟨v,rfl,rfl⟩
  have j2:=(List.getElem?_eq_some_iff.mp hi).1
  rw[hl,O7] at j2
  have tQ:(row.map λl=>Dv.t [.s l.nm.1,.i l.nm.2,.s l.tx])[i]?=some (.t [.s row[i].nm.1,.i row[i].nm.2,.s row[i].tx]):=by rw[aao,UR j2];rfl
  obtain⟨a,rfl,ha⟩:=(ZS i y _ hi tQ).Up
  refine⟨_,rfl,_,_,_,_,rfl,.tup ha,LA,_,rfl,jf ?_⟩
  refine⟨_,rfl,a,_,rfl,.inr (oy.of ha),rfl,_,rfl,Kh (by rfl) ?_⟩
  refine⟨_,rfl,a,_,_,_,rfl,rfl,oy.of ha,gG (j:=0) rfl rfl,_,_,_,_,rfl,.str _,Lz,_,rfl,jf ?_⟩
  refine⟨_,rfl,a,_,_,_,rfl,rfl,oy.of ha,gG (j:=1) rfl rfl,_,rfl,_,rfl,jf ?_⟩
  refine⟨_,rfl,a,_,_,_,rfl,rfl,oy.of ha,gG (j:=2) rfl rfl,_,_,_,_,rfl,.str _,Lz,_,rfl,jf ?_⟩
  exact⟨_,rfl,rfl⟩
 ·rintro Z H2 ⟨v,rfl,rfl⟩
  exact q
def Ft:Sp:=λvs H Q _=>∃(v:V)(n:Nat)(qs:List (Nat×Nat)),vs=[v]/\Rep H n v (Se qs)/\Q (.bl true) H
theorem Bu(T:Txt mg)(O:Ok K mg A):ie P w K mg base mL 2 A.oU A.oV ["found"] Ft:=by
 have nJ:=@Fs P w K mg base A T O
 refine O.rq.f.rB n6 λjt A outer s H vs Q E hr h=>?_
 obtain⟨v,n,row,rfl,rp,q⟩:=h
 obtain⟨p,ps,m,rfl,hp,hl,ZS⟩:=rp.Ul
 refine⟨_,(de (il (kB (lu (gK j1 (by rfl) T.jH abf (a_ (pv 0) (a_ (ox (v:=.ty "list") (by rfl) T.xm ab9 rfl) e_))))) (f_ (hE j_)) hG)
   (de (iD aaN rfl (ic (pv 0)) (tM 1 n6) (f_ (il ((pw_or (kB (lu (gK j1 (by rfl) T.jH abf (a_ (pv 1) (a_ (ox (v:=.ty "tuple") (by rfl) T.Hy PyProof.Rows.boot_tuple rfl) e_))))) (pw_or (hV Hl (gK gE (by rfl) T.jw aaM (a_ (pv 1) e_)) gm (iA _)) (pw_or (kB (lu (oh O.qL nJ hr (a_ (jo kS (pv 1) gm (λ_ _=>rfl)) e_)))) (pw_or1 (kB (lu (oh O.qL nJ hr (a_ (jo kS (pv 1) gm (λ_ _=>rfl)) e_)))))))).pt) (f_ (hE j_)) hG)))
   (f_ (hE j_)))),?_⟩
 refine Ey ?_;intro _ _
 refine⟨_,rfl,_,_,_,_,rfl,.lst hp,Ly,_,rfl,jf ?_⟩
 let Jv:=λ(i:Nat) (Z:St) (H2:Hp)=>∃v,Z=[rr p,v]/\H2=H
 refine⟨_,rfl,p,rfl,⟨_,gN.of hp⟩,iU (K:=K) (a:=p) (xs:=ps) Jv ⟨none,rfl,rfl⟩ (by rintro _ _ _ _ ⟨_,_,e⟩;rw[e];exact gN.of hp) ?_ ?_⟩
 ·rintro i y Z H2 hi ⟨v,rfl,rfl⟩
  have j2:=(List.getElem?_eq_some_iff.mp hi).1
  rw[hl,O7] at j2
  have tQ:(row.map λq=>Dv.t [.i q.1,.i q.2])[i]?=some (.t [.i row[i].1,.i row[i].2]):=by rw[aao,UR j2];rfl
  obtain⟨a,rfl,ha⟩:=(ZS i y _ hi tQ).Uq
  refine⟨_,rfl,_,_,_,_,rfl,.tup ha,LA,_,rfl,jf ?_⟩
  refine⟨_,rfl,a,_,rfl,.inr (oy.of ha),rfl,_,rfl,Kh (by rfl) ?_⟩
  refine⟨_,rfl,a,_,_,_,rfl,rfl,oy.of ha,gG (j:=0) rfl rfl,_,rfl,_,rfl,jf ?_⟩
  refine⟨_,rfl,a,_,_,_,rfl,rfl,oy.of ha,gG (j:=1) rfl rfl,_,rfl,_,rfl,jf ?_⟩
  exact⟨_,rfl,rfl⟩
 ·rintro Z H2 ⟨v,rfl,rfl⟩
  exact q
def Wk(l:Ln):T3:=(l.nm.1,(l.nm.2:Int),l.tx)
theorem LB{K:Qqy}{H:Hp}{n:Nat}{x y:V}{l l':Ln}(hx:sR H x l)(hy:sR H y l'):mO K H (n+2) x y (decide (tr l=tr l')):=by
 obtain⟨t,rfl,h⟩:=hx
 obtain⟨t',rfl,h'⟩:=hy
 have z:=mO.qi (K:=K) (H:=H) (n:=n+1) (e:=λj=>match j with|0=>decide (l.nm.1=l'.nm.1)|1=>decide ((l.nm.2:Int)=l'.nm.2)|_=>decide (l.tx=l'.tx)) (oy.of h) (oy.of h') λj u v hu hv=>by
  match j with
  | 0=>cases hu;cases hv;exact mO.CI _ _
  | 1=>cases hu;cases hv;exact mO.J_ _ _
  | 2=>cases hu;cases hv;exact mO.CI _ _
  | j+3=>simp at hu
 have e:((List.range 3).all (λj=>match j with|0=>decide (l.nm.1=l'.nm.1)|1=>decide ((l.nm.2:Int)=l'.nm.2)|_=>decide (l.tx=l'.tx))&&true)=decide (tr l=tr l'):=by
  rw[Bool.and_true,abo]
  simp only [abD,abt,aaT]
  unfold tr
  constructor
  ·intro g
   have h0:=aaB (g 0 (by decide))
   have h1:=aaB (g 1 (by decide))
   have h2:=aaB (g 2 (by decide))
   rw[h0,Int.ofNat.inj h1,h2]
  ·intro g j hj
   have h0:=abe Prod.fst g
   have h1:=abe (λz=>z.2.1) g
   have h2:=abe (λz=>z.2.2) g
   match j,hj with
   | 0,_=>exact X0 h0
   | 1,_=>exact X0 (abe Int.ofNat h1)
   | 2,_=>exact X0 h2
 rw[<-e]
 exact z
theorem Cn{H:Hp}{x:V}{l l':Ln}(h:sR H x l)(h':sR H x l'):tr l=tr l':=by
 obtain⟨a,rfl,h1⟩:=h
 obtain⟨b,e2,h2⟩:=h'
 cases e2
 rw[h1] at h2
 injection h2 with h2
 injection h2 with h2
 simp only [List.cons.injEq,V.str.injEq,V.int.injEq,and_true] at h2
 unfold tr
 rw[h2.1,Int.ofNat.inj h2.2.1,h2.2.2]
def LC(H:Hp)(v:V)(la lb:Ln):Prop:=∃a x y,v=.ref a/\H a=some (.lst [x,y])/\sR H x la/\sR H y lb
theorem NY{K:Qqy}{H:Hp}{u v:V}{la lb Oi Oj:Ln}(h:LC H u la lb)(h':LC H v Oi Oj):mO K H 4 u v (decide (tr la=tr Oi/\tr lb=tr Oj)):=by
 obtain⟨a,x,y,rfl,h1,h2,h3⟩:=h
 obtain⟨a',x',y',rfl,g1,g2,g3⟩:=h'
 have z:=mO.lists (K:=K) (H:=H) (n:=3) (e:=λj=>match j with|0=>decide (tr la=tr Oi)|_=>decide (tr lb=tr Oj)) (gN.of h1) (gN.of g1) rfl λj u v hu hv=>by
  match j with
  | 0=>cases hu;cases hv;exact LB h2 g2
  | 1=>cases hu;cases hv;exact LB h3 g3
  | j+2=>simp at hu
 have e:(List.range 2).all (λj=>match j with|0=>decide (tr la=tr Oi)|_=>decide (tr lb=tr Oj))=decide (tr la=tr Oi/\tr lb=tr Oj):=by
  rw[abo]
  simp only [abD,abt,aaT]
  constructor
  ·intro g
   exact⟨aaB (g 0 (by decide)),aaB (g 1 (by decide))⟩
  ·intro g j hj
   match j,hj with
   | 0,_=>exact X0 g.1
   | 1,_=>exact X0 g.2
 rw[<-e]
 exact z
theorem LD{H:Hp}{v:V}{la lb Oi Oj:Ln}(h:LC H v la lb)(h':LC H v Oi Oj):tr la=tr Oi/\tr lb=tr Oj:=by
 obtain⟨a,x,y,rfl,h1,h2,h3⟩:=h
 obtain⟨a',x',y',e,g1,g2,g3⟩:=h'
 cases e
 rw[h1] at g1
 cases g1
 exact⟨Cn h2 g2,Cn h3 g3⟩
def LF(H:Hp)(row:List Ln)(v:V)(q:Nat×Nat):Prop:=∃la lb,row[q.1]?=some la/\row[q.2]?=some lb/\LC H v la lb
open Classical in
theorem Fu{K:Qqy}{H:Hp}{row:List Ln}{vs:List V}{qs:List (Nat×Nat)}(p:Paired (LF H row) vs qs){w:V}{a b:Ln}(hw:LC H w a b):∃g:V->Bool,(∀z∈vs,mO K H 4 z w (g z))/\((∃q∈qs,row[q.1]?=some a/\row[q.2]?=some b)->vs.any g=true):=by
 refine⟨λz=>decide (∃la lb,LC H z la lb/\tr la=tr a/\tr lb=tr b),λz hz=>?_,λ⟨q,hq,h1,h2⟩=>?_⟩
 ·obtain⟨i,hi⟩:=aaU.mp hz
  obtain⟨q,_,la,lb,_,_,hp⟩:=ib p hi
  have e:decide (∃la lb,LC H z la lb/\tr la=tr a/\tr lb=tr b)=decide (tr la=tr a/\tr lb=tr b):=by
   rw[decide_eq_decide]
   refine⟨λ⟨Oi,Oj,h,e1,e2⟩=>?_,λh=>⟨la,lb,hp,h⟩⟩
   obtain⟨g1,g2⟩:=LD hp h
   exact⟨g1.trans e1,g2.trans e2⟩
  show mO K H 4 z w (decide (∃la lb,LC H z la lb/\tr la=tr a/\tr lb=tr b))
  rw[e]
  exact NY hp hw
 ·rw[List.any_eq_true]
  obtain⟨i,hi⟩:=aaU.mp hq
  obtain⟨z,hz,la,lb,g1,g2,hp⟩:=iq p hi
  rw[h1] at g1
  rw[h2] at g2
  cases g1
  cases g2
  exact⟨z,XZ hz,X0 ⟨a,b,hp,rfl,rfl⟩⟩
noncomputable def tD(x:T3):Dv:=.t [.s x.1,.i x.2.1,.s x.2.2]
theorem HQ{H:Hp}{a:Addr}{zs:List V}{ts:List T3}(h:H a=some (.lst zs))(p:Paired (OS H) zs ts):Rep H 2 (.ref a) (.l (ts.map tD)):=by
 refine Rep.xx h p λv x ⟨t,e,ht⟩=>?_
 subst e
 refine .t ht rfl λj u d hu hd=>?_
 match j with
 | 0=>cases hu;cases hd;exact .s
 | 1=>cases hu;cases hd;exact .i
 | 2=>cases hu;cases hd;exact .s
 | j+3=>simp at hu
theorem uG{H:Hp}:∀{vs:List V} {row:List Ln},Paired (sR H) vs row->Paired (OS H) vs (row.map Wk)
 | _,_,.nil=>.nil
 | _,_,.cons f p=>.cons f (uG p)
def Mn(H:Hp)(v:V)(row:List Ln)(qs:List (Nat×Nat)):Prop:=∃u r c vs,v=.ref u/\H u=some (.lst [.ref r,.ref c])/\wa H r row/\H c=some (.lst vs)/\iC H qs vs
theorem Fv(x:Int)(l:List Int):R5 (.int x) (l.map V.int)=decide (x∈l):=by
 unfold R5
 rw[abo,List.any_map,List.any_eq_true,aaT]
 constructor
 ·rintro⟨y,hy,e⟩
  have e:(y ==x)=true:=e
  rw[<-eq_of_beq e];exact hy
 ·exact λh=>⟨x,h,by show(x ==x)=true;exact beq_self_eq_true _⟩
theorem Jn(l:List Int):(l.map V.int).all l8=true:=by
 rw[List.all_map,abD]
 intro x _
 rfl
def uh(row:List Ln)(ps:List Int)(n:Nat):List Ln:=((List.range n).filter λ(k:Nat)=>decide ((k:Int)∉ps)).filterMap λk=>row[k]?
theorem HR{row:List Ln}{ps:List Int}{n:Nat}{l:Ln}(h:row[n]?=some l)(hn:(n:Int)∉ps):uh row ps (n+1)=uh row ps n++[l]:=by
 unfold uh
 rw[acz,aaI,YS (by simpa using hn),aa3,abX,abE,h]
 rfl
theorem HS{row:List Ln}{ps:List Int}{n:Nat}(hn:(n:Int)∈ps):uh row ps (n+1)=uh row ps n:=by
 unfold uh
 rw[acz,aaI,aaj (by simpa using hn),aa3,aa0]
def Q_:Sp:=λvs H Q _=>∃(b e:V)(pl:Addr)(row DE:List Ln)(qs VJ:List (Nat×Nat))(ps:List Int),vs=[b,e,.ref pl]/\Mn H b row qs/\Mn H e DE VJ/\H pl=some (.lst (ps.map V.int))/\row.length<64/\DE.length<64/\qs.length<=4096/\
 (∀q∈qs,q.1<row.length/\q.2<row.length)/\DE.Perm (uh row ps row.length)/\(∀i j,(i,j)∈VJ->∃a b p q,DE[i]?=some a/\DE[j]?=some b/\(p,q)∈qs/\(row[p]?=some a/\row[q]?=some b\/row[p]?=some b/\row[q]?=some a))/\∀H',gv H H'->Q (.bl true) H'
theorem Dw(T:Txt mg)(O:Ok K mg A):ie P w K mg base mL 3 A.p3 A.p6 ["before","behind","places"] Q_:=by
 have nc:=@yI P w K mg base A T O
 have wy:=@Bu P w K mg base A T O
 refine O.sF.f.rB iJ λjt A outer s H vs Q E hr h=>?_
 obtain⟨bv,ev,pl,row,DE,qs,VJ,ps,rfl,⟨b,r,c,cv,rfl,hb,⟨rv,xG,zp⟩,LX,SO⟩,⟨e,r',c',cv',rfl,he,⟨rv',Ol,Ma⟩,RT,VL⟩,nK,l64,l64',lq,Zq,Pk,hqq,q⟩:=h
 have sz:sizeLine=16777216:=aaQ
 have VA:=aav zp
 have hvl':=aav Ma
 have Mt:=aav SO
 refine⟨_,(de (wL (j:=3) pM (gp kR).names [8] iJ.nd rfl rfl rfl (jS rfl T.ll (a_ (gK gE (by rfl) T.jw aaM (a_ (kJ (pv 0) gm) e_)) e_)) rfl (by decide+kernel) (λ_ _ _ _=>(ir (i:=8) iJ.nd rfl (Or.inl rfl))) (λ_ _ _ _=>⟨_,nN (hV CB (pv 8) (pv 2) rfl),by(try simp only [kL]);rfl⟩) (λ_ _ _ _=>zc (kJ (kJ (pv 0) gm) (pv 8))))
   (de (il ((pw_or (kB (lu (oh O.o7 nc hr (a_ (kJ (pv 1) gm) e_)))) (pw_or (kB (lu (oh O.rq wy hr (a_ (kJ (pv 1) gm) e_)))) (pw_or1 (hV (CH 4 (by exact OF hr)) (gK AE (by rfl) T.EW PyProof.Rows.boot_sorted (a_ (kJ (pv 1) gm) e_)) (gK AE (by rfl) T.EW PyProof.Rows.boot_sorted (a_ (pv 3) e_)) (iA _))))).pt) (f_ (hE j_)) hG)
   (de (kZ 4 iJ (iB e_))
   (de (iD aaN rfl (ic (kJ (pv 0) gm)) (tM 5 iJ) (f_ (hU (pC aa2 aba abb kl (pv 4) (a_ (iB (a_ (kJ (kJ (pv 0) gm) (jo kS (pv 5) gm (λ_ _=>rfl))) (a_ (kJ (kJ (pv 0) gm) (jo kS (pv 5) gm (λ_ _=>rfl))) e_))) e_)))))
   (de (iD aaN rfl (ic (kJ (pv 1) gm)) (tM 5 iJ) (de (kZ 6 iJ (kJ (kJ (pv 1) gm) (jo kS (pv 5) gm (λ_ _=>rfl))))
   (de (kZ 7 iJ (kJ (kJ (pv 1) gm) (jo kS (pv 5) gm (λ_ _=>rfl))))
   (f_ (il ((pw_and (hV (Ck 4 (by exact OF hr)) (iB (a_ (pv 6) (a_ (pv 7) e_))) (pv 4) rfl) (pw_and1 (hV (Ck 4 (by exact OF hr)) (iB (a_ (pv 7) (a_ (pv 6) e_))) (pv 4) rfl))).pt) (f_ (hE j_)) hG)))))
   (f_ (hE j_))))))),?_⟩
 refine R8 ?_;intro _ _ _ _ _
 refine⟨_,rfl,b,_,_,_,rfl,rfl,gN.of hb,gG (j:=0) rfl rfl,r,_,rfl,.inl (gN.of xG),_,rfl,by omega,by omega,?_⟩
 rw[abQ]
 let Jv:=λ(i:Nat) (ys:List V) (Z:St) (H2:Hp)=>∃(v8:Option V),Z=[rr b,rr e,rr pl,none,none,none,none,none,v8]/\H2=H/\ys.length<=i/\Paired (sR H) ys (uh row ps i)
 refine rJ (by omega) Jv
  ⟨none,rfl,rfl,XW _,.nil⟩ (by rintro _ _ _ _ ⟨_,_,_,e2,_⟩;exact e2) ?_ ?_
 ·rintro i ys Z H2 hi ⟨v8,rfl,rfl,Sw,Pb⟩
  rw[show(0:Int)+(i:Int)=(i:Int) by omega]
  refine⟨_,rfl,_,rfl,pl,_,rfl,.inl (gN.of nK),rfl,Jn _,_,rfl,?_⟩
  obtain⟨l,hl⟩:∃l,row[i]?=some l:=⟨_,UR (by omega)⟩
  refine kY (λLP=>?_) (λLP=>?_)
  ·have LP:(!R5 (V.int i) (ps.map V.int))=true:=LP
   rw[Fv] at LP
   obtain⟨v,hv,ht⟩:=iq zp hl
   refine⟨_,rfl,b,_,_,_,rfl,rfl,gN.of hb,gG (j:=0) rfl rfl,_,rfl,r,_,_,_,rfl,rfl,gN.of xG,gG rfl hv,_,rfl,rfl,by rw[YO];exact Nat.succ_le_succ Sw,?_⟩
   rw[HR hl (by simpa using LP)]
   exact ig Pb ht
  ·have LP:¬(!R5 (V.int i) (ps.map V.int))=true:=LP
   rw[Fv] at LP
   refine⟨_,rfl,rfl,by omega,?_⟩
   rw[HS (by simpa using LP)]
   exact Pb
 rintro ys Z H2 ⟨v8,rfl,rfl,Sw,Pb⟩ du hdu
 rw[VA] at Pb Sw
 have s3:=(gv.refl H2).new (o:=.lst ys) hdu
 have u3:(upd H2 du (.lst ys)) du=some (.lst ys):=b_
 generalize upd H2 du (.lst ys)=H3 at s3 u3
 have ZT:wa H3 r' DE:=⟨rv',s3 _ _ Ol,Paired.i3 Ma λv l ⟨t,e,h⟩=>⟨t,e,s3 _ _ h⟩⟩
 have pr3:iC H3 VJ cv':=Paired.i3 VL λq v ⟨t,e,h⟩=>⟨t,e,s3 _ _ h⟩
 refine⟨_,rfl,e,_,_,_,rfl,rfl,gN.of (s3 _ _ he),gG (j:=0) rfl rfl,.ref r',2,DE,rfl,ZT.rep,_,rfl,jf ?_⟩
 refine⟨_,rfl,e,_,_,_,rfl,rfl,gN.of (s3 _ _ he),gG (j:=1) rfl rfl,.ref c',2,VJ,rfl,Cj (s3 _ _ RT) pr3,_,rfl,jf ?_⟩
 have hdl:=aav Pb
 refine⟨_,rfl,e,_,_,_,rfl,rfl,gN.of (s3 _ _ he),gG (j:=0) rfl rfl,r',rv',DE.map Wk,rfl,gN.of (s3 _ _ Ol),uG (Paired.i3 Ma λv l ⟨t,e,h⟩=>⟨t,e,s3 _ _ h⟩),by omega,λl1 Pl ZU N6 p1 zO so1 _=>?_⟩
 have s4:=s3.new (o:=.lst Pl) N6
 have u4:(upd H3 l1 (.lst Pl)) l1=some (.lst Pl):=b_
 have u4d:=hX (u:=.lst Pl) N6 u3
 have p4:Paired (OS (upd H3 l1 (.lst Pl))) Pl ZU:=Paired.i3 p1 λv x ⟨t,e,h⟩=>⟨t,e,hX N6 h⟩
 generalize upd H3 l1 (.lst Pl)=H4 at s4 u4 u4d p4
 refine⟨_,rfl,du,ys,(uh row ps row.length).map Wk,rfl,gN.of u4d,uG (Paired.i3 Pb λv l ⟨t,e,h⟩=>⟨t,e,s4 _ _ h⟩),by omega,λl2 Pn ts2 FR p2 pm2 so2 _=>?_⟩
 have s5:=s4.new (o:=.lst Pn) FR
 have u5:(upd H4 l2 (.lst Pn)) l2=some (.lst Pn):=b_
 have u5':=hX (u:=.lst Pn) FR u4
 have p5:Paired (OS (upd H4 l2 (.lst Pn))) Pn ts2:=Paired.i3 p2 λv x ⟨t,e,h⟩=>⟨t,e,hX FR h⟩
 have p5':Paired (OS (upd H4 l2 (.lst Pn))) Pl ZU:=Paired.i3 p4 λv x ⟨t,e,h⟩=>⟨t,e,hX FR h⟩
 generalize upd H4 l2 (.lst Pn)=H5 at s5 u5 u5' p5 p5'
 have ets:ZU=ts2:=Jj ((zO.trans (Pk.map Wk)).trans pm2.symm) so1 so2
 subst ets
 refine⟨true,⟨l1,l2,rfl,rfl⟩,((HQ u5' p5').mono (by decide)).eq ((HQ u5 p5).mono (by decide)),_,rfl,jf ?_⟩
 refine⟨L2.jL,λQa hQa=>?_⟩
 have hQH:H2 Qa=none:=s5.free hQa
 have s6:=s5.new (o:=.lst []) hQa
 have u6:(upd H5 Qa (.lst [])) Qa=some (.lst []):=b_
 generalize upd H5 Qa (.lst [])=H6 at s6 u6
 dsimp only [lA];refine JA ?_;intro _
 let Jv:=λ(i:Nat) (Z:St) (H7:Hp)=>∃(v5:Option V)(zs:List V),Z=[rr b,rr e,rr pl,rr du,rr Qa,v5,none,none,none]/\gv H2 H7/\H7 Qa=some (.lst zs)/\zs.length<=i/\(∀z∈zs,z≠.ref Qa)/\Paired (LF H7 row) zs (qs.take i)
 refine⟨_,rfl,b,_,_,_,rfl,rfl,gN.of (s6 _ _ hb),gG (j:=1) rfl rfl,c,rfl,⟨_,gN.of (s6 _ _ LX)⟩,iU (K:=K) (a:=c) (xs:=cv) Jv
  ⟨none,[],rfl,s6,u6,XW _,λz hz=>(by cases hz),.nil⟩ (by rintro _ _ _ _ ⟨_,_,_,e,_⟩;exact gN.of (e _ _ LX)) ?_ ?_⟩
 ·rintro i v Z H7 hv ⟨v5,zs,rfl,s7,u7,hzl,Od,W9⟩
  obtain⟨q0,L9,t,rfl,ht⟩:=iq SO hv
  obtain⟨g1,g2⟩:=Zq q0 (XZ L9)
  obtain⟨la,Of⟩:∃l,row[q0.1]?=some l:=⟨_,UR g1⟩
  obtain⟨lb,FK⟩:∃l,row[q0.2]?=some l:=⟨_,UR g2⟩
  obtain⟨xa,ZV,ta⟩:=iq zp Of
  obtain⟨xb,ZW,tb⟩:=iq zp FK
  have ht7:=s7 _ _ ht
  have hiq:i<qs.length:=(List.getElem?_eq_some_iff.mp L9).1
  refine⟨_,rfl,.inl ⟨rfl,_,gN.of u7⟩,_,rfl,b,_,_,_,rfl,rfl,gN.of (s7 _ _ hb),gG (j:=0) rfl rfl,_,rfl,t,_,_,_,rfl,rfl,oy.of ht7,gG (j:=0) rfl rfl,r,_,_,_,rfl,rfl,gN.of (s7 _ _ xG),gG rfl ZV,_,rfl,b,_,_,_,rfl,rfl,gN.of (s7 _ _ hb),gG (j:=0) rfl rfl,_,rfl,t,_,_,_,rfl,rfl,oy.of ht7,gG (j:=1) rfl rfl,r,_,_,_,rfl,rfl,gN.of (s7 _ _ xG),gG rfl ZW,L2.jL,λw2 RU=>?_⟩
  have s8:=s7.new (o:=.lst [xa,xb]) RU
  have hwq:Qa≠w2:=gr u7 RU
  refine⟨Qa,_,_,rfl,rfl,hX RU u7,by omega,?_⟩
  have tup:∀{v:V} {l:Ln},sR H2 v l->sR (upd (upd H7 w2 (.lst [xa,xb])) Qa (.lst (zs++[.ref w2]))) v l:=λ{v l} ⟨t,e,h⟩=>⟨t,e,by
   have h8:=s8 _ _ h
   rw[d_ (λz=>by rw[z,hX RU u7] at h8;cases h8)]
   exact h8⟩
  refine⟨_,zs++[.ref w2],rfl,s8.upd hQH,b_,by rw[YO];exact Nat.succ_le_succ hzl,λz hz=>?_,?_⟩
  ·rcases aal.mp hz with hz|hz
   ·exact Od z hz
   ·rw[XT.mp hz]
    intro z
    exact hwq (V.ref.inj z).symm
  ·rw[take_snoc L9]
   refine ig ?_ ⟨la,lb,Of,FK,w2,xa,xb,rfl,by rw[d_ hwq.symm,b_],tup ta,tup tb⟩
   have key:∀{us:List V} {ks:List (Nat×Nat)},(∀z∈us,z≠.ref Qa)->Paired (LF H7 row) us ks->Paired (LF (upd (upd H7 w2 (.lst [xa,xb])) Qa (.lst (zs++[.ref w2]))) row) us ks:=by
    intro us ks hu p
    induction p with
    | nil=>exact .nil
    | cons f _ ih=>
     refine .cons ?_ (ih λz hz=>hu z (aam _ hz))
     obtain⟨la,lb,k1,k2,a,x,y,rfl,k3,⟨t1,e1,k4⟩,⟨t2,e2,k5⟩⟩:=f
     have up:∀{z:Addr} {o:HO},z≠Qa->H7 z=some o->upd (upd H7 w2 (.lst [xa,xb])) Qa (.lst (zs++[.ref w2])) z=some o:=λhn h=>by rw[d_ hn,d_ (gr h RU)];exact h
     exact⟨la,lb,k1,k2,a,x,y,rfl,up (λz=>hu _ aaD (by rw[z])) k3,⟨t1,e1,up (λz=>by rw[z,u7] at k4;cases k4) k4⟩,⟨t2,e2,up (λz=>by rw[z,u7] at k5;cases k5) k5⟩⟩
   exact key Od W9
 rintro Z H7 ⟨v5,zs,rfl,s7,u7,hzl,Od,W9⟩
 rw[<-Mt,aaE] at W9
 dsimp only [lA];refine JA ?_;intro _
 let Jv:=λ(i:Nat) (Z:St) (H8:Hp)=>∃(v5 v6 v7:Option V),Z=[rr b,rr e,rr pl,rr du,rr Qa,v5,v6,v7,none]/\gv H7 H8
 refine⟨_,rfl,e,_,_,_,rfl,rfl,gN.of (s7 _ _ he),gG (j:=1) rfl rfl,c',rfl,⟨_,gN.of (s7 _ _ RT)⟩,iU (K:=K) (a:=c') (xs:=cv') Jv ⟨v5,none,none,rfl,gv.refl _⟩ (by rintro _ _ _ _ ⟨_,_,_,_,e⟩;exact gN.of (e _ _ (s7 _ _ RT))) ?_ ?_⟩
 ·rintro i v Z H8 hv ⟨v5,v6,v7,rfl,Mw⟩
  have s8:=s7.trans Mw
  obtain⟨q0,L9,t,rfl,ht⟩:=iq VL hv
  obtain⟨la,lb,p,qq,Of,FK,G3,YE⟩:=hqq q0.1 q0.2 (XZ L9)
  obtain⟨xa,ZV,ta⟩:=iq Ma Of
  obtain⟨xb,ZW,tb⟩:=iq Ma FK
  have ht8:=s8 _ _ ht
  refine⟨_,rfl,e,_,_,_,rfl,rfl,gN.of (s8 _ _ he),gG (j:=0) rfl rfl,_,rfl,t,_,_,_,rfl,rfl,oy.of ht8,gG (j:=0) rfl rfl,r',_,_,_,rfl,rfl,gN.of (s8 _ _ Ol),gG rfl ZV,?_⟩
  refine⟨_,rfl,e,_,_,_,rfl,rfl,gN.of (s8 _ _ he),gG (j:=0) rfl rfl,_,rfl,t,_,_,_,rfl,rfl,oy.of ht8,gG (j:=1) rfl rfl,r',_,_,_,rfl,rfl,gN.of (s8 _ _ Ol),gG rfl ZW,?_⟩
  have W_:∀{H9:Hp} {v:V} {l:Ln},gv H8 H9->sR H2 v l->sR H9 v l:=λs ⟨t,e,h⟩=>⟨t,e,s _ _ (s8 _ _ h)⟩
  have upP:∀{H9:Hp},gv H8 H9->Paired (LF H9 row) zs qs:=λ{H9} s=>Paired.i3 W9 λv q ⟨la,lb,k1,k2,a,x,y,e,k3,⟨t1,e1,k4⟩,⟨t2,e2,k5⟩⟩=>⟨la,lb,k1,k2,a,x,y,e,s _ _ (Mw _ _ k3),⟨t1,e1,s _ _ (Mw _ _ k4)⟩,⟨t2,e2,s _ _ (Mw _ _ k5)⟩⟩
  refine⟨_,rfl,_,rfl,L2.jL,λw1 Zu=>?_⟩
  have s9:=(gv.refl H8).new (o:=.lst [xa,xb]) Zu
  have u9:(upd H8 w1 (.lst [xa,xb])) w1=some (.lst [xa,xb]):=b_
  generalize upd H8 w1 (.lst [xa,xb])=H9 at s9 u9
  obtain⟨g,O3,hg2⟩:=Fu (K:=K) (upP s9) (show LC H9 (.ref w1) la lb from ⟨w1,xa,xb,rfl,u9,W_ s9 ta,W_ s9 tb⟩)
  refine⟨_,rfl,Qa,zs,g,rfl,gN.of (s9 _ _ (Mw _ _ u7)),O3,_,rfl,?_⟩
  rw[aay rfl]
  cases hgb:zs.any g with
  | true=>exact jf (jf ⟨_,_,_,rfl,Mw.trans s9⟩)
  | false=>
   refine lL ?_
   have ZX:row[p]?=some lb/\row[qq]?=some la:=YE.resolve_left λz=>by rw[hg2 ⟨(p,qq),G3,z⟩] at hgb;cases hgb
   refine⟨_,rfl,_,rfl,L2.jL,λw2 RU=>?_⟩
   have FT:=s9.new (o:=.lst [xb,xa]) RU
   have SQ:(upd H9 w2 (.lst [xb,xa])) w2=some (.lst [xb,xa]):=b_
   generalize upd H9 w2 (.lst [xb,xa])=y8 at FT SQ
   obtain⟨g',ZY,ZZ⟩:=Fu (K:=K) (upP FT) (show LC y8 (.ref w2) lb la from ⟨w2,xb,xa,rfl,SQ,W_ FT tb,W_ FT ta⟩)
   refine⟨_,rfl,Qa,zs,g',rfl,gN.of (FT _ _ (Mw _ _ u7)),ZY,_,rfl,?_⟩
   rw[aay rfl,ZZ ⟨(p,qq),G3,ZX⟩]
   exact jf ⟨_,_,_,rfl,Mw.trans FT⟩
 ·rintro Z H8 ⟨v5,v6,v7,rfl,Mw⟩
  exact q H8 (s7.trans Mw)
end
def nq(x y:Addr)(H:Hp):Hp:=λb=>if b=x\/b=y then none else H b
section
variable{x y b:Addr}{H H':Hp}
theorem mx(h1:b≠x)(h2:b≠y):nq x y H b=H b:=aaw λh=>h.elim h1 h2
theorem wk{o:HO}(h:nq x y H b=some o):H b=some o/\b≠x/\b≠y:=by
 by_cases e:b=x\/b=y
 ·rw[show nq x y H b=none from aay e] at h;cases h
 ·exact⟨(aaw e).symm.trans h,λz=>e (.inl z),λz=>e (.inr z)⟩
theorem qf(s:gv H H'):gv (nq x y H) (nq x y H'):=λb o e=>by
 obtain⟨e,n1,n2⟩:=wk e
 rw[mx n1 n2];exact s _ _ e
theorem je:gv (nq x y H) H:=λb o e=>(wk e).1
theorem HU{o:HO}(h:b=x\/b=y):nq x y (upd H b o)=nq x y H:=by
 funext c
 by_cases e:c=x\/c=y
 ·exact(aay e).trans (aay e).symm
 ·exact(aaw e).trans ((d_ λ(z:c=b)=>e (z▸h)).trans (aaw e).symm)
theorem HV{G:Hp}(s:gv G H)(hx:G x=none)(hy:G y=none):gv G (nq x y H):=λb o e=>by
 rw[mx (gr e hx) (gr e hy)];exact s _ _ e
end
def LT(H H':Hp):Prop:=(∀a vs,H a=some (.lst vs)->H' a=some (.lst vs))/\∀a vs,H a=some (.tup vs)->H' a=some (.tup vs)
theorem LT.of{H H':Hp}(s:gv H H'):LT H H':=⟨λa vs h=>s _ _ h,λa vs h=>s _ _ h⟩
theorem LT.trans{H H' H2:Hp}(a:LT H H')(b:LT H' H2):LT H H2:=⟨λx vs h=>b.1 _ _ (a.1 _ _ h),λx vs h=>b.2 _ _ (a.2 _ _ h)⟩
theorem LT.x{A:Ad}{H H':Hp}{d:Addr}{D:Dk}{W:Addr->Prop}(X:ia A H d D W)(s:oX W H H'):LT H H':=⟨λa vs h=>s _ _ h (X.lst h),λa vs h=>s _ _ h (X.tup h)⟩
theorem LT.nq{H H':Hp}(s:LT H H')(x y:Addr):LT (nq x y H) (nq x y H'):=⟨λa vs h=>by
 obtain⟨e,n1,n2⟩:=wk h
 rw[mx n1 n2];exact s.1 _ _ e,λa vs h=>by
 obtain⟨e,n1,n2⟩:=wk h
 rw[mx n1 n2];exact s.2 _ _ e⟩
theorem Rep.lt{H H':Hp}{n:Nat}{v:V}{d:Dv}(r:Rep H n v d)(s:LT H H'):Rep H' n v d:=by
 induction r with
 | o=>exact .o
 | s=>exact .s
 | i=>exact .i
 | l h hl _ ih=>exact .l (s.1 _ _ h) hl ih
 | t h hl _ ih=>exact .t (s.2 _ _ h) hl ih
theorem Mn.lt{H H':Hp}{v:V}{row:List Ln}{qs:List (Nat×Nat)}(m:Mn H v row qs)(s:LT H H'):Mn H' v row qs:=by
 obtain⟨u,r,c,vs,e,h1,⟨rv,h2,h3⟩,h4,h5⟩:=m
 exact⟨u,r,c,vs,e,s.1 _ _ h1,⟨rv,s.1 _ _ h2,Paired.i3 h3 λv l ⟨t,e,h⟩=>⟨t,e,s.2 _ _ h⟩⟩,s.1 _ _ h4,Paired.i3 h5 λq v ⟨t,e,h⟩=>⟨t,e,s.2 _ _ h⟩⟩
theorem Mn.rep{H:Hp}{v:V}{row:List Ln}{qs:List (Nat×Nat)}(m:Mn H v row qs):Rep H 3 v (.l [Je row,Se qs]):=by
 obtain⟨u,r,c,vs,rfl,h1,h2,h4,h5⟩:=m
 exact Rep.two h1 h2.rep (Cj h4 h5)
theorem One.mn{H0 H:Hp}{row:List Ln}{qu:List (Nat×Nat)}{v:V}(o:One H0 H row qu v):Mn H v row qu:=by
 obtain⟨u,r,c,qs,e,h1,h2,h3,h4,h5,h6,h7⟩:=o
 exact⟨u,r,c,qs,e,h4,h5,h6,h7⟩
theorem One.away{H0 H1 H2:Hp}{row:List Ln}{qu:List (Nat×Nat)}{v:V}(o:One H0 H1 row qu v)(s:gv H0 H1)(s':gv H1 H2){x y:Addr}{l l':List V}(hx:H0 x=some (.lst l))(hy:H0 y=some (.lst l')):Mn (nq x y H2) v row qu:=by
 obtain⟨u,r,c,qs,e,h1,h2,h3,h4,⟨rv,h5,h5'⟩,h6,h7⟩:=o
 have nf:∀{b:Addr} {o:HO},H0 b=none->H1 b=some o->nq x y H2 b=some o:=λhb h=>by
  rw[mx (λz=>by rw[z,hx] at hb;cases hb) (λz=>by rw[z,hy] at hb;cases hb)];exact s' _ _ h
 have nt:∀{b:Addr} {xs:List V},H1 b=some (.tup xs)->nq x y H2 b=some (.tup xs):=λh=>by
  rw[mx (λz=>by rw[z,s _ _ hx] at h;cases h) (λz=>by rw[z,s _ _ hy] at h;cases h)];exact s' _ _ h
 exact⟨u,r,c,qs,e,nf h1 h4,⟨rv,nf h2 h5,Paired.i3 h5' λv l ⟨t,e,h⟩=>⟨t,e,nt h⟩⟩,nf h3 h6,Paired.i3 h7 λq v ⟨a,e,h⟩=>⟨a,e,nt h⟩⟩
noncomputable def bD(D:Dk)(o:Str)(fl:List Str):Dv:=.l [.l ((D.has o).map Dv.s),OP D o fl]
structure El(H:Hp)(D:Dk)(fl:List Str)(o:Str)(b h s:Addr)(us:List V):Prop where
 hb:H b=some (.lst [.ref h,.ref s])
 hh:nq b s H h=some (.lst (gw (D.has o)))
 hs:H s=some (.lst us)
 hu:Paired (λv f=>Mn (nq b s H) v (D.row o f) (D.jQ o f)) us fl
 ne:b≠s
theorem El.lt{H H':Hp}{D:Dk}{fl:List Str}{o:Str}{b h s:Addr}{us:List V}(e:El H D fl o b h s us)(t:LT H H'):El H' D fl o b h s us:=
 ⟨t.1 _ _ e.hb,(t.nq b s).1 _ _ e.hh,t.1 _ _ e.hs,Paired.i3 e.hu λv f m=>m.lt (t.nq b s),e.ne⟩
theorem Dx{H:Hp}{D:Dk}{fl:List Str}{o:Str}{b h s:Addr}{us:List V}(hb:H b=some (.lst [.ref h,.ref s]))(hh:H h=some (.lst (gw (D.has o))))(hs:H s=some (.lst us))(hu:Paired (λv f=>Mn H v (D.row o f) (D.jQ o f)) us fl):Rep H 5 (.ref b) (bD D o fl):=
 Rep.two hb (Rep.strs (n:=3) hh) (Rep.xx hs hu λv f m=>m.rep)
theorem El.rep{H:Hp}{D:Dk}{fl:List Str}{o:Str}{b h s:Addr}{us:List V}(e:El H D fl o b h s us):Rep H 5 (.ref b) (bD D o fl):=
 Dx e.hb (je _ _ e.hh) e.hs (Paired.i3 e.hu λv f m=>m.lt (.of je))
abbrev E4:=Addr×Addr×Addr×List V
structure OU(H:Hp)(D:Dk)(Mx fl:List Str)(es:List E4):Prop where
 own:∀(j:Nat) e o,es[j]?=some e->Mx[j]?=some o->El H D fl o e.1 e.2.1 e.2.2.1 e.2.2.2
 Ko:∀(j k:Nat) e e' o,j≠k->es[j]?=some e->es[k]?=some e'->Mx[j]?=some o->Rep (nq e'.1 e'.2.2.1 H) 5 (.ref e.1) (bD D o fl)
theorem OU.lt{H H':Hp}{D:Dk}{Mx fl:List Str}{es:List E4}(e:OU H D Mx fl es)(t:LT H H'):OU H' D Mx fl es:=
 ⟨λj x o h1 h2=>(e.own j x o h1 h2).lt t,λj k x x' o hn h1 h2 h3=>(e.Ko j k x x' o hn h1 h2 h3).lt (t.nq _ _)⟩
theorem OU.snoc{H Ha H1:Hp}{D:Dk}{Mx fl:List Str}{es:List E4}{o:Str}{h p b:Addr}{vs:List V}(E:OU H D Mx fl es)(ho:Mx[es.length]?=some o)(My:H h=none)(eHa:Ha=upd H h (.lst (gw (D.has o))))(s1:gv Ha H1)(pw:H1 p=none)
  (hv:Paired (λv f=>One Ha H1 (D.row o f) (D.jQ o f) v) vs fl) (FC:(upd H1 p (.lst vs)) b=none):OU (upd (upd H1 p (.lst vs)) b (.lst [.ref h,.ref p])) D Mx fl (es++[(b,h,p,vs)]):=by
 subst eHa
 have Z0:gv H H1:=((gv.refl H).new (o:=.lst (gw (D.has o))) My).trans s1
 have s2:gv H1 (upd H1 p (.lst vs)):=(gv.refl H1).new pw
 have s3:gv (upd H1 p (.lst vs)) (upd (upd H1 p (.lst vs)) b (.lst [.ref h,.ref p])):=(gv.refl _).new FC
 have sH:gv H (upd (upd H1 p (.lst vs)) b (.lst [.ref h,.ref p])):=(Z0.trans s2).trans s3
 have Pe:H1 b=none:=s2.free FC
 have hbH:H b=none:=Z0.free Pe
 have D3:H p=none:=Z0.free pw
 have WE:b≠p:=λe=>by rw[e,b_] at FC;cases FC
 have Pc:H1 h=some (.lst (gw (D.has o))):=s1 _ _ b_
 have VM:gv H1 (nq b p (upd (upd H1 p (.lst vs)) b (.lst [.ref h,.ref p]))):=HV (s2.trans s3) Pe pw
 have new:El (upd (upd H1 p (.lst vs)) b (.lst [.ref h,.ref p])) D fl o b h p vs:=⟨b_,VM _ _ Pc,s3 _ _ b_,Paired.i3 hv λv f m=>m.mn.lt (.of VM),WE⟩
 have at_:∀{j:Nat} {e:E4},(es++[(b,h,p,vs)])[j]?=some e->(j<es.length/\es[j]?=some e)\/(j=es.length/\e=(b,h,p,vs)):=λ{j e} hj=>by
  by_cases c:j<es.length
  ·rw[abU c] at hj;exact .inl ⟨c,hj⟩
  ·have hl:=(List.getElem?_eq_some_iff.mp hj).1
   rw[YO] at hl
   have hl:j<es.length+1:=hl
   have e1:j=es.length:=by omega
   subst e1
   rw[abl (XW _),Nat.sub_self] at hj
   exact .inr ⟨rfl,(aaF hj).symm⟩
 refine⟨λj e o' hj hs=>?_,λj k e e' o' hn hj hk hs=>?_⟩
 ·rcases at_ hj with⟨_,hj⟩|⟨rfl,rfl⟩
  ·exact(E.own j e o' hj hs).lt (.of sH)
  ·rw[ho] at hs
   cases hs
   exact new
 ·rcases at_ hj with⟨_,hj⟩|⟨e1,e2⟩
  ·rcases at_ hk with⟨_,hk⟩|⟨_,rfl⟩
   ·exact(E.Ko j k e e' o' hn hj hk hs).lt ((LT.of sH).nq _ _)
   ·exact(E.own j e o' hj hs).rep.same (HV sH hbH D3)
  ·subst e1 e2
   rw[ho] at hs
   cases hs
   rcases at_ hk with⟨_,hk⟩|⟨e1,_⟩
   ·obtain⟨o2,SK⟩:∃o2,Mx[k]?=some o2:=by
     have h1:=(List.getElem?_eq_some_iff.mp hk).1
     have h2:=(List.getElem?_eq_some_iff.mp ho).1
     exact⟨_,UR (by omega)⟩
    have ek:=E.own k e' o2 hk SK
    have n1:∀{z:Addr} {u:HO},H z=none->(upd (upd H1 p (.lst vs)) b (.lst [.ref h,.ref p])) z=some u->nq e'.1 e'.2.2.1 (upd (upd H1 p (.lst vs)) b (.lst [.ref h,.ref p])) z=some u:=λhz hu=>by
     rw[mx (λc=>by rw[c,ek.hb] at hz;cases hz) (λc=>by rw[c,ek.hs] at hz;cases hz)];exact hu
    refine Dx (n1 hbH b_) (n1 My (s3 _ _ (s2 _ _ Pc))) (n1 D3 (s3 _ _ b_)) (Paired.i3 hv λv f m=>m.away s1 (s2.trans s3) (l:=[.ref e'.2.1,.ref e'.2.2.1]) (l':=e'.2.2.2) ?_ ?_)
    ·rw[d_ (gr ek.hb My)];exact ek.hb
    ·rw[d_ (gr ek.hs My)];exact ek.hs
   ·exact absurd e1.symm hn
section
variable{A:Ad}{H:Hp}{fi u:Addr}{o:HO}{r l:List V}
theorem om.ls{a:Addr}{ls:List Ln}(h:om A H a ls)(hf:H fi=some (.lst (.ref u::r)))(hu:H u=some (.lst l)):om A (upd H fi o) a ls:=by
 obtain⟨as,h1,h2⟩:=h
 have hn:a≠fi:=λe=>by
  subst e
  rw[hf] at h1
  injection aaF h1 with e
  cases h2 with
  | nil=>cases e
  | cons h3 _=>
   injection e with e1 _
   cases e1
   obtain⟨dx,vn,vu,vl,h4,_⟩:=h3
   rw[hu] at h4;cases h4
 exact⟨as,by rw[d_ hn];exact h1,Paired.i3 h2 λ_ _ z=>mH.upd z hf (λ_ z=>by cases z) (λ_ _ _ z=>by cases z)⟩
theorem vU.ls{a:Addr}{ns:List Nm}(h:vU H a ns)(hf:H fi=some (.lst (.ref u::r)))(hu:H u=some (.lst l)):vU (upd H fi o) a ns:=by
 obtain⟨vs,h1,h2⟩:=h
 have hn:a≠fi:=λe=>by
  subst e
  rw[hf] at h1
  injection aaF h1 with e
  subst e
  cases h2 with
  | cons h3 _=>
   obtain⟨t,e1,h4⟩:=h3
   cases e1
   rw[hu] at h4;cases h4
 exact⟨vs,by rw[d_ hn];exact h1,Paired.i3 h2 λ_ _ z=>z.upd hf (λ_ z=>by cases z)⟩
theorem ia.ls{d:Addr}{D:Dk}{W:Addr->Prop}(X:ia A H d D W)(hf:H fi=some (.lst (.ref u::r)))(hu:H u=some (.lst l)):ia A (upd H fi o) d D W:=by
 obtain⟨Y,x⟩:=X
 have nd:∀{a:Addr} {kv:List (Key×V)},H a=some (.dK kv)->(upd H fi o) a=some (.dK kv):=λh=>by rw[d_ (iR h hf λz=>by cases z)];exact h
 refine⟨Y,by rw[d_ (iR x.hd hf λz=>by cases z)];exact x.hd,nd x.hm,nd x.hn,nd x.hh,x.mn,x.mh,x.nh,x.wm,x.wn,x.wh,x.km,λp hp=>?_,x.kn,λy hy=>?_,x.kh,λs hs=>?_,x.inj,λb hb=>?_⟩
 ·obtain⟨a,e,dx,vf,pu,cu,vo,h0,h1,h2,h3,h4⟩:=x.vm p hp
  exact⟨a,e,dx,vf,pu,cu,vo,by rw[d_ (iR h0 hf λz=>by cases z)];exact h0,h1,h2.ls hf hu,h3.ls hf hu,h4⟩
 ·obtain⟨a,kv,l,h1,h2,h3,h4⟩:=x.vn y hy
  exact⟨a,kv,l,h1,h2,nd h3,h4⟩
 ·obtain⟨h1,h2,h3,h4,h5,kv,h6,h7⟩:=x.vh s hs
  exact⟨h1,h2,h3,h4,h5,kv,nd h6,h7⟩
 ·obtain⟨kv,e⟩:=x.dk b hb
  exact⟨kv,nd e⟩
end
theorem zm{H:Hp}{a:Addr}{n:Nat}(h:H a=some (.lst [])):Rep H (n+1) (.ref a) (.l []):=.l h rfl λj u d hu _=>by simp at hu
theorem Fw{Z Y:Type}{g:Z->List Y}{m:Nat}(h:∀i,(g i).length<=m):∀l:List Z,(l.flatMap g).length<=l.length*m
 | []=>aaZ _
 | x::l=>by
  rw[aaW,YO,aai,Nat.succ_mul]
  have:=Fw h l
  have:=h x
  omega
theorem LG(lt:Nm->Nm->Prop)(row:List Ln):(ja lt row).length<=row.length*row.length:=by
 unfold ja
 refine aan (Fw (m:=row.length) (λi=>?_) _) ?_
 ·rw[O7]
  refine aan (aaY _ _) ?_
  rw[List.length_range']
  omega
 ·rw[abR]
  exact XW _
theorem AI{row:List Ln}(nd:(row.map (·.nm)).Nodup){ps:List Int}(hp:∀p∈ps,0<=p):∀n,n<=row.length->uh row ps n=(row.take n).filter λl=>decide (l.nm∉ps.filterMap λp=>(row[p.toNat]?).map (·.nm))
 | 0,_=>rfl
 | n+1,h=>by
  obtain⟨l,hl⟩:∃l,row[n]?=some l:=⟨_,UR (by omega)⟩
  have ih:=AI nd hp n (by omega)
  have key:(n:Int)∈ps↔l.nm∈ps.filterMap λp=>(row[p.toNat]?).map (·.nm):=by
   rw[abx]
   constructor
   ·exact λh=>⟨n,h,by rw[abQ,hl];rfl⟩
   ·rintro⟨p,hm,e⟩
    obtain⟨l',yL,en⟩:=Option.map_eq_some_iff.mp e
    have g1:(row.map (·.nm))[p.toNat]?=some l'.nm:=by rw[aao,yL];rfl
    have g2:(row.map (·.nm))[n]?=some l.nm:=by rw[aao,hl];rfl
    have:=(abS (i:=p.toNat) (j:=n) (List.getElem?_eq_some_iff.mp g1).1 nd).mp (by rw[g1,g2,en])
    have:=hp p hm
    rw[show(n:Int)=p by omega]
    exact hm
  rw[take_snoc hl,aaI,<-ih]
  by_cases c:(n:Int)∈ps
  ·rw[HS c,aaj (by rw[aaT];exact λz=>z (key.mp c)),aa3,aa0]
  ·rw[HR hl c,YS (by rw[aaT];exact λz=>c (key.mpr z)),aa3]
theorem Jo(ns:List Int):(qh ns).Nodup:=by
 unfold qh
 simp only [aa9,aah,acn,or_false,not_false_eq_true,abu,and_true]
 exact λz=>by
  have:=wc (by decide) (by decide) (by decide) (by decide) z
  omega
theorem LH{l:List Str}(nd:l.Nodup){i j:Nat}{a:Str}(hi:l[i]?=some a)(hj:l[j]?=some a):i=j:=
 (abS (List.getElem?_eq_some_iff.mp hi).1 nd).mp (hi.trans hj.symm)
theorem LI{H:Hp}{D D2:Dk}{o f:Str}{fl:List Str}{us:List V}{u:V}{j:Nat}(nd:fl.Nodup)(hj:fl[j]?=some f)(p:Paired (λv g=>Mn H v (D.row o g) (D.jQ o g)) us fl)(hu:Mn H u (D2.row o f) (D2.jQ o f))
  (Ko:∀g,g≠f->D2.row o g=D.row o g/\D2.jQ o g=D.jQ o g):Paired (λv g=>Mn H v (D2.row o g) (D2.jQ o g)) (us.set j u) fl:=by
 refine pG (by rw[acs];exact aav p) λi v g hv hg=>?_
 rw[List.getElem?_set] at hv
 by_cases e:j=i
 ·subst e
  rw[hj] at hg
  cases hg
  rw[aay rfl] at hv
  split at hv
  ·cases hv;exact hu
  ·cases hv
 ·rw[aaw e] at hv
  obtain⟨g',hg',m⟩:=ib p hv
  rw[hg] at hg'
  cases hg'
  have hn:g≠f:=λz=>e (LH nd hj (z▸hg))
  rw[(Ko g hn).1,(Ko g hn).2]
  exact m
theorem LJ{D D2:Dk}{o:Str}{fl:List Str}(h:D2.has o=D.has o)(g:∀g,D2.row o g=D.row o g/\D2.jQ o g=D.jQ o g):bD D2 o fl=bD D o fl:=by
 unfold bD OP
 have e:(fl.map λf=>Dv.l [Je (D2.row o f),Se (D2.jQ o f)])=fl.map λf=>Dv.l [Je (D.row o f),Se (D.jQ o f)]:=ab7 λf _=>by rw[(g f).1,(g f).2]
 rw[h,e]
theorem NZ{H:Hp}{R:Str->List Ln}{U:Str->List (Nat×Nat)}{us:List V}{f0:Str}{r:List Str}(p:Paired (λv g=>Mn H v (R g) (U g)) us (f0::r)):∃u0 r' l,us=.ref u0::r'/\H u0=some (.lst l):=by
 cases p with
 | cons m _=>
  obtain⟨u,_,_,_,rfl,h,_⟩:=m
  exact⟨u,_,_,rfl,h⟩
section
variable{P:Program}{w:World}{K:Qqy}{mg:Qqx}{base:Heap}{A:Ad}
def HW(K:Qqy):Sp:=λvs H Q _=>∃(a:Addr)(ns:List Int),vs=[.ref a]/\gN K H a (ns.map V.int)/\ns.length<=63/\∀H',Q (.bl true) H'
theorem Ra{f:Addr}{fd:FuncData}(F:xU K "law" "law" zX f fd)(T:Txt mg)(O:Ok K mg A):ie P w K mg base mL 20 f fd ["script"] (HW K):=by
 have FL:=@NP P w K mg base A T O
 have iM:=@HH P w K mg base A T O
 have mJ:=@HI P w K mg base A T O
 have sY:=@HJ P w K mg base A T O
 have sZ:=@NW P w K mg base A T O
 have nc:=@yI P w K mg base A T O
 have xJ:=@Dw P w K mg base A T O
 have jz:=(@GL P w K mg base A T O).FQ
 have og:=(@GN P w K mg base A T O).FQ
 have kj:=(@sS P w K mg base A T O).FQ
 have pf:=(@Ce P w K mg base A T O).FQ
 have uI:=(@Lh P w K mg base A T O).FQ
 refine F.rB jM λjt A0 outer s H vs Q E hr h=>?_
 obtain⟨a,ns,rfl,ha,hn,q⟩:=h
 have sz:sizeLine=16777216:=aaQ
 refine⟨_,(de (lx (i:=1) jM.nd rfl (Or.inr rfl) (oh O.B6 FL hr (a_ (pv 0) (a_ gm (a_ (gD iz (oh O.i8 iM hr (a_ (pv 0) (a_ gm e_))) gm) (a_ j_ e_))))))
   (de (lx (i:=2) jM.nd rfl (Or.inr rfl) (kJ (pv 1) gm))
   (de (iD aaN rfl (jS rfl T.ll (a_ (gD iy gm (gD iz (oh O.i8 iM hr (a_ (pv 0) (a_ gm e_))) gm)) e_)) (tM 3 jM) (de (kZ 4 jM (oh O.i8 iM hr (a_ (pv 0) (a_ (gD iy gm (pv 3)) e_))))
   (de (kZ 5 jM (kJ (kJ (pv 1) gm) (gD iz (pv 4) gm)))
   (de (kZ 6 jM (gD iz (gD jj (pv 4) gm) gm))
   (de (kZ 7 jM (oh O.p7 mJ hr (a_ (gD iz (oh O.i8 iM hr (a_ (pv 0) (a_ gm e_))) gm) (a_ (gD iy gm (pv 3)) e_))))
   (de (BR (j:=8) EV (gp zX).names [14] jM.nd rfl rfl rfl (ic (kJ (pv 1) gm)) rfl (by decide+kernel) (λ_ _ _ _=>(ir (i:=14) jM.nd rfl (Or.inl rfl))) (λ_ _ _ _=>lN) (λ_ _ _ _=>zc (iB (a_ (xW (pv 2) O.gO O.k7 jz hr (a_ (pv 14) e_)) (a_ (oh O.tF sZ hr (a_ (pv 2) (a_ (pv 14) (a_ (kJ (pv 1) gm) e_)))) e_)))))
   (de (lx (i:=9) jM.nd rfl (Or.inr rfl) (kJ (kJ (kJ (pv 8) (gD iz (pv 4) gm)) gm) (pv 6)))
   (de (ql (il (hV (J9 9 (by exact OF hr)) (kJ (pv 9) gm) (iB e_) (iA _)) (de (kZ 10 jM (oh O.xp sY hr (a_ (tT EV (gp zX).names [16] rfl (ic (kJ (pv 9) gm)) rfl (by decide+kernel) (λ_ _ _ _=>(ir (i:=16) jM.nd rfl (Or.inl rfl))) (λ_ _ _ _=>lN) (λ_ _ _ _=>zc (jo kS (pv 16) gm (λ_ _=>rfl)))) (a_ (gD jj (pv 4) gm) e_))))
   (de (hU (xW (pv 2) O.gO O.sE pf hr (a_ (pv 5) (a_ (pv 7) (a_ (kJ (kJ (pv 1) gm) (pv 6)) (a_ (wH vb (by rfl) T.xm ab9 (a_ (pv 10) e_)) e_))))))
   (de (kZ 11 jM (xW (pv 2) O.gO O.vT og hr (a_ (pv 5) (a_ (kJ (kJ (pv 1) gm) (pv 6)) e_))))
   (de (il (PW.pt (pw_or (kB (lu (oh O.o7 nc hr (a_ (pv 11) e_)))) (pw_or1 (hV (CH 9 (by exact OF hr)) (tT EV (gp zX).names [16] rfl (ic (pv 11)) rfl (by decide+kernel) (λ_ _ _ _=>(ir (i:=16) jM.nd rfl (Or.inl rfl))) (λ_ _ _ _=>lN) (λ_ _ _ _=>zc (jo kS (pv 16) gm (λ_ _=>rfl)))) (pv 10) (iA _))))) (f_ (hE j_)) hG)
   (f_ (il (hV (CH 9 (by exact OF hr)) (xW (pv 2) O.gO O.mz kj hr (a_ (pv 5) (a_ (kJ (kJ (pv 1) gm) (pv 6)) e_))) (iB e_) (iA _)) (f_ (hE j_)) hG)))))) (de (kZ 12 jM (gD iz (gD jj (pv 4) gm) (gK gE (by rfl) T.jw aaM (a_ (kJ (pv 9) gm) e_))))
   (de (kZ 13 jM (iB (a_ (pv 12) (a_ (gD iy (gD iy (pv 12) gm) (gD iz (gD jj (pv 4) gm) gm)) e_))))
   (de (wL (j:=13) EV (gp zX).names [17] jM.nd rfl rfl rfl (ic (pv 13)) rfl (by decide+kernel) (λ_ _ _ _=>(ir (i:=17) jM.nd rfl (Or.inl rfl))) (λ_ _ _ _=>⟨_,nN (hV Ee (pv 17) (gK gE (by rfl) T.jw aaM (a_ (kJ (pv 9) gm) e_)) (iA _)),by(try simp only [kL]);rfl⟩) (λ_ _ _ _=>zc (pv 17)))
   (de (hU (xW (pv 2) O.gO O.Ap uI hr (a_ (pv 5) (a_ (pv 7) (a_ (kJ (kJ (pv 1) gm) (pv 6)) (a_ (pv 13) e_))))))
   (f_ (il (kB (lu (oh O.sF xJ hr (a_ (pv 9) (a_ (kJ (oh O.tF sZ hr (a_ (pv 2) (a_ (pv 5) (a_ (kJ (pv 1) gm) e_)))) (pv 6)) (a_ (pv 13) e_)))))) (f_ (hE j_)) hG))))))))
   (f_ (iD aaN rfl (jS rfl T.ll (a_ gm e_)) (tM 14 jM) (de (kZ 15 jM (iB (a_ (xW (pv 2) O.gO O.k7 jz hr (a_ (kJ (kJ (pv 1) gm) (pv 14)) e_)) (a_ (oh O.tF sZ hr (a_ (pv 2) (a_ (kJ (kJ (pv 1) gm) (pv 14)) (a_ (kJ (pv 1) gm) e_)))) e_))))
   (de (ql (il (hV mB (pv 14) (gD iz (pv 4) gm) (iA _)) (de (wC (gD mQ (kJ (kJ (pv 8) (pv 14)) gm) (iB (a_ (pv 7) e_))) (wB (kJ (pv 8) (pv 14)) gm set_list))
   (f_ (wC (kJ (kJ (pv 15) gm) (pv 6)) (wB (kJ (kJ (pv 8) (pv 14)) gm) (pv 6) set_list)))) hG))
   (f_ (il (hV (CH 9 (by exact OF hr)) (pv 15) (kJ (pv 8) (pv 14)) (iA _)) (f_ (hE j_)) hG))))))))))))))
   (f_ (hE j_))))),?_⟩
 refine OG ?_;intro _ _ _
 have b7:=mod_lt (cellAt ns 4) 13 (by decide)
 obtain⟨n,Og⟩:∃n:Nat,cellAt ns 4%13=(n:Int):=⟨_,(abH b7.1).symm⟩
 refine⟨_,rfl,_,rfl,a,ns,4,rfl,ha,by decide,_,_,rfl,rfl,(by show(0:Int)<13;decide),a,ns,10,n,true,?_,ha,by omega,by decide,by decide,by omega,λbl d ss fs D0 W H1 B=>?_⟩
 ·show[V.ref a,V.int 10,V.int (cellAt ns 4%13),V.bl true]=_
  rw[Og]
 have n7:n<13:=by omega
 have Po:∀{Ha Hb:Hp},gv H Ha->oX W Ha Hb->gv H Hb:=λs s' b o e=>s' b o (s _ _ e) λhb=>by rw[B.own b hb] at e;cases e
 refine⟨_,rfl,bl,_,_,_,rfl,rfl,gN.of B.at_,gG (j:=0) rfl rfl,?_⟩
 have b5:=mod_lt (cellAt ns 5) 4 (by decide)
 obtain⟨m,hm⟩:∃m:Nat,1+cellAt ns 5%4=(m:Int):=⟨_,(abH (by omega)).symm⟩
 dsimp only [lA];refine JA ?_;intro _
 let Jv:=λ(k:Nat) (Z:St) (H2:Hp)=>∃(v3 v4 v5 v6 v7 v8 v9 v10 v11 Mb Hc FN Hd FU Ic:Option V)(D:Dk),Z=[rr a,rr bl,rr d,v3,v4,v5,v6,v7,v8,v9,v10,v11,Mb,Hc,FN,Hd,FU,Ic]/\gv H H2/\H2 bl=some (.lst [.ref d,.ref ss,.ref fs])/\H2 ss=some (.lst (gw (rD ns)))/\H2 fs=some (.lst (gw (qh ns)))/\ia A H2 d D W/\Inv D/\Sz (n+k) D/\D.stores=rD ns/\∀x∈D.names,∃j:Nat,(j<13\/30<=j/\j<30+k)/\x=nameOf (yZ ns 3) j
 refine⟨_,rfl,a,ns,5,rfl,nI ha B.same,by decide,_,_,rfl,rfl,(by show(0:Int)<4;decide),_,_,rfl,rfl,_,rfl,by omega,by omega,lB Jv
  ⟨none,none,none,none,none,none,none,none,none,none,none,none,none,none,none,D0,rfl,B.same,B.at_,B.st,B.fl,B.Yi,B.inv,B.sz,B.stores,λx hx=>by obtain⟨j,hj,e⟩:=B.names x hx;exact⟨j,.inl (by omega),e⟩⟩ ?_ ?_⟩
 ·rintro k Z H2 hk ⟨v3,v4,v5,v6,v7,v8,v9,v10,v11,Mb,Hc,FN,Hd,FU,Ic,D,rfl,s2,kb,RV,Om,X2,I2,z2,DA,RW⟩
  have hk:k<4:=by omega
  have hnk:n+k<=15:=by omega
  clear b7 Og n7 b5 hm
  rw[show(0:Int)+(k:Int)=(k:Int) by omega]
  have sm:=z2.small (by omega)
  obtain⟨Y2,y2⟩:=id X2
  dsimp only [lA];refine sl8 ?_;intro _ _ _ _ _ _ _
  refine⟨_,rfl,_,rfl,_,_,rfl,rfl,a,ns,_,rfl,nI ha s2,by omega,?_⟩
  generalize cellAt ns (6+(k:Int))=c
  have bc:=mod_lt c 3 (by decide)
  obtain⟨ci,Z1⟩:∃ci:Nat,c%3=(ci:Int):=⟨_,(abH bc.1).symm⟩
  have hc3:ci<3:=by omega
  clear bc
  obtain⟨st,uH⟩:∃st,(rD ns)[ci]?=some st:=⟨_,UR (show ci<(rD ns).length from hc3)⟩
  have VN:=XZ uH
  have uQ:st∈D.stores:=by rw[DA];exact VN
  have fst:=(sU st VN).uF
  refine⟨_,rfl,bl,_,_,_,rfl,rfl,gN.of kb,gG (j:=1) rfl rfl,_,rfl,_,_,rfl,rfl,(by show(0:Int)<3;decide),ss,_,_,_,rfl,rfl,gN.of RV,gG Z1 (j3 uH),?_⟩
  have b2:=mod_lt (c/3) 2 (by decide)
  obtain⟨ai,hai⟩:∃ai:Nat,c/3%2=(ai:Int):=⟨_,(abH b2.1).symm⟩
  have ha2:ai<(qh ns).length:=by show ai<2;omega
  clear b2
  obtain⟨fl,Jx⟩:∃fl,(qh ns)[ai]?=some fl:=⟨_,UR ha2⟩
  have Z2:=XZ Jx
  have Xa:=Fn fl Z2
  refine⟨_,rfl,_,_,rfl,rfl,⟨by decide,by decide⟩,_,_,rfl,rfl,(by show(0:Int)<2;decide),?_⟩
  dsimp only
  rw[hai]
  clear hai
  refine⟨_,rfl,a,ns,3,rfl,nI ha s2,by decide,_,_,rfl,rfl,(by show(0:Int)<20736;decide),_,rfl,_,_,rfl,rfl,_,_,rfl,?_⟩
  have gx:=qc (yZ ns 3) (30+(k:Int))
  have Z3:nameOf (yZ ns 3) (30+(k:Int))=nameOf (yZ ns 3) ((30+k:Nat):Int):=by rw[show(30:Int)+(k:Int)=((30+k:Nat):Int) by omega]
  have fresh:nameOf (yZ ns 3) (30+(k:Int))∉D.names:=λhm=>by
   obtain⟨j,hj,e⟩:=RW _ hm
   have:=wc (by omega) (by omega) (by omega) (by omega) e
   omega
  show _
  generalize hx:nameOf (cellAt ns 3%20736) (30+(k:Int))=x
  have gx:Good x:=hx▸gx
  have fresh:x∉D.names:=hx▸fresh
  have Z3:x=nameOf (yZ ns 3) ((30+k:Nat):Int):=hx▸Z3
  let Jv:=λ(i:Nat) (ys:List V) (Z:St) (H3:Hp)=>∃(FN:Option V)(es:List E4),Z=[rr a,rr bl,rr d,ri k,ri c,rs st,ri ai,rs x,v8,v9,v10,v11,Mb,Hc,FN,Hd,FU,Ic]/\gv H2 H3/\ys=es.map (λe=>V.ref e.1)/\es.length=i/\(∀e∈es,H2 e.1=none/\H2 e.2.2.1=none)/\OU H3 D (rD ns) (qh ns) es
  refine⟨_,rfl,bl,_,_,_,rfl,rfl,gN.of kb,gG (j:=1) rfl rfl,ss,rfl,⟨_,gN.of RV⟩,jD (K:=K) (a:=ss) (xs:=gw (rD ns)) (by rw[O7];show 3<=_;omega) Jv
   ⟨none,[],rfl,gv.refl _,rfl,rfl,λe he=>(by cases he),⟨λj e o h=>(by simp at h),λj k e e' o _ h=>(by simp at h)⟩⟩ (by rintro _ _ _ _ _ ⟨_,es,_,e1,e2,e3,_⟩;exact⟨gN.of (e1 _ _ RV),by rw[e2,O7];omega⟩) ?_ ?_⟩
  ·rintro i v ys Z H3 hv ⟨FN,es,rfl,s3,rfl,VO,Z4,E⟩
   obtain⟨so,L7,rfl⟩:=lP hv
   have Jy:=XZ L7
   have L8:so∈D.stores:=by rw[DA];exact Jy
   have VP:=(sU so Jy).uF
   refine⟨_,rfl,d,Y2.dx,_,rfl,s3 _ _ y2.hd,qO,_,rfl,d,D,W,so,rfl,X2.same s3,VP,sm.many,λh=>absurd L8 h,λ_ h My=>?_⟩
   have s4:gv H3 (upd H3 h (.lst (gw (D.has so)))):=(gv.refl H3).new My
   refine⟨_,rfl,_,rfl,_,rfl,bl,_,_,_,rfl,rfl,gN.of (s4 _ _ (s3 _ _ kb)),gG (j:=2) rfl rfl,d,fs,D,W,so,qh ns,rfl,(X2.same s3).same s4,I2,sm,L8,VP,s4 _ _ (s3 _ _ Om),(by show 2<=1000;decide),λp H5 vs s5 pw hv=>⟨L2.jL,λb FC=>?_⟩⟩
   have Z5:=s4.trans s5
   have s6:=(Z5.new (o:=.lst vs) pw).new (o:=.lst [.ref h,.ref p]) FC
   refine⟨_,es++[(b,h,p,vs)],rfl,s3.trans s6,by rw[aaH];rfl,by rw[YO,VO];rfl,λe he=>?_,OU.snoc E (by rw[VO];exact L7) My rfl s5 pw hv FC⟩
   rcases aal.mp he with he|he
   ·exact Z4 e he
   ·rw[XT.mp he]
    exact⟨(s3.trans (Z5.new (o:=.lst vs) pw)).free FC,(s3.trans Z5).free pw⟩
  rintro ys Z H3 ⟨v14',es,rfl,s3,rfl,VO,Z4,E⟩ Bf Xb
  have VO:es.length=3:=VO
  have s4:=s3.new (o:=.lst (es.map λe=>V.ref e.1)) Xb
  have w4:gv H3 (upd H3 Bf (.lst (es.map λe=>V.ref e.1))):=(gv.refl H3).new Xb
  have u4:(upd H3 Bf (.lst (es.map λe=>V.ref e.1))) Bf=some (.lst (es.map λe=>V.ref e.1)):=b_
  have Z6:=E.lt (.of w4)
  obtain⟨⟨b,h,sv,us⟩,RX⟩:∃e,es[ci]?=some e:=⟨_,UR (by omega)⟩
  have hBb:Bf≠b:=λe=>by
   have:=(E.own ci _ st RX uH).hb
   rw[<-e,Xb] at this;cases this
  have hBs:Bf≠sv:=λe=>by
   have:=(E.own ci _ st RX uH).hs
   rw[<-e,Xb] at this;cases this
  generalize upd H3 Bf (.lst (es.map λe=>V.ref e.1))=H4 at s4 w4 u4 Z6
  obtain⟨JE,Fx⟩:=Z4 _ (XZ RX)
  have own:=Z6.own ci _ st RX uH
  have Rq:(es.map λe=>V.ref e.1)[ci]?=some (V.ref b):=by rw[aao,RX];rfl
  obtain⟨u,hu,mn⟩:=iq own.hu Jx
  refine⟨_,rfl,_,rfl,_,_,rfl,rfl,(by show(0:Int)<3;decide),Bf,_,_,_,rfl,rfl,gN.of u4,gG Z1 Rq,b,_,_,_,rfl,rfl,gN.of own.hb,gG (j:=1) rfl rfl,_,rfl,sv,_,_,_,rfl,rfl,gN.of own.hs,gG rfl hu,?_⟩
  have mn4:=mn.lt (.of je)
  obtain⟨ua,r,qa,qv,rfl,g1,BB,g3,g4⟩:=id mn4
  have H_:=aav g4
  have Dy:=z2.row I2 st fl
  have X4:=X2.same s4
  refine⟨λZ H6=>∃(v10 v11 Mb Hc FN Hd FU Ic:Option V)(p:Pt),Z=[rr a,rr bl,rr d,ri k,ri c,rs st,ri ai,rs x,rr Bf,rr ua,v10,v11,Mb,Hc,FN,Hd,FU,Ic]/\Cg D st fl x p/\LT H4 H6/\gv H H6/\ia A H6 d (D.keep st p) W/\Inv (D.keep st p)/\Sz (n+k+1) (D.keep st p),?_,?_⟩
  ·refine⟨_,rfl,ua,_,_,_,rfl,rfl,gN.of g1,gG (j:=1) rfl rfl,L2.jL,λe0 he0=>?_⟩
   have w5:=(gv.refl H4).new (o:=.lst []) he0
   have u5:(upd H4 e0 (.lst [])) e0=some (.lst []):=b_
   generalize upd H4 e0 (.lst [])=H5 at w5 u5
   have X5:=X4.same w5
   obtain⟨vr,xG,zp⟩:=id BB
   have VA:=aav zp
   have Z7:=w5 _ _ xG
   have g15:=w5 _ _ g1
   have Z8:=w5 _ _ g3
   by_cases hq:D.jQ st fl=[]
   ·have Z9:qv=[]:=by
     rw[hq] at H_
     exact aaR.mp H_.symm
    rw[Z9] at Z8
    refine⟨_,⟨qa,e0,rfl,rfl⟩,Rep.eq (zm (n:=8) Z8) (zm u5),_,rfl,lL ?_⟩
    refine OH ?_;intro _ _ _ _
    let Jv:=λ(j:Nat) (ys:List V) (Z:St) (H8:Hp)=>∃(FU:Option V),Z=[rr a,rr bl,rr d,ri k,ri c,rs st,ri ai,rs x,rr Bf,rr ua,v10,v11,Mb,Hc,FN,Hd,FU,Ic]/\H8=H5/\ys=gw (((D.row st fl).take j).map (·.tx))
    refine⟨_,rfl,ua,_,_,_,rfl,rfl,gN.of g15,gG (j:=0) rfl rfl,r,rfl,⟨_,gN.of Z7⟩,jD (K:=K) (a:=r) (xs:=vr) (by omega) Jv
     ⟨_,rfl,rfl,rfl⟩ (by rintro _ _ _ _ _ ⟨_,_,e,e2⟩;rw[e,e2];exact⟨gN.of Z7,by rw[O7,O7,aaP];omega⟩) ?_ ?_⟩
    ·rintro j v ys Z H8 hv ⟨FU,rfl,rfl,rfl⟩
     obtain⟨ln,tQ,t,rfl,ht⟩:=ib zp hv
     refine⟨_,rfl,t,_,_,_,rfl,rfl,oy.of (w5 _ _ ht),gG (j:=2) rfl rfl,_,rfl,rfl,?_⟩
     rw[take_snoc tQ,aaH,iY]
     rfl
    rintro ys Z H8 ⟨v16',rfl,rfl,rfl⟩ tl N7
    rw[VA,aaE]
    have w8:=(gv.refl H8).new (o:=.lst (gw ((D.row st fl).map (·.tx)))) N7
    have u8:(upd H8 tl (.lst (gw ((D.row st fl).map (·.tx))))) tl=some (.lst (gw ((D.row st fl).map (·.tx)))):=b_
    generalize upd H8 tl (.lst (gw ((D.row st fl).map (·.tx))))=H9 at w8 u8
    refine⟨_,rfl,_,_,rfl,rfl,⟨by decide,by decide⟩,tl,(D.row st fl).map (·.tx),_,rfl,u8,by rw[O7];omega,λt y8 ts Z_ VQ ed=>?_⟩
    have w:=(w5.trans w8).trans Z_
    have Rr:=ed.len
    rw[O7] at Rr
    have X10:=X4.same w
    obtain⟨Y10,y10⟩:=id X10
    have aaa:=w _ _ (s4 _ _ kb)
    have aab:=w _ _ (s4 _ _ Om)
    refine⟨_,rfl,d,Y10.dx,_,rfl,y10.hd,Cb,_,rfl,_,rfl,_,rfl,bl,_,_,_,rfl,rfl,gN.of aaa,gG (j:=2) rfl rfl,_,rfl,fs,_,_,_,rfl,rfl,gN.of aab,gG rfl (j3 Jx),_,rfl,t,_,rfl,.inl (gN.of VQ),λtc htc=>?_⟩
    have Oo:=w.new (o:=.lst (gw ts)) htc
    have Pp:(upd y8 tc (.lst (gw ts))) tc=some (.lst (gw ts)):=b_
    have Oq:=hX (u:=.lst (gw ts)) htc VQ
    generalize upd y8 tc (.lst (gw ts))=Ib at Oo Pp Oq
    have VR:=X4.same Oo
    refine⟨d,tc,D,W,st,x,fl,ts,rfl,VR,I2,sm,aan z2.iw (by omega),fst,gx.uF,Xa.uF,Pp,by omega,λh=>absurd uQ h,λ_ h=>absurd ⟨gx,Xa⟩ h,λ_ _ _ h=>absurd h fresh,λ_ _ _ _ h=>absurd hq h,λ_ _ _ _ _ h=>absurd h ed.ne,λ_ _ _ _ _ _ FV RY SR=>?_⟩
    have rtx:=(Fp I2 uQ fresh hq ts).tx
    have rqu:=(Fp I2 uQ fresh hq ts).qu
    have I3:=I2.record uQ fresh hq ts
    have z3:=z2.keep st (Cf (x:=x) (f:=fl) ed) (aan qQ.2 (by omega))
    have cg:Cg D st fl x (jV x fl (D.row st fl) ts):=Jl ts
    generalize jV x fl (D.row st fl) ts=p at RY rtx rqu I3 z3 cg
    have Xc:st∈(D.keep st p).stores:=uQ
    have Xd:=z3.small (by omega)
    have aac:=z3.row I3 st fl
    have DG:=(LT.of Oo).trans (LT.x VR SR)
    have D5:=Po ((s2.trans s4).trans Oo) SR
    have Jz:=SR _ _ Oq (VR.lst Oq)
    have VS:=DG.1 _ _ (s4 _ _ kb)
    have VT:=DG.1 _ _ (s4 _ _ Om)
    obtain⟨Y12,y12⟩:=id RY
    refine⟨_,rfl,d,Y12.dx,_,rfl,y12.hd,GK,_,rfl,_,rfl,bl,_,_,_,rfl,rfl,gN.of VS,gG (j:=2) rfl rfl,_,rfl,fs,_,_,_,rfl,rfl,gN.of VT,gG rfl (j3 Jx),d,D.keep st p,W,st,fl,rfl,RY,fst,Xd,I3,λh=>absurd Xc h,λ_ r2 H13 w13 hr20 Oa=>?_⟩
    refine⟨_,rfl,.ref r2,2,(D.keep st p).row st fl,rfl,Oa.rep,_,rfl,jf ?_⟩
    obtain⟨es2,Xe,he2⟩:=id Oa
    have aad:=aav he2
    let Jv:=λ(j:Nat) (ys:List V) (Z:St) (SS:Hp)=>∃(FU:Option V),Z=[rr a,rr bl,rr d,ri k,ri c,rs st,ri ai,rs x,rr Bf,rr ua,rr t,rr r2,Mb,Hc,FN,Hd,FU,Ic]/\SS=H13/\ys=gw ((((D.keep st p).row st fl).take j).map (·.tx))
    refine⟨_,rfl,r2,rfl,⟨_,gN.of Xe⟩,jD (K:=K) (a:=r2) (xs:=es2) (by omega) Jv
     ⟨_,rfl,rfl,rfl⟩ (by rintro _ _ _ _ _ ⟨_,_,e,e2⟩;rw[e,e2];exact⟨gN.of Xe,by rw[O7,O7,aaP];omega⟩) ?_ ?_⟩
    ·rintro j v ys Z SS hv ⟨FU,rfl,rfl,rfl⟩
     obtain⟨ln,tQ,t',rfl,ht⟩:=ib he2 hv
     refine⟨_,rfl,t',_,_,_,rfl,rfl,oy.of ht,gG (j:=2) rfl rfl,_,rfl,rfl,?_⟩
     rw[take_snoc tQ,aaH,iY]
     rfl
    rintro ys Z SS ⟨v16'',rfl,rfl,rfl⟩ tm htm
    rw[aad,aaE,rtx]
    have w14:=(gv.refl SS).new (o:=.lst (gw ts)) htm
    have u14:(upd SS tm (.lst (gw ts))) tm=some (.lst (gw ts)):=b_
    generalize upd SS tm (.lst (gw ts))=H15 at w14 u14
    have SU:=w13.trans w14
    refine⟨_,rfl,_,⟨tm,t,rfl,rfl⟩,Rep.eq (Rep.strs (n:=8) u14) (Rep.strs (SU _ _ Jz)),_,rfl,jf ?_⟩
    refine⟨_,rfl,d,Y12.dx,_,rfl,SU _ _ y12.hd,sQ,_,rfl,_,rfl,bl,_,_,_,rfl,rfl,gN.of (SU _ _ VS),gG (j:=2) rfl rfl,_,rfl,fs,_,_,_,rfl,rfl,gN.of (SU _ _ VT),gG rfl (j3 Jx),d,D.keep st p,W,st,fl,rfl,RY.same SU,fst,Xd,I3,λh=>absurd Xc h,λ_ c2 H16 qs2 w16 SG LX SO=>⟨L2.jL,λe1 Xe=>?_⟩⟩
    have aae:qs2=[]:=by
     have:=aav SO
     rw[rqu] at this
     exact aaR.mp this.symm
    rw[aae] at LX
    have w17:=(gv.refl H16).new (o:=.lst []) Xe
    refine⟨_,⟨c2,e1,rfl,rfl⟩,Rep.eq (zm (n:=8) (w17 _ _ LX)) (zm b_),_,rfl,jf ?_⟩
    have w18:=(SU.trans w16).trans w17
    exact⟨_,_,_,_,_,_,_,_,p,rfl,cg,DG.trans (.of w18),D5.trans w18,RY.same w18,I3,z3⟩
   ·have Z9:qv≠[]:=λe=>hq (aaR.mp (by rw[H_,e];rfl))
    refine⟨_,⟨qa,e0,rfl,rfl⟩,.J6 (gN.of Z8) (gN.of u5) (λe=>Z9 (aaR.mp e)),_,rfl,jf ?_⟩
    refine OH ?_;intro _ _ _ _
    obtain⟨q0,L9⟩:=List.exists_mem_of_ne_nil _ hq
    have L9:=(qd (lt:=Ah (gA (D.jP st) fl)) (i:=q0.1) (j:=q0.2)).mp L9
    have hz:0<vr.length:=by omega
    have b9:=mod_lt (c/6) (vr.length:Int) (by omega)
    obtain⟨f0,W0⟩:∃f0:Nat,c/6%(vr.length:Int)=(f0:Int):=⟨_,(abH b9.1).symm⟩
    refine⟨_,rfl,_,_,rfl,rfl,⟨by decide,by decide⟩,_,rfl,ua,_,_,_,rfl,rfl,gN.of g15,gG (j:=0) rfl rfl,r,_,rfl,.inl (gN.of Z7),_,_,rfl,rfl,by omega,?_⟩
    dsimp only
    rw[W0] at b9 ⊢
    have b97:=mod_lt (c/97) 3 (by decide)
    obtain⟨dd,O5⟩:∃dd:Nat,c/97%3=(dd:Int):=⟨_,(abH b97.1).symm⟩
    refine⟨_,rfl,_,rfl,_,_,rfl,rfl,_,rfl,_,_,rfl,rfl,⟨by decide,by decide⟩,_,_,rfl,rfl,(by show(0:Int)<3;decide),_,_,rfl,rfl,L2.jL,?_⟩
    dsimp only
    rw[O5] at b97 ⊢
    intro SV aag
    have epl:[V.int (f0:Int),V.int ((f0:Int)+1+(dd:Int))]=[(f0:Int),(f0:Int)+1+(dd:Int)].map V.int:=rfl
    rw[epl]
    have O_:∀z∈[(f0:Int),(f0:Int)+1+(dd:Int)],(f0:Int)<=z/\z<=(f0:Int)+3:=λz hz=>by
     rcases aah.mp hz with e|hz
     ·omega
     ·have:=XT.mp hz;omega
    have okp:NJ ((D.row st fl).length:Int) 0 ([(f0:Int),(f0:Int)+1+(dd:Int)].filter λz=>decide (z<(vr.length:Int))):=by
     rw[YS (by rw[aaT];omega)]
     refine⟨by omega,?_⟩
     by_cases z:(f0:Int)+1+(dd:Int)<(vr.length:Int)
     ·rw[YS (by rw[aaT];exact z)]
      exact⟨by omega,trivial⟩
     ·rw[aaj (by rw[aaT];exact z)]
      exact trivial
    have Vu:([(f0:Int),(f0:Int)+1+(dd:Int)].filter λz=>decide (z<(vr.length:Int)))≠[]:=λe=>by
     rw[YS (by rw[aaT];omega)] at e
     cases e
    have VU:([(f0:Int),(f0:Int)+1+(dd:Int)].filter λz=>decide (z<(vr.length:Int))).length<=2:=aaY _ _
    have VV:[(f0:Int),(f0:Int)+1+(dd:Int)].length=2:=rfl
    generalize [(f0:Int),(f0:Int)+1+(dd:Int)]=pa at O_ okp Vu VU VV
    have w6:=w5.new (o:=.lst (pa.map V.int)) aag
    have u6:(upd H5 SV (.lst (pa.map V.int))) SV=some (.lst (pa.map V.int)):=b_
    generalize upd H5 SV (.lst (pa.map V.int))=H6 at w6 u6
    have g16:=w6 _ _ g1
    have hr6:=w6 _ _ xG
    let Jv:=λ(j:Nat) (ys:List V) (Z:St) (H8:Hp)=>∃(Ic:Option V),Z=[rr a,rr bl,rr d,ri k,ri c,rs st,ri ai,rs x,rr Bf,rr ua,v10,v11,ri f0,rr SV,FN,Hd,FU,Ic]/\H8=H6/\ys=((pa.take j).filter λz=>decide (z<(vr.length:Int))).map V.int
    refine⟨_,rfl,SV,rfl,⟨_,gN.of u6⟩,jD (K:=K) (a:=SV) (xs:=pa.map V.int) (by rw[O7];omega) Jv
     ⟨_,rfl,rfl,rfl⟩ (by rintro _ _ _ _ _ ⟨_,_,e,e2⟩;rw[e,e2];exact⟨gN.of u6,by rw[O7];exact aan (aaY _ _) (by rw[aaP];omega)⟩) ?_ ?_⟩
    ·rintro j v ys Z H8 hv ⟨Ic,rfl,rfl,rfl⟩
     rw[aao] at hv
     obtain⟨pj,hpj,rfl⟩:=Option.map_eq_some_iff.mp hv
     refine⟨_,rfl,_,rfl,ua,_,_,_,rfl,rfl,gN.of g16,gG (j:=0) rfl rfl,r,_,rfl,.inl (gN.of hr6),_,_,rfl,rfl,_,rfl,kY (λhz=>?_) (λhz=>?_)⟩
     ·have hz:decide (pj<(vr.length:Int))=true:=hz
      refine⟨_,rfl,_,rfl,rfl,?_⟩
      rw[take_snoc hpj,aaI,YS (p:=λz=>decide (z<(vr.length:Int))) hz,aaH]
      rfl
     ·have hz:¬decide (pj<(vr.length:Int))=true:=hz
      refine⟨_,rfl,rfl,?_⟩
      rw[take_snoc hpj,aaI,aaj (p:=λz=>decide (z<(vr.length:Int))) hz,aa3,aa0]
    rintro ys Z H8 ⟨v17',rfl,rfl,rfl⟩ pl nK
    rw[O7,aaE]
    have G3:∀z∈pa.filter (λz=>decide (z<(vr.length:Int))),(0:Int)<=z/\z<(D.row st fl).length:=λz hz=>by
     obtain⟨h1,h2⟩:=aap.mp hz
     have:=O_ z h1
     have:=aaB h2
     omega
    generalize pa.filter (λz=>decide (z<(vr.length:Int)))=ps at okp Vu VU G3 nK
    have w7:=w6.new (o:=.lst (ps.map V.int)) nK
    have u7:(upd H8 pl (.lst (ps.map V.int))) pl=some (.lst (ps.map V.int)):=b_
    generalize upd H8 pl (.lst (ps.map V.int))=H7 at w7 u7
    have X7:=X4.same w7
    obtain⟨Y7,y7⟩:=id X7
    have VW:=w7 _ _ (s4 _ _ kb)
    have kf7:=w7 _ _ (s4 _ _ Om)
    refine⟨_,rfl,d,Y7.dx,_,rfl,y7.hd,Lc,_,rfl,_,rfl,_,rfl,bl,_,_,_,rfl,rfl,gN.of VW,gG (j:=2) rfl rfl,_,rfl,fs,_,_,_,rfl,rfl,gN.of kf7,gG rfl (j3 Jx),_,rfl,d,pl,D,W,st,x,fl,ps,rfl,X7,I2,sm,fst,gx.uF,Xa.uF,u7,by omega,λp hp=>?_,λh=>absurd uQ h,λ_ h=>absurd ⟨gx,Xa⟩ h,λ_ _ _ h=>absurd h fresh,λ_ _ _ _ h=>absurd okp h,λ_ _ _ _ h=>absurd h Vu,λ_ _ _ _ _ _ H9 X9 w9=>?_⟩
    ·have:=G3 p hp
     refine abz (m:=108) ?_ (by decide)
     exact aan (Nat.log2_le_self _) (by omega)
    have qS:∀n∈ps.filterMap (λp=>((D.row st fl)[p.toNat]?).map (·.nm)),n∈(D.row st fl).map (·.nm):=λn hn=>by
     obtain⟨pl,_,nK⟩:=abx.mp hn
     obtain⟨l',yL,rfl⟩:=Option.map_eq_some_iff.mp nK
     exact aaf (XZ yL)
    have I3:=I2.cut (x:=x) uQ fresh qS
    have z3:=z2.keep st (p:=⟨x,some fl,[],ps.filterMap λp=>((D.row st fl)[p.toNat]?).map (·.nm),none⟩) (aaZ _) (aan (aci _ _) (by omega))
    have cg:Cg D st fl x ⟨x,some fl,[],ps.filterMap λp=>((D.row st fl)[p.toNat]?).map (·.nm),none⟩:=Q5 qS
    have pm:=(Fq I2 uQ fresh qS).1
    have Sy:((D.row st fl).map (·.nm)).Nodup:=((I2.kE st fl).map _).nodup_iff.mpr (I2.wY st fl)
    have edu:=AI Sy (λp hp=>(G3 p hp).1) (D.row st fl).length (XW _)
    rw[aaE] at edu
    rw[<-edu] at pm
    have cqu:=λi j=>@Lx D st fl x I2 uQ fresh _ qS i j
    generalize (⟨x,some fl,[],ps.filterMap λp=>((D.row st fl)[p.toNat]?).map (·.nm),none⟩:Pt)=p at X9 I3 z3 cg pm cqu
    have Xc:st∈(D.keep st p).stores:=uQ
    have Xd:=z3.small (by omega)
    have aac:=z3.row I3 st fl
    have lt9:=(LT.of w7).trans (LT.x X7 w9)
    have s9:=Po ((s2.trans s4).trans w7) w9
    have u9:=w9 _ _ u7 (X7.lst u7)
    have kb9:=lt9.1 _ _ (s4 _ _ kb)
    have kf9:=lt9.1 _ _ (s4 _ _ Om)
    refine⟨_,rfl,_,rfl,_,rfl,_,rfl,bl,_,_,_,rfl,rfl,gN.of kb9,gG (j:=2) rfl rfl,d,fs,D.keep st p,W,st,qh ns,rfl,X9,I3,Xd,Xc,fst,kf9,(by show 2<=1000;decide),λXf y8 Mc Z_ VX aak=>?_⟩
    have Oo:=Z_.new (o:=.lst Mc) VX
    have Pp:(upd y8 Xf (.lst Mc)) Xf=some (.lst Mc):=b_
    have Pq:=(gv.refl y8).new (o:=.lst Mc) VX
    generalize upd y8 Xf (.lst Mc)=Ib at Oo Pp Pq
    obtain⟨vn,hvn,on⟩:=iq aak Jx
    have Md:=lt9.trans (.of Oo)
    refine⟨_,rfl,Xf,_,_,_,rfl,rfl,gN.of Pp,gG rfl hvn,_,rfl,.ref ua,vn,pl,D.row st fl,(D.keep st p).row st fl,D.jQ st fl,(D.keep st p).jQ st fl,ps,rfl,mn4.lt Md,on.mn.lt (.of Pq),Oo _ _ u9,by omega,by omega,?_,λq hq=>?_,pm,cqu,λFV SR=>⟨_,rfl,jf ?_⟩⟩
    ·refine aan (LG _ _) (aan (Nat.mul_le_mul Dy Dy) ?_)
     have:3*(n+k)<=48:=by omega
     exact aan (Nat.mul_le_mul this this) (by decide)
    ·have:=(qd (lt:=Ah (gA (D.jP st) fl)) (i:=q.1) (j:=q.2)).mp hq
     omega
    have Pr:=Oo.trans SR
    exact⟨_,_,_,_,_,_,_,_,p,rfl,cg,Md.trans (.of SR),s9.trans Pr,X9.same Pr,I3,z3⟩
  rintro Z H6 ⟨v10,v11,Mb,Hc,FN,Hd,FU,Ic,p,rfl,cg,lt6,s6,X6,I6,z6⟩
  have He:p.nm∉D.names:=by rw[cg.nm];exact fresh
  have RZ:(D.keep st p).stores=rD ns:=DA
  have VY:(D.keep st p).has st=D.has st++[x]:=by rw[Lu He,cg.nm]
  have VZ:∀o∈rD ns,o≠st->bD (D.keep st p) o (qh ns)=bD D o (qh ns):=λo ho oe=>LJ (AH I2 (by rw[DA];exact ho) oe He).1 (AH I2 (by rw[DA];exact ho) oe He).2
  have V0:∀g,g≠fl->(D.keep st p).row st g=D.row st g/\(D.keep st p).jQ st g=D.jQ st g:=λg hg=>cg.G1 I2 fresh hg
  have sm6:=z6.small (by omega)
  have V1:∀y∈(D.keep st p).names,∃j:Nat,(j<13\/30<=j/\j<30+(k+1))/\y=nameOf (yZ ns 3) j:=λy hy=>by
   rw[qR,aal,XT,cg.nm] at hy
   rcases hy with hy|rfl
   ·obtain⟨j,hj,e⟩:=RW y hy
    exact⟨j,by omega,e⟩
   ·exact⟨30+k,by omega,Z3⟩
  generalize D.keep st p=D2 at X6 I6 z6 RZ VY VZ V0 sm6 V1
  have hHb:H b=none:=s2.free JE
  have hHs:H sv=none:=s2.free Fx
  have kbh:nq b sv H4 bl=some (.lst [.ref d,.ref ss,.ref fs]):=by rw[mx (gr kb JE) (gr kb Fx)];exact s4 _ _ kb
  have ksh:nq b sv H4 ss=some (.lst (gw (rD ns))):=by rw[mx (gr RV JE) (gr RV Fx)];exact s4 _ _ RV
  have kfh:nq b sv H4 fs=some (.lst (gw (qh ns))):=by rw[mx (gr Om JE) (gr Om Fx)];exact s4 _ _ Om
  have kBh:nq b sv H4 Bf=some (.lst (es.map λe=>V.ref e.1)):=by rw[mx hBb hBs];exact u4
  have hhl:(D.has st).length<=100:=by
   rw[Dk.qy,O7]
   exact aan (aaY _ _) (aan z2.many (by omega))
  refine⟨_,rfl,by decide,by decide,?_⟩
  let Jv:=λ(i:Nat) (Z:St) (H7:Hp)=>∃(FN Hd:Option V)(lb ls:List V),Z=[rr a,rr bl,rr d,ri k,ri c,rs st,ri ai,rs x,rr Bf,rr ua,v10,v11,Mb,Hc,FN,Hd,FU,Ic]/\gv H H7/\ia A H7 d D2 W/\LT (nq b sv H4) (nq b sv H7)/\H7 b=some (.lst lb)/\H7 sv=some (.lst ls)/\(i<=ci->lb=[.ref h,.ref sv]/\ls=us)
  refine lB (n:=3) Jv
   ⟨FN,Hd,_,_,rfl,s6,X6,lt6.nq b sv,lt6.1 _ _ own.hb,lt6.1 _ _ own.hs,λ_=>⟨rfl,rfl⟩⟩ ?_ ?_
  ·rintro i Z H7 hi ⟨FN,Hd,lb,ls,rfl,s7,X7,Pu,FK,Me,hle⟩
   rw[show(0:Int)+(i:Int)=(i:Int) by omega]
   dsimp only [lA];refine Ey ?_;intro _ _
   obtain⟨Y7,y7⟩:=id X7
   obtain⟨so,L7⟩:∃so,(rD ns)[i]?=some so:=⟨_,UR hi⟩
   obtain⟨e,hei⟩:∃e,es[i]?=some e:=⟨_,UR (by omega)⟩
   have Jy:=XZ L7
   have V2:so∈D2.stores:=by rw[RZ];exact Jy
   have VP:=(sU so Jy).uF
   have VW:=je _ _ (Pu.1 _ _ kbh)
   have ks7:=je _ _ (Pu.1 _ _ ksh)
   have kf7:=je _ _ (Pu.1 _ _ kfh)
   refine⟨_,rfl,d,Y7.dx,_,rfl,y7.hd,qO,_,rfl,bl,_,_,_,rfl,rfl,gN.of VW,gG (j:=1) rfl rfl,_,rfl,ss,_,_,_,rfl,rfl,gN.of ks7,gG rfl (j3 L7),d,D2,W,so,rfl,X7,VP,sm6.many,λh=>absurd V2 h,λ_ h' My=>?_⟩
   have t8:gv H7 (upd H7 h' (.lst (gw (D2.has so)))):=(gv.refl H7).new My
   have u8:(upd H7 h' (.lst (gw (D2.has so)))) h'=some (.lst (gw (D2.has so))):=b_
   generalize upd H7 h' (.lst (gw (D2.has so)))=H8 at t8 u8
   refine⟨_,rfl,_,rfl,bl,_,_,_,rfl,rfl,gN.of (t8 _ _ VW),gG (j:=1) rfl rfl,_,rfl,ss,_,_,_,rfl,rfl,gN.of (t8 _ _ ks7),gG rfl (j3 L7),_,rfl,bl,_,_,_,rfl,rfl,gN.of (t8 _ _ VW),gG (j:=2) rfl rfl,d,fs,D2,W,so,qh ns,rfl,X7.same t8,I6,sm6,V2,VP,t8 _ _ kf7,(by show 2<=1000;decide),λp9 H9 Pw t9 hp9 hv9=>⟨L2.jL,λnw Vt=>?_⟩⟩
   have Ot:gv H9 (upd (upd H9 p9 (.lst Pw)) nw (.lst [.ref h',.ref p9])):=((gv.refl H9).new hp9).new Vt
   have u9:(upd (upd H9 p9 (.lst Pw)) nw (.lst [.ref h',.ref p9])) p9=some (.lst Pw):=hX Vt b_
   have SQ:(upd (upd H9 p9 (.lst Pw)) nw (.lst [.ref h',.ref p9])) nw=some (.lst [.ref h',.ref p9]):=b_
   have V3:H7 nw=none:=((t8.trans t9).new (o:=.lst Pw) hp9).free Vt
   have V4:H7 p9=none:=(t8.trans t9).free hp9
   generalize upd (upd H9 p9 (.lst Pw)) nw (.lst [.ref h',.ref p9])=y8 at Ot u9 SQ
   have R0:=(t8.trans t9).trans Ot
   have nf:∀{z:Addr} {o:HO},H7 z=none->y8 z=some o->nq b sv y8 z=some o:=λhz hu=>by
    rw[mx (λc=>by rw[c,FK] at hz;cases hz) (λc=>by rw[c,Me] at hz;cases hz)];exact hu
   have mns:Paired (λv f=>Mn (nq b sv y8) v (D2.row so f) (D2.jQ so f)) Pw (qh ns):=Paired.i3 hv9 λv f m=>m.away t9 Ot (t8 _ _ FK) (t8 _ _ Me)
   have rp:Rep (nq b sv y8) 5 (.ref nw) (bD D2 so (qh ns)):=Dx (nf V3 SQ) (nf My (Ot _ _ (t9 _ _ u8))) (nf V4 u9) mns
   have V5:LT (nq b sv H4) (nq b sv y8):=Pu.trans (.of (qf R0))
   have FK:=R0 _ _ FK
   have Me:=R0 _ _ Me
   refine⟨λZ Ib=>∃(lb ls:List V),Z=[rr a,rr bl,rr d,ri k,ri c,rs st,ri ai,rs x,rr Bf,rr ua,v10,v11,Mb,Hc,ri i,rr nw,FU,Ic]/\gv H Ib/\ia A Ib d D2 W/\LT (nq b sv H4) (nq b sv Ib)/\Ib b=some (.lst lb)/\Ib sv=some (.lst ls)/\(i+1<=ci->lb=[.ref h,.ref sv]/\ls=us)/\Rep Ib 5 (.ref nw) (bD D2 so (qh ns))/\Rep Ib 5 (.ref e.1) (bD D2 so (qh ns)),?_,?_⟩
   ·refine⟨_,rfl,_,rfl,_,_,rfl,rfl,(by show(0:Int)<3;decide),rfl,_,rfl,kY (λhz=>?_) (λhz=>?_)⟩
    ·have hz:=V.int.inj (aaB hz)
     have hz:ci=i:=by omega
     subst hz
     have ee:(b,h,sv,us)=e:=aaF (RX.symm.trans hei)
     subst ee
     have eo:st=so:=aaF (uH.symm.trans L7)
     subst eo
     rw[(hle (XW _)).1] at FK
     rw[(hle (XW _)).2] at Me
     obtain⟨vn,hvn,mvn⟩:=iq mns Jx
     obtain⟨u0,r0,l0,eus,hu0⟩:=NZ (show Paired _ _ (nameOf (yZ ns 1) 0::[nameOf (yZ ns 1) 1]) from own.hu)
     have V6:=je _ _ (V5.1 _ _ kBh)
     refine⟨_,rfl,_,rfl,Bf,_,_,_,rfl,rfl,gN.of V6,gG rfl Rq,b,_,_,_,rfl,rfl,gN.of FK,gG (j:=0) rfl rfl,_,rfl,L2.jL,λl1 N6=>?_⟩
     have Oq:gv y8 (upd y8 l1 (.lst [.str x])):=(gv.refl y8).new N6
     have Pp:(upd y8 l1 (.lst [.str x])) l1=some (.lst [.str x]):=b_
     generalize upd y8 l1 (.lst [.str x])=Ib at Oq Pp
     have aar:=Oq _ _ (je _ _ (V5.1 _ _ own.hh))
     refine⟨h,l1,_,_,rfl,rfl,aar,Pp,by rw[O7];show _+1<=_;omega,λcc Si=>?_⟩
     rw[show gw (D.has st)++[V.str x]=gw (D2.has st) by rw[VY,iY]]
     have Jz:=Oq.new (o:=.lst (gw (D2.has st))) Si
     have u12:(upd Ib cc (.lst (gw (D2.has st)))) cc=some (.lst (gw (D2.has st))):=b_
     have hcb:cc≠b:=(gr (Oq _ _ FK) Si).symm
     have Wz:cc≠sv:=(gr (Oq _ _ Me) Si).symm
     generalize upd Ib cc (.lst (gw (D2.has st)))=FV at Jz u12
     have DG:=V5.trans (.of (qf Jz))
     have aas:=je _ _ (DG.1 _ _ own.hh)
     have V7:=Jz _ _ FK
     have RY:=(X7.same (R0.trans Jz)).ls (o:=.lst [.ref cc,.ref sv]) V7 aas
     refine⟨_,rfl,_,rfl,Bf,_,_,_,rfl,rfl,gN.of (Jz _ _ V6),gG rfl Rq,b,_,_,0,rfl,rfl,V7,wU rfl (by show 0<2;decide),?_⟩
     show _
     have V8:nq b sv (upd FV b (.lst [.ref cc,.ref sv]))=nq b sv FV:=HU (.inl rfl)
     have u13:(upd FV b (.lst [.ref cc,.ref sv])) b=some (.lst [.ref cc,.ref sv]):=b_
     have V9:(upd FV b (.lst [.ref cc,.ref sv])) sv=some (.lst us):=by rw[d_ own.ne.symm];exact Jz _ _ Me
     have L5:gv H (upd FV b (.lst [.ref cc,.ref sv])):=((s7.trans R0).trans Jz).upd hHb
     have aat:(upd FV b (.lst [.ref cc,.ref sv])) nw=some (.lst [.ref h',.ref p9]):=je (x:=b) (y:=sv) _ _ (by rw[V8];exact qf Jz _ _ (nf V3 SQ))
     have p13:(upd FV b (.lst [.ref cc,.ref sv])) p9=some (.lst Pw):=je (x:=b) (y:=sv) _ _ (by rw[V8];exact qf Jz _ _ (nf V4 u9))
     have aau:(upd FV b (.lst [.ref cc,.ref sv])) Bf=some (.lst (es.map λe=>V.ref e.1)):=je (x:=b) (y:=sv) _ _ (by rw[V8];exact DG.1 _ _ kBh)
     refine⟨_,rfl,nw,_,_,_,rfl,rfl,gN.of aat,gG (j:=1) rfl rfl,_,rfl,p9,_,_,_,rfl,rfl,gN.of p13,gG rfl hvn,_,rfl,_,rfl,Bf,_,_,_,rfl,rfl,gN.of aau,gG rfl Rq,b,_,_,_,rfl,rfl,gN.of u13,gG (j:=1) rfl rfl,_,rfl,sv,_,_,ai,rfl,rfl,V9,wU rfl (by rw[aav own.hu];exact ha2),?_⟩
     have e14:nq b sv (upd (upd FV b (.lst [.ref cc,.ref sv])) sv (.lst (us.set ai vn)))=nq b sv FV:=(HU (.inr rfl)).trans V8
     have b14:(upd (upd FV b (.lst [.ref cc,.ref sv])) sv (.lst (us.set ai vn))) b=some (.lst [.ref cc,.ref sv]):=by rw[d_ own.ne];exact u13
     have X13:=RY.ls (o:=.lst (us.set ai vn)) (u:=u0) (r:=r0) (l:=l0) (V9.trans (abe (λz=>some (HO.lst z)) eus)) (je (x:=b) (y:=sv) _ _ (by rw[V8];exact DG.1 _ _ hu0))
     have sb:gv (nq b sv FV) (upd (upd FV b (.lst [.ref cc,.ref sv])) sv (.lst (us.set ai vn))):=e14▸je
     refine⟨_,_,rfl,L5.upd hHs,X13,(e14▸DG:LT (nq b sv H4) (nq b sv (upd (upd FV b (.lst [.ref cc,.ref sv])) sv (.lst (us.set ai vn))))),b14,b_,λz=>absurd z (by omega),(rp.same (qf Jz)).same sb,Dx b14 (sb _ _ (by rw[mx hcb Wz];exact u12)) b_ (LI (Jo ns) Jx (Paired.i3 own.hu λv f m=>(m.lt DG).lt (.of sb)) ((mvn.lt (.of (qf Jz))).lt (.of sb)) V0)⟩
    ·have hz:i≠ci:=λe=>hz (by rw[e,<-Z1];exact X0 rfl)
     refine⟨lb,ls,rfl,s7.trans R0,X7.same R0,V5,FK,Me,λz=>hle (by omega),rp.same je,?_⟩
     rw[VZ so Jy λz=>hz (LH (Ci ns) L7 (z▸uH))]
     exact((Z6.Ko i ci e _ so hz hei RX L7).lt V5).same je
   rintro Z Ib ⟨lb,ls,rfl,s11,VR,Md,FK,Me,hle,r1,r2⟩
   have SD:(es.map λe=>V.ref e.1)[i]?=some (V.ref e.1):=by rw[aao,hei];rfl
   exact⟨_,rfl,_,rfl,_,rfl,Bf,_,_,_,rfl,rfl,gN.of (je _ _ (Md.1 _ _ kBh)),gG rfl SD,_,⟨nw,e.1,rfl,rfl⟩,Rep.eq (r1.mono (by decide)) (r2.mono (by decide)),_,rfl,jf ⟨_,_,lb,ls,rfl,s11,VR,Md,FK,Me,hle⟩⟩
  rintro Z H7 ⟨FN,Hd,lb,ls,rfl,s7,X7,Pu,FK,Me,hle⟩
  exact⟨_,_,_,_,_,_,_,_,_,_,_,_,_,_,_,D2,rfl,s7,je _ _ (Pu.1 _ _ kbh),je _ _ (Pu.1 _ _ ksh),je _ _ (Pu.1 _ _ kfh),X7,I6,z6,RZ,V1⟩
 ·rintro Z H2 ⟨v3,v4,v5,v6,v7,v8,v9,v10,v11,Mb,Hc,FN,Hd,FU,Ic,D,rfl,s2,kb,RV,Om,X2,I2,z2,DA,RW⟩
  exact q H2
end
end PK
namespace TW
open PySem PySem.W L2 PK
noncomputable section
noncomputable abbrev S:=Str.ofString
noncomputable abbrev ob:=Obj.mk
noncomputable abbrev v(x:String)(t:Nat):Value:=.str (S x) t
noncomputable abbrev r:=Value.ref
noncomputable abbrev vi:=Value.int
noncomputable abbrev i(n:Int):=Value.int n 0
noncomputable abbrev vn:=Value.none
noncomputable abbrev w:=Value.type
noncomputable abbrev b:=Value.builtin
noncomputable abbrev vl:=Value.bool
noncomputable abbrev cl:=ClassData.mk
noncomputable abbrev k:=@some Value
noncomputable abbrev d(P:Params)(x:String)(t:Nat)(y:Value):DictEntry:=.mk (PyData.keyHash P (S x)) (v x t) y
noncomputable abbrev x:=top
noncomputable abbrev y(i j:Nat):=inClass (top i) j
noncomputable abbrev n:=BT.node
noncomputable abbrev z:=BT.nil
noncomputable abbrev f(o:Obj):BT:=n o z z
noncomputable abbrev of(c:String)(l:List Value):Obj:=ob (w c) none (.fields l.toArray) #[]
noncomputable abbrev tp(l:List Value):Obj:=ob (w "tuple") none (.seq l.toArray 0) #[]
noncomputable abbrev fl(l:List Value):Obj:=ob vn none (.fields l.toArray) #[]
noncomputable abbrev l3(l:List (Int×Int×Addr)):Obj:=fl (l.flatMap λ(a,b,c)=>[i a,i b,r c])
noncomputable abbrev fd(n q:Str)(st:Stmt)(g:Addr)(c:List (Str×Addr))(d kd doc pm:Value)(an:Option Addr)(co ct:Value)(b:Addr):FuncData:=⟨n,q,oC st,.stmts (k_ st),gp st,g,c,d,kd,doc,pm,an,co,ct,b⟩
noncomputable abbrev fn(a b:String)(st:Stmt)(m:String)(t:Nat)(c:Addr):Obj:=ob (w "function") none (.func (fd (S a) (S b) st 3 [] vn vn vn (v m t) none (r c) vn 0)) #[]
noncomputable abbrev fv(a b:String)(st:Stmt):Obj:=ob vn none (.func (fd (S a) (S b) st 0 [] vn vn vn vn none vn vn 0)) #[]
noncomputable abbrev dt(l:List DictEntry)(c:Nat):Obj:=ob (w "dict") none (.dict l.toArray c) #[]
noncomputable abbrev fr(l:List (Option Value)):Obj:=ob (w "frame") none .plain l.toArray
noncomputable abbrev ty(c:ClassData)(l:List (Option Value)):Obj:=ob (w "type") none (.cls c) l.toArray
noncomputable abbrev o0:Addr->Value|0=>vn|a+1=>r (a+1)
noncomputable abbrev co(a b:String)(t:Nat)(l p q:Int)(c:Addr)(g:Int)(ys:List Addr)(u:Nat):Obj:=of "code" ([v a t,v b (t+1),v "/claim/cut.py" (t+2),i l,i p,i 0,i 0,i q,r c,vl true,i g]++ys.map o0++[i u,i l,v "/claim/cut.py" (u+1)])
def hl(P:Params):List DictEntry:=[(d P "__doc__" 166 vn),(d P "__package__" 167 vn),(d P "__loader__" 168 (b "__main__.__loader__#opaque")),(d P "__spec__" 169 vn),(d P "__annotations__" 170 (r 6)),(d P "__builtins__" 171 (r 4)),(d P "__file__" 173 (v "/claim/cut.py" 172)),(d P "__cached__" 174 vn),(d P "_wall" 193 (r 21)),(d P "counts_with" 206 (r 28)),(d P "most_pairs" 212 (r 33)),(d P "place_from" 222 (r 40)),(d P "kept" 235 (r 47)),(d P "PatchError" 255 (r 57))]
def hm(P:Params):List DictEntry:=hl P++[(d P "BadName" 271 (r 70))]
def hn(P:Params):List DictEntry:=hm P++[(d P "NameTaken" 287 (r 82))]
def ho(P:Params):List DictEntry:=hn P++[(d P "NoStore" 303 (r 94))]
def hp(P:Params):List DictEntry:=ho P++[(d P "NoPatch" 319 (r 106))]
def hq(P:Params):List DictEntry:=hp P++[(d P "NoLine" 335 (r 118))]
def hr(P:Params):List DictEntry:=hq P++[(d P "Unsettled" 351 (r 130))]
def hs(P:Params):List DictEntry:=hr P++[(d P "Same" 367 (r 142))]
def ht(P:Params):List DictEntry:=hs P++[(d P "Leant" 383 (r 154))]
def hu(P:Params):List DictEntry:=ht P++[(d P "Line" 420 (r 173))]
def hv(P:Params):List DictEntry:=hu P++[(d P "Patch" 457 (r 194)),(d P "lines_named_by" 463 (r 203)),(d P "leans_straight_on" 469 (r 208)),(d P "live_patches" 479 (r 215)),(d P "lines_put" 489 (r 222)),(d P "standing_lines" 495 (r 227)),(d P "files_with_lines" 501 (r 232))]
def hw(P:Params):List DictEntry:=hv P++[(d P "straight_ahead" 510 (r 239)),(d P "joined" 520 (r 246)),(d P "all_ahead" 526 (r 251)),(d P "first_free" 534 (r 258)),(d P "row_of" 540 (r 263))]
def hx(P:Params):List DictEntry:=hw P++[(d P "Sight" 604 (r 308)),(d P "NAME_SIGNS" 608 (v "abcdefghijklmnopqrstuvwxyz0123456789" 607)),(d P "LONGEST_NAME" 610 (vi 12 609))]
def hy(P:Params):List DictEntry:=hx P++[(d P "check_name" 618 (r 319)),(d P "check_places" 628 (r 326)),(d P "kept_behind" 638 (r 333)),(d P "new_lines" 652 (r 340)),(d P "changing_patch" 658 (r 345))]
def hz(P:Params):List DictEntry:=hy P++[(d P "Desk" 861 (r 502))]
def hA(P:Params):List DictEntry:=hz P++[(d P "_law_cell_at" 871 (r 513)),(d P "_law_draw" 881 (r 520)),(d P "_law_name" 895 (r 527)),(d P "_law_text" 901 (r 532)),(d P "_law_edit" 915 (r 539)),(d P "_law_deed" 921 (r 544)),(d P "_law_desk" 927 (r 549)),(d P "_law_whole" 934 (r 556)),(d P "_law_row_form" 942 (r 563)),(d P "_law_pairs_form" 950 (r 570)),(d P "_law_seen" 956 (r 575)),(d P "_law_cut_right" 962 (r 580)),(d P "law" 968 (r 585))]
def aa:Obj:=tp []
def ab:Obj:=fl []
def ac:Obj:=of "builtin_function_or_method" [(b "type.__prepare__"),(w "type")]
def ad:Obj:=tp [(r 57)]
def ae:Obj:=of "code" [(v "<module>" 182),(v "<module>" 183),(v "/claim/cut.py" 184),(i 1),(i 0),(i 0),(i 0),(i 0),(r 11),(vl false),(i 181),(r 12),vn,vn,vn,vn,(i 185),(i 1),(v "/claim/cut.py" 186)]
def af:Obj:=fr [(k (r 13)),(k (r 3)),(k (r 3)),none,(k (v "__main__" 164)),none,(k (r 0))]
def ag:Obj:=fn "kept" "kept" (x 5) "patchkin.differ" 194 46
def ai:Obj:=co "place_from" "place_from" 213 18 3 3 34 181 [35,0,36,37,38] 220
def aj:Obj:=co "counts_with" "counts_with" 196 5 3 3 22 181 [23,0,24,25,26] 204
def al:Obj:=tp [(v "old" 226),(v "new" 227),(v "table" 228),(v "pairs" 229),(v "start" 230),(v "first" 231),(v "second" 232)]
def am:Obj:=tp [(v "k" 190)]
def an:Obj:=fn "most_pairs" "most_pairs" (x 3) "patchkin.differ" 194 32
def ao:Obj:=fn "_wall" "_wall" (x 0) "__main__" 164 20
def ap:Obj:=co "most_pairs" "most_pairs" 207 13 2 3 29 181 [30,0,0,0,31] 210
def aq:Obj:=tp [(w "ValueError")]
def ar:Obj:=tp [(v "text" 199),(v "new" 200),(v "below" 201),(v "counts" 202),(v "second" 203)]
def au:Obj:=fn "place_from" "place_from" (x 4) "patchkin.differ" 194 39
def av(P:Params):Obj:=dt [(d P "__module__" 245 (v "patchkin.errors" 236)),(d P "__firstlineno__" 249 (vi 34 248)),(d P "__static_attributes__" 250 (r 55)),(d P "__weakref__" 252 (r 58)),(d P "__doc__" 253 vn)] 3
def aw:Obj:=co "_wall" "_wall" 187 1 1 3 15 181 [16,0,17,18,19] 191
def ax:Obj:=tp [(v "texts" 216),(v "text" 217),(v "start" 218),(v "place" 219)]
def ay:Obj:=fn "counts_with" "counts_with" (x 2) "patchkin.differ" 194 27
def az:Obj:=of "getset_descriptor" [(v "__weakref__" 251),(r 57),(b "ExceptionGroup.__weakref__"),vn]
def aA:Obj:=co "kept" "kept" 223 23 2 3 41 181 [42,0,43,44,45] 233
def aB:Obj:=fv "most_pairs" "most_pairs" (x 3)
def aC:Obj:=fv "_wall" "_wall" (x 0)
def aD:Obj:=of "super" [(r 57),(r 57),(r 57)]
def aE(P:Params):Obj:=dt [(d P "__module__" 263 (v "patchkin.errors" 236)),(d P "__firstlineno__" 267 (vi 36 266)),(d P "__static_attributes__" 268 (r 68)),(d P "__doc__" 269 vn)] 2
def aF:Obj:=of "code" [(v "PatchError" 240),(v "PatchError" 241),(v "/claim/cut.py" 242),(i 34),(i 0),(i 0),(i 0),(i 0),(r 51),(vl false),(i 181),(r 52),vn,vn,vn,vn,(i 243),(i 34),(v "/claim/cut.py" 244)]
def aG:Obj:=fv "kept" "kept" (x 5)
def aH:Obj:=of "builtin_function_or_method" [(b "object.__init_subclass__"),(r 57)]
def aI(P:Params):Obj:=dt [(d P "__module__" 245 (v "patchkin.errors" 236)),(d P "__qualname__" 247 (v "PatchError" 246)),(d P "__firstlineno__" 249 (vi 34 248)),(d P "__static_attributes__" 250 (r 55))] 4
def aJ:Obj:=fv "counts_with" "counts_with" (x 2)
def aK:Obj:=fv "place_from" "place_from" (x 4)
def aL:Obj:=ty (cl (S "BadName") [(r 57)] [(r 70),(r 57),(w "ValueError"),(w "Exception"),(w "BaseException"),(w "object")] 69 (S "BadName") true [] [] false none false) [(k (r 61)),none,(k (v "BadName" 256)),(k (v "BadName" 264)),(k (b "ValueError.__new__")),(k (vl true))]
def aM:Obj:=fr [(k (r 53)),(k (r 3)),(k (r 50)),none,(k (v "patchkin.errors" 236)),none,(k (r 0))]
def aN(P:Params):Obj:=dt [(d P "__module__" 263 (v "patchkin.errors" 236)),(d P "__qualname__" 265 (v "BadName" 264)),(d P "__firstlineno__" 267 (vi 36 266)),(d P "__static_attributes__" 268 (r 68))] 4
def aO:Obj:=of "super" [(r 70),(r 70),(r 70)]
def aP:Obj:=fr [(k (r 66)),(k (r 3)),(k (r 63)),none,(k (v "patchkin.errors" 236)),none,(k (r 0))]
def aQ(P:Params):Obj:=dt [(d P "__module__" 279 (v "patchkin.errors" 236)),(d P "__firstlineno__" 283 (vi 38 282)),(d P "__static_attributes__" 284 (r 80)),(d P "__doc__" 285 vn)] 2
def aR:Obj:=of "builtin_function_or_method" [(b "object.__init_subclass__"),(r 70)]
def aS:Obj:=of "code" [(v "BadName" 258),(v "BadName" 259),(v "/claim/cut.py" 260),(i 36),(i 0),(i 0),(i 0),(i 0),(r 64),(vl false),(i 181),(r 65),vn,vn,vn,vn,(i 261),(i 36),(v "/claim/cut.py" 262)]
def aT:Obj:=ty (cl (S "NameTaken") [(r 57)] [(r 82),(r 57),(w "ValueError"),(w "Exception"),(w "BaseException"),(w "object")] 81 (S "NameTaken") true [] [] false none false) [(k (r 73)),none,(k (v "NameTaken" 272)),(k (v "NameTaken" 280)),(k (b "ValueError.__new__")),(k (vl true))]
def aU:Obj:=fr [(k (r 78)),(k (r 3)),(k (r 75)),none,(k (v "patchkin.errors" 236)),none,(k (r 0))]
def aV:Obj:=of "super" [(r 82),(r 82),(r 82)]
def aW(P:Params):Obj:=dt [(d P "__module__" 279 (v "patchkin.errors" 236)),(d P "__qualname__" 281 (v "NameTaken" 280)),(d P "__firstlineno__" 283 (vi 38 282)),(d P "__static_attributes__" 284 (r 80))] 4
def aX:Obj:=of "builtin_function_or_method" [(b "object.__init_subclass__"),(r 82)]
def aY:Obj:=of "code" [(v "NameTaken" 274),(v "NameTaken" 275),(v "/claim/cut.py" 276),(i 38),(i 0),(i 0),(i 0),(i 0),(r 76),(vl false),(i 181),(r 77),vn,vn,vn,vn,(i 277),(i 38),(v "/claim/cut.py" 278)]
def aZ(P:Params):Obj:=dt [(d P "__module__" 295 (v "patchkin.errors" 236)),(d P "__firstlineno__" 299 (vi 40 298)),(d P "__static_attributes__" 300 (r 92)),(d P "__doc__" 301 vn)] 2
def a0:Obj:=ty (cl (S "NoStore") [(r 57)] [(r 94),(r 57),(w "ValueError"),(w "Exception"),(w "BaseException"),(w "object")] 93 (S "NoStore") true [] [] false none false) [(k (r 85)),none,(k (v "NoStore" 288)),(k (v "NoStore" 296)),(k (b "ValueError.__new__")),(k (vl true))]
def a1:Obj:=of "super" [(r 94),(r 94),(r 94)]
def a2(P:Params):Obj:=dt [(d P "__module__" 295 (v "patchkin.errors" 236)),(d P "__qualname__" 297 (v "NoStore" 296)),(d P "__firstlineno__" 299 (vi 40 298)),(d P "__static_attributes__" 300 (r 92))] 4
def a3:Obj:=fr [(k (r 90)),(k (r 3)),(k (r 87)),none,(k (v "patchkin.errors" 236)),none,(k (r 0))]
def a4(P:Params):Obj:=dt [(d P "__module__" 311 (v "patchkin.errors" 236)),(d P "__firstlineno__" 315 (vi 42 314)),(d P "__static_attributes__" 316 (r 104)),(d P "__doc__" 317 vn)] 2
def a5:Obj:=of "builtin_function_or_method" [(b "object.__init_subclass__"),(r 94)]
def a6:Obj:=ty (cl (S "NoPatch") [(r 57)] [(r 106),(r 57),(w "ValueError"),(w "Exception"),(w "BaseException"),(w "object")] 105 (S "NoPatch") true [] [] false none false) [(k (r 97)),none,(k (v "NoPatch" 304)),(k (v "NoPatch" 312)),(k (b "ValueError.__new__")),(k (vl true))]
def a7:Obj:=of "code" [(v "NoStore" 290),(v "NoStore" 291),(v "/claim/cut.py" 292),(i 40),(i 0),(i 0),(i 0),(i 0),(r 88),(vl false),(i 181),(r 89),vn,vn,vn,vn,(i 293),(i 40),(v "/claim/cut.py" 294)]
def a8:Obj:=fr [(k (r 102)),(k (r 3)),(k (r 99)),none,(k (v "patchkin.errors" 236)),none,(k (r 0))]
def a9(P:Params):Obj:=dt [(d P "__module__" 311 (v "patchkin.errors" 236)),(d P "__qualname__" 313 (v "NoPatch" 312)),(d P "__firstlineno__" 315 (vi 42 314)),(d P "__static_attributes__" 316 (r 104))] 4
def ba:Obj:=of "super" [(r 106),(r 106),(r 106)]
def bb(P:Params):Obj:=dt [(d P "__module__" 327 (v "patchkin.errors" 236)),(d P "__firstlineno__" 331 (vi 44 330)),(d P "__static_attributes__" 332 (r 116)),(d P "__doc__" 333 vn)] 2
def bc:Obj:=of "builtin_function_or_method" [(b "object.__init_subclass__"),(r 106)]
def be:Obj:=of "code" [(v "NoPatch" 306),(v "NoPatch" 307),(v "/claim/cut.py" 308),(i 42),(i 0),(i 0),(i 0),(i 0),(r 100),(vl false),(i 181),(r 101),vn,vn,vn,vn,(i 309),(i 42),(v "/claim/cut.py" 310)]
def bf:Obj:=ty (cl (S "NoLine") [(r 57)] [(r 118),(r 57),(w "ValueError"),(w "Exception"),(w "BaseException"),(w "object")] 117 (S "NoLine") true [] [] false none false) [(k (r 109)),none,(k (v "NoLine" 320)),(k (v "NoLine" 328)),(k (b "ValueError.__new__")),(k (vl true))]
def bg(P:Params):Obj:=dt [(d P "__module__" 327 (v "patchkin.errors" 236)),(d P "__qualname__" 329 (v "NoLine" 328)),(d P "__firstlineno__" 331 (vi 44 330)),(d P "__static_attributes__" 332 (r 116))] 4
def bh:Obj:=of "super" [(r 118),(r 118),(r 118)]
def bi:Obj:=fr [(k (r 114)),(k (r 3)),(k (r 111)),none,(k (v "patchkin.errors" 236)),none,(k (r 0))]
def bj(P:Params):Obj:=dt [(d P "__module__" 343 (v "patchkin.errors" 236)),(d P "__firstlineno__" 347 (vi 46 346)),(d P "__static_attributes__" 348 (r 128)),(d P "__doc__" 349 vn)] 2
def bl:Obj:=of "builtin_function_or_method" [(b "object.__init_subclass__"),(r 118)]
def bm:Obj:=ty (cl (S "Unsettled") [(r 57)] [(r 130),(r 57),(w "ValueError"),(w "Exception"),(w "BaseException"),(w "object")] 129 (S "Unsettled") true [] [] false none false) [(k (r 121)),none,(k (v "Unsettled" 336)),(k (v "Unsettled" 344)),(k (b "ValueError.__new__")),(k (vl true))]
def bn:Obj:=of "code" [(v "NoLine" 322),(v "NoLine" 323),(v "/claim/cut.py" 324),(i 44),(i 0),(i 0),(i 0),(i 0),(r 112),(vl false),(i 181),(r 113),vn,vn,vn,vn,(i 325),(i 44),(v "/claim/cut.py" 326)]
def bo:Obj:=fr [(k (r 126)),(k (r 3)),(k (r 123)),none,(k (v "patchkin.errors" 236)),none,(k (r 0))]
def bp:Obj:=of "super" [(r 130),(r 130),(r 130)]
def bq(P:Params):Obj:=dt [(d P "__module__" 343 (v "patchkin.errors" 236)),(d P "__qualname__" 345 (v "Unsettled" 344)),(d P "__firstlineno__" 347 (vi 46 346)),(d P "__static_attributes__" 348 (r 128))] 4
def br(P:Params):Obj:=dt [(d P "__module__" 359 (v "patchkin.errors" 236)),(d P "__firstlineno__" 363 (vi 48 362)),(d P "__static_attributes__" 364 (r 140)),(d P "__doc__" 365 vn)] 2
def bt:Obj:=of "builtin_function_or_method" [(b "object.__init_subclass__"),(r 130)]
def bu:Obj:=ty (cl (S "Same") [(r 57)] [(r 142),(r 57),(w "ValueError"),(w "Exception"),(w "BaseException"),(w "object")] 141 (S "Same") true [] [] false none false) [(k (r 133)),none,(k (v "Same" 352)),(k (v "Same" 360)),(k (b "ValueError.__new__")),(k (vl true))]
def bv:Obj:=of "code" [(v "Unsettled" 338),(v "Unsettled" 339),(v "/claim/cut.py" 340),(i 46),(i 0),(i 0),(i 0),(i 0),(r 124),(vl false),(i 181),(r 125),vn,vn,vn,vn,(i 341),(i 46),(v "/claim/cut.py" 342)]
def bw:Obj:=of "super" [(r 142),(r 142),(r 142)]
def bz(P:Params):Obj:=dt [(d P "__module__" 359 (v "patchkin.errors" 236)),(d P "__qualname__" 361 (v "Same" 360)),(d P "__firstlineno__" 363 (vi 48 362)),(d P "__static_attributes__" 364 (r 140))] 4
def bA:Obj:=fr [(k (r 138)),(k (r 3)),(k (r 135)),none,(k (v "patchkin.errors" 236)),none,(k (r 0))]
def bB:Obj:=of "builtin_function_or_method" [(b "object.__init_subclass__"),(r 142)]
def bC:Obj:=of "code" [(v "Same" 354),(v "Same" 355),(v "/claim/cut.py" 356),(i 48),(i 0),(i 0),(i 0),(i 0),(r 136),(vl false),(i 181),(r 137),vn,vn,vn,vn,(i 357),(i 48),(v "/claim/cut.py" 358)]
def bE:Obj:=ty (cl (S "PatchError") [(w "ValueError")] [(r 57),(w "ValueError"),(w "Exception"),(w "BaseException"),(w "object")] 56 (S "PatchError") true [] [(r 70),(r 82),(r 94),(r 106),(r 118),(r 130),(r 142),(r 154)] false none false) [(k (r 48)),none,(k (v "PatchError" 238)),(k (v "PatchError" 246)),(k (b "ValueError.__new__")),(k (vl true))]
def bF(P:Params):Obj:=dt [(d P "__module__" 375 (v "patchkin.errors" 236)),(d P "__firstlineno__" 379 (vi 50 378)),(d P "__static_attributes__" 380 (r 152)),(d P "__doc__" 381 vn)] 2
def bG:Obj:=ty (cl (S "Leant") [(r 57)] [(r 154),(r 57),(w "ValueError"),(w "Exception"),(w "BaseException"),(w "object")] 153 (S "Leant") true [] [] false none false) [(k (r 145)),none,(k (v "Leant" 368)),(k (v "Leant" 376)),(k (b "ValueError.__new__")),(k (vl true))]
def bH:Obj:=of "getset_descriptor" [(v "__weakref__" 416),(r 173),(b "ExceptionGroup.__weakref__"),vn]
def bI:Obj:=fr [(k (r 150)),(k (r 3)),(k (r 147)),none,(k (v "patchkin.errors" 236)),none,(k (r 0))]
def bJ(P:Params):Obj:=dt [(d P "__module__" 375 (v "patchkin.errors" 236)),(d P "__qualname__" 377 (v "Leant" 376)),(d P "__firstlineno__" 379 (vi 50 378)),(d P "__static_attributes__" 380 (r 152))] 4
def bL:Obj:=tp [(v "lower_name" 409),(v "name" 410),(v "text" 411),(v "upper_name" 412)]
def bM:Obj:=of "super" [(r 154),(r 154),(r 154)]
def bN:Obj:=co "__init__" "Line.__init__" 398 55 5 3 164 181 [165,0,166,167,168] 406
def bO:Obj:=ty (cl (S "Line") [(w "object")] [(r 173),(w "object")] 172 (S "Line") true [] [] false none false) [none,none,(k (v "Line" 386)),(k (v "Line" 394)),(k (b "object.__new__")),(k (vl true))]
def bP(P:Params):Obj:=dt [(d P "__module__" 393 (v "patchkin.order" 384)),(d P "__firstlineno__" 397 (vi 53 396)),(d P "__init__" 408 (r 170)),(d P "__static_attributes__" 413 (r 171)),(d P "__dict__" 415 (r 174)),(d P "__weakref__" 417 (r 175)),(d P "__doc__" 418 vn)] 4
def bQ:Obj:=of "builtin_function_or_method" [(b "object.__init_subclass__"),(r 154)]
def bR:Obj:=fn "__init__" "Line.__init__" (y 17 0) "patchkin.order" 384 169
def bS:Obj:=tp [(v "self" 401),(v "name" 402),(v "text" 403),(v "upper_name" 404),(v "lower_name" 405)]
def bT:Obj:=of "code" [(v "Leant" 370),(v "Leant" 371),(v "/claim/cut.py" 372),(i 50),(i 0),(i 0),(i 0),(i 0),(r 148),(vl false),(i 181),(r 149),vn,vn,vn,vn,(i 373),(i 50),(v "/claim/cut.py" 374)]
def bU:Obj:=of "getset_descriptor" [(v "__dict__" 414),(r 173),(b "function.__dict__"),(b "function.__dict__#set")]
def bV:Obj:=fn "__init__" "Patch.__init__" (y 18 0) "patchkin.order" 384 190
def bW(P:Params):Obj:=dt [(d P "__module__" 393 (v "patchkin.order" 384)),(d P "__qualname__" 395 (v "Line" 394)),(d P "__firstlineno__" 397 (vi 53 396)),(d P "__init__" 408 (r 170)),(d P "__static_attributes__" 413 (r 171))] 5
def bX:Obj:=co "leans_straight_on" "leans_straight_on" 464 74 1 3 204 181 [205,0,0,0,206] 467
def bY:Obj:=co "files_with_lines" "files_with_lines" 496 101 1 3 228 181 [229,0,0,0,230] 499
def bZ:Obj:=fn "live_patches" "live_patches" (x 21) "patchkin.order" 384 214
def b0:Obj:=of "getset_descriptor" [(v "__dict__" 451),(r 194),(b "function.__dict__"),(b "function.__dict__#set")]
def b1:Obj:=fr [(k (r 162)),(k (r 3)),(k (r 159)),none,(k (v "patchkin.order" 384)),none,(k (r 0))]
def b2:Obj:=fn "standing_lines" "standing_lines" (x 23) "patchkin.order" 384 226
noncomputable def b3:Obj:=tp [(v "patches" 473),(v "taken_back" 474),(v "live" 475),(v "patch" 476)]
def b4:Obj:=fn "lines_named_by" "lines_named_by" (x 19) "patchkin.order" 384 202
def b5:Obj:=tp [(v "self" 436),(v "name" 437),(v "file" 438),(v "puts" 439),(v "cuts" 440),(v "other" 441)]
def b6(P:Params):Obj:=dt [(d P "__module__" 428 (v "patchkin.order" 384)),(d P "__firstlineno__" 432 (vi 60 431)),(d P "__init__" 444 (r 191)),(d P "__static_attributes__" 450 (r 192)),(d P "__dict__" 452 (r 195)),(d P "__weakref__" 454 (r 196)),(d P "__doc__" 455 vn)] 4
def b7:Obj:=l3 [(55,4,169)]
def b8:Obj:=of "builtin_function_or_method" [(b "object.__init_subclass__"),(r 173)]
def b9:Obj:=co "lines_put" "lines_put" 480 88 2 3 216 181 [217,0,218,219,220] 487
def ca:Obj:=tp [(v "cuts" 445),(v "file" 446),(v "name" 447),(v "other" 448),(v "puts" 449)]
def cb:Obj:=fn "leans_straight_on" "leans_straight_on" (x 20) "patchkin.order" 384 207
def cc:Obj:=of "super" [(r 173),(r 173),(r 173)]
def cd:Obj:=fv "__init__" "Line.__init__" (y 17 0)
def ce:Obj:=fn "files_with_lines" "files_with_lines" (x 24) "patchkin.order" 384 231
def cf:Obj:=of "getset_descriptor" [(v "__weakref__" 453),(r 194),(b "ExceptionGroup.__weakref__"),vn]
def cg:Obj:=ty (cl (S "Patch") [(w "object")] [(r 194),(w "object")] 193 (S "Patch") true [] [] false none false) [none,none,(k (v "Patch" 421)),(k (v "Patch" 429)),(k (b "object.__new__")),(k (vl true))]
def ch:Obj:=of "code" [(v "Line" 388),(v "Line" 389),(v "/claim/cut.py" 390),(i 53),(i 0),(i 0),(i 0),(i 0),(r 160),(vl false),(i 181),(r 161),vn,vn,vn,vn,(i 391),(i 53),(v "/claim/cut.py" 392)]
def ci:Obj:=co "standing_lines" "standing_lines" 490 94 2 3 223 181 [224,0,0,0,225] 493
def cj:Obj:=co "lines_named_by" "lines_named_by" 458 68 1 3 199 181 [200,0,0,0,201] 461
def ck:Obj:=tp [(v "patches" 483),(v "file" 484),(v "lines" 485),(v "patch" 486)]
def cm:Obj:=co "live_patches" "live_patches" 470 79 1 3 209 181 [210,0,211,212,213] 477
def cn:Obj:=fn "lines_put" "lines_put" (x 22) "patchkin.order" 384 221
def cp:Obj:=co "__init__" "Patch.__init__" 433 62 6 3 185 181 [186,0,187,188,189] 442
def cq:Obj:=of "code" [(v "Patch" 423),(v "Patch" 424),(v "/claim/cut.py" 425),(i 60),(i 0),(i 0),(i 0),(i 0),(r 181),(vl false),(i 181),(r 182),vn,vn,vn,vn,(i 426),(i 60),(v "/claim/cut.py" 427)]
def cr:Obj:=fv "standing_lines" "standing_lines" (x 23)
def cs:Obj:=fv "lines_named_by" "lines_named_by" (x 19)
def ct:Obj:=of "super" [(r 194),(r 194),(r 194)]
def cu:Obj:=fv "live_patches" "live_patches" (x 21)
def cv:Obj:=fv "__init__" "Patch.__init__" (y 18 0)
def cw:Obj:=fr [(k (r 183)),(k (r 3)),(k (r 180)),none,(k (v "patchkin.order" 384)),none,(k (r 0))]
def cx(P:Params):Obj:=dt [(d P "__module__" 428 (v "patchkin.order" 384)),(d P "__qualname__" 430 (v "Patch" 429)),(d P "__firstlineno__" 432 (vi 60 431)),(d P "__init__" 444 (r 191)),(d P "__static_attributes__" 450 (r 192))] 5
def cy:Obj:=fv "lines_put" "lines_put" (x 22)
def cz:Obj:=of "builtin_function_or_method" [(b "object.__init_subclass__"),(r 194)]
def cA:Obj:=fv "files_with_lines" "files_with_lines" (x 24)
def cB:Obj:=l3 [(62,4,190)]
def cC:Obj:=fv "leans_straight_on" "leans_straight_on" (x 20)
def cD:Obj:=fn "straight_ahead" "straight_ahead" (x 25) "patchkin.order" 384 238
def cE:Obj:=fn "row_of" "row_of" (x 29) "patchkin.order" 384 262
def cF:Obj:=tp [(v "lines" 505),(v "straight" 506),(v "line" 507)]
def cG:Obj:=fn "all_ahead" "all_ahead" (x 27) "patchkin.order" 384 250
def cH:Obj:=co "first_free" "first_free" 527 136 1 3 252 181 [253,0,254,255,256] 532
def cI:Obj:=co "joined" "joined" 511 114 2 3 240 181 [241,0,242,243,244] 518
def cJ:Obj:=fn "first_free" "first_free" (x 28) "patchkin.order" 384 257
def cK:Obj:=tp [(v "names" 514),(v "ahead" 515),(v "found" 516),(v "name" 517)]
def cL:Obj:=co "all_ahead" "all_ahead" 521 120 1 3 247 181 [248,0,0,0,249] 524
def cM:Obj:=co "row_of" "row_of" 535 141 2 3 259 181 [260,0,0,0,261] 538
def cN:Obj:=fn "joined" "joined" (x 26) "patchkin.order" 384 245
def cO:Obj:=co "straight_ahead" "straight_ahead" 502 104 1 3 233 181 [234,0,235,236,237] 508
def cP:Obj:=tp [(v "waiting" 530),(v "name" 531)]
def cQ:Obj:=tp [(v "self" 574),(v "pairs" 575),(v "first" 576),(v "second" 577)]
def cR:Obj:=fn "quarrelling" "Sight.quarrelling" (y 30 2) "patchkin.order" 384 290
def cS(P:Params):Obj:=dt [(d P "__module__" 548 (v "patchkin.order" 384)),(d P "__firstlineno__" 552 (vi 156 551)),(d P "__init__" 561 (r 277)),(d P "is_ahead" 570 (r 284)),(d P "quarrelling" 580 (r 291)),(d P "most_from" 587 (r 298)),(d P "staying" 594 (r 305)),(d P "__static_attributes__" 597 (r 306)),(d P "__dict__" 599 (r 309)),(d P "__weakref__" 601 (r 310)),(d P "__doc__" 602 vn)] 4
def cT:Obj:=co "is_ahead" "Sight.is_ahead" 562 162 3 3 278 181 [279,0,280,281,282] 568
def cU:Obj:=tp [(v "self" 556),(v "patches" 557),(v "file" 558)]
def cV:Obj:=fn "staying" "Sight.staying" (y 30 4) "patchkin.order" 384 304
def cW:Obj:=co "most_from" "Sight.most_from" 581 173 1 3 292 181 [293,0,294,295,296] 585
def cX:Obj:=fv "all_ahead" "all_ahead" (x 27)
def cY:Obj:=fv "row_of" "row_of" (x 29)
def cZ:Obj:=fn "__init__" "Sight.__init__" (y 30 0) "patchkin.order" 384 276
def c0:Obj:=of "getset_descriptor" [(v "__dict__" 598),(r 308),(b "function.__dict__"),(b "function.__dict__#set")]
def c1:Obj:=tp [(v "self" 591)]
def c2:Obj:=fv "straight_ahead" "straight_ahead" (x 25)
def c3:Obj:=fv "first_free" "first_free" (x 28)
def c4:Obj:=co "staying" "Sight.staying" 588 176 1 3 299 181 [300,0,301,302,303] 592
def c5:Obj:=tp [(v "self" 565),(v "first" 566),(v "second" 567)]
def c6:Obj:=co "__init__" "Sight.__init__" 553 158 3 3 271 181 [272,0,273,274,275] 559
def c7:Obj:=ty (cl (S "Sight") [(w "object")] [(r 308),(w "object")] 307 (S "Sight") true [] [] false none false) [none,none,(k (v "Sight" 541)),(k (v "Sight" 549)),(k (b "object.__new__")),(k (vl true))]
def c8:Obj:=fv "joined" "joined" (x 26)
def c9:Obj:=fn "is_ahead" "Sight.is_ahead" (y 30 1) "patchkin.order" 384 283
def da:Obj:=co "quarrelling" "Sight.quarrelling" 571 165 1 3 285 181 [286,0,287,288,289] 578
def db:Obj:=tp [(v "ahead" 595),(v "lines" 596)]
def dc:Obj:=fn "most_from" "Sight.most_from" (y 30 3) "patchkin.order" 384 297
def df:Obj:=tp [(v "self" 584)]
def dg:Obj:=of "getset_descriptor" [(v "__weakref__" 600),(r 308),(b "ExceptionGroup.__weakref__"),vn]
def dh:Obj:=fn "check_name" "check_name" (x 34) "patchkin.desk" 605 318
def di:Obj:=fv "staying" "Sight.staying" (y 30 4)
def dj:Obj:=of "super" [(r 308),(r 308),(r 308)]
def dl:Obj:=fv "__init__" "Sight.__init__" (y 30 0)
def dm:Obj:=co "new_lines" "new_lines" 639 198 3 3 334 181 [335,0,336,337,338] 650
def dn:Obj:=tp [(v "name" 614),(v "sign" 615)]
def dp:Obj:=fv "quarrelling" "Sight.quarrelling" (y 30 2)
def dq:Obj:=tp [(v "kept_names" 632),(v "size" 633),(v "behind" 634),(v "place" 635)]
def dr:Obj:=fn "changing_patch" "changing_patch" (x 38) "patchkin.desk" 605 344
def ds:Obj:=co "check_places" "check_places" 619 187 2 3 320 181 [321,0,322,323,324] 626
def du:Obj:=of "code" [(v "Sight" 543),(v "Sight" 544),(v "/claim/cut.py" 545),(i 156),(i 0),(i 0),(i 0),(i 0),(r 267),(vl false),(i 181),(r 268),vn,vn,vn,vn,(i 546),(i 156),(v "/claim/cut.py" 547)]
def dv:Obj:=fn "kept_behind" "kept_behind" (x 36) "patchkin.desk" 605 332
def dw:Obj:=tp [(v "patch" 642),(v "texts" 643),(v "kept_names" 644),(v "behind" 645),(v "lines" 646),(v "upper_name" 647),(v "place" 648),(v "text" 649)]
def dx:Obj:=fv "most_from" "Sight.most_from" (y 30 3)
def dy:Obj:=co "changing_patch" "changing_patch" 653 209 4 3 341 181 [342,0,0,0,343] 656
def dz:Obj:=of "builtin_function_or_method" [(b "object.__init_subclass__"),(r 308)]
def dA:Obj:=fn "new_lines" "new_lines" (x 37) "patchkin.desk" 605 339
def dB:Obj:=l3 [(158,4,276),(162,4,283),(165,4,290),(173,4,297),(176,4,304)]
def dC:Obj:=co "kept_behind" "kept_behind" 629 193 2 3 327 181 [328,0,329,330,331] 636
def dD:Obj:=tp [(v "places" 622),(v "size" 623),(v "least" 624),(v "place" 625)]
def dE(P:Params):Obj:=dt [(d P "__module__" 548 (v "patchkin.order" 384)),(d P "__qualname__" 550 (v "Sight" 549)),(d P "__firstlineno__" 552 (vi 156 551)),(d P "__init__" 561 (r 277)),(d P "is_ahead" 570 (r 284)),(d P "quarrelling" 580 (r 291)),(d P "most_from" 587 (r 298)),(d P "staying" 594 (r 305)),(d P "__static_attributes__" 597 (r 306))] 9
def dF:Obj:=fv "is_ahead" "Sight.is_ahead" (y 30 1)
def dG:Obj:=fn "check_places" "check_places" (x 35) "patchkin.desk" 605 325
def dH:Obj:=fr [(k (r 269)),(k (r 3)),(k (r 266)),none,(k (v "patchkin.order" 384)),none,(k (r 0))]
def dI:Obj:=co "check_name" "check_name" 611 181 1 3 313 181 [314,0,315,316,317] 616
def dJ:Obj:=fn "__init__" "Desk.__init__" (y 39 0) "patchkin.desk" 605 358
def dK:Obj:=fn "take" "Desk.take" (y 39 8) "patchkin.desk" 605 406
def dL:Obj:=fv "changing_patch" "changing_patch" (x 38)
def dM:Obj:=fn "leans" "Desk.leans" (y 39 10) "patchkin.desk" 605 418
def dN:Obj:=tp [(v "self" 674)]
def dO:Obj:=fn "cut" "Desk.cut" (y 39 6) "patchkin.desk" 605 394
def dP:Obj:=fv "kept_behind" "kept_behind" (x 36)
def dQ:Obj:=co "patches" "Desk.patches" 693 233 1 3 374 181 [375,0,376,377,378] 697
def dR:Obj:=fn "has" "Desk.has" (y 39 4) "patchkin.desk" 605 384
def dS:Obj:=co "back" "Desk.back" 718 259 4 3 396 181 [397,0,398,399,400] 725
def dT:Obj:=tp [(v "self" 689)]
def dU:Obj:=co "told" "Desk.told" 750 287 2 3 420 181 [421,0,422,423,424] 755
def dV:Obj:=co "record" "Desk.record" 706 240 5 3 386 181 [387,0,0,0,388] 709
def dW:Obj:=fn "stores" "Desk.stores" (y 39 2) "patchkin.desk" 605 372
noncomputable def dX:Obj:=co "begin" "Desk.begin" 678 224 2 3 360 181 [361,0,362,363,364] 683
def dY:Obj:=co "drop" "Desk.drop" 734 275 3 3 408 181 [409,0,410,411,412] 741
def dZ:Obj:=fv "check_name" "check_name" (x 34)
def d0:Obj:=co "has" "Desk.has" 700 236 2 3 381 181 [382,0,0,0,383] 703
def d1:Obj:=tp [(v "self" 696)]
def d2:Obj:=fv "check_places" "check_places" (x 35)
def d3:Obj:=co "stores" "Desk.stores" 686 230 1 3 367 181 [368,0,369,370,371] 690
def d4:Obj:=fn "patches" "Desk.patches" (y 39 3) "patchkin.desk" 605 379
def d5:Obj:=co "leans" "Desk.leans" 744 283 2 3 415 181 [416,0,0,0,417] 747
def d6:Obj:=fn "back" "Desk.back" (y 39 7) "patchkin.desk" 605 401
def d7:Obj:=fv "new_lines" "new_lines" (x 37)
def d8:Obj:=co "cut" "Desk.cut" 712 250 5 3 391 181 [392,0,0,0,393] 715
def d9:Obj:=tp [(v "self" 681),(v "store" 682)]
def ea:Obj:=tp [(v "self" 737),(v "store" 738),(v "patch" 739),(v "name" 740)]
def eb:Obj:=fn "record" "Desk.record" (y 39 5) "patchkin.desk" 605 389
def ec:Obj:=tp [(v "self" 753),(v "patch" 754)]
def ed:Obj:=co "__init__" "Desk.__init__" 671 219 1 3 353 181 [354,0,355,356,357] 675
def ee:Obj:=co "take" "Desk.take" 728 265 4 3 403 181 [404,0,0,0,405] 731
def ef:Obj:=tp [(v "self" 721),(v "store" 722),(v "patch" 723),(v "other" 724)]
noncomputable def eg:Obj:=fn "begin" "Desk.begin" (y 39 1) "patchkin.desk" 605 365
def eh:Obj:=fn "drop" "Desk.drop" (y 39 9) "patchkin.desk" 605 413
def ei:Obj:=fv "has" "Desk.has" (y 39 4)
def ej:Obj:=of "code" [(v "Desk" 661),(v "Desk" 662),(v "/claim/cut.py" 663),(i 217),(i 0),(i 0),(i 0),(i 0),(r 349),(vl false),(i 181),(r 350),vn,vn,vn,vn,(i 664),(i 217),(v "/claim/cut.py" 665)]
def ek:Obj:=co "sight_of" "Desk.sight_of" 796 305 3 3 458 181 [459,0,460,461,462] 802
def el:Obj:=tp [(v "self" 843),(v "store" 844),(v "patch" 845),(v "needs" 846),(v "name" 847)]
def em:Obj:=fn "check_store" "Desk.check_store" (y 39 18) "patchkin.desk" 605 470
def en:Obj:=of "getset_descriptor" [(v "__dict__" 855),(r 502),(b "function.__dict__"),(b "function.__dict__#set")]
def eo:Obj:=co "stay" "Desk.stay" 781 299 3 3 446 181 [447,0,448,449,450] 787
def ep:Obj:=tp [(v "self" 808),(v "store" 809)]
def er:Obj:=fv "stores" "Desk.stores" (y 39 2)
noncomputable def es:Obj:=fn "keep" "Desk.keep" (y 39 22) "patchkin.desk" 605 498
def et:Obj:=co "check_new" "Desk.check_new" 830 320 3 3 486 181 [487,0,488,489,490] 837
def eu:Obj:=fv "leans" "Desk.leans" (y 39 10)
def ev:Obj:=tp [(v "self" 824),(v "store" 825),(v "patch" 826)]
def ew:Obj:=fn "files" "Desk.files" (y 39 12) "patchkin.desk" 605 432
def ey:Obj:=fv "cut" "Desk.cut" (y 39 6)
def ez:Obj:=fn "patches_of" "Desk.patches_of" (y 39 16) "patchkin.desk" 605 456
def eA:Obj:=tp [(v "self" 775),(v "store" 776),(v "file" 777)]
def eB:Obj:=fv "__init__" "Desk.__init__" (y 39 0)
def eC:Obj:=fn "check_held" "Desk.check_held" (y 39 20) "patchkin.desk" 605 484
def eD:Obj:=fv "take" "Desk.take" (y 39 8)
def eE:Obj:=co "row" "Desk.row" 766 293 3 3 434 181 [435,0,0,0,436] 769
noncomputable def eF(P:Params):Obj:=dt [(d P "__module__" 666 (v "patchkin.desk" 605)),(d P "__firstlineno__" 670 (vi 217 669)),(d P "__init__" 677 (r 359)),(d P "begin" 685 (r 366)),(d P "stores" 692 (r 373)),(d P "patches" 699 (r 380)),(d P "has" 705 (r 385)),(d P "record" 711 (r 390)),(d P "cut" 717 (r 395)),(d P "back" 727 (r 402)),(d P "take" 733 (r 407)),(d P "drop" 743 (r 414)),(d P "leans" 749 (r 419)),(d P "told" 757 (r 426)),(d P "files" 765 (r 433)),(d P "row" 771 (r 438)),(d P "quarrels" 780 (r 445)),(d P "stay" 789 (r 452)),(d P "patches_of" 795 (r 457)),(d P "sight_of" 804 (r 464)),(d P "check_store" 812 (r 471)),(d P "check_made" 820 (r 478)),(d P "check_held" 829 (r 485)),(d P "check_new" 839 (r 492)),(d P "keep" 850 (r 499)),(d P "__static_attributes__" 854 (r 500)),(d P "__dict__" 856 (r 503)),(d P "__weakref__" 858 (r 504)),(d P "__doc__" 859 vn)] 4
def eG:Obj:=tp [(v "self" 761),(v "store" 762)]
def eH:Obj:=co "check_made" "Desk.check_made" 813 312 2 3 472 181 [473,0,474,475,476] 818
def eI:Obj:=fn "quarrels" "Desk.quarrels" (y 39 14) "patchkin.desk" 605 444
def eJ:Obj:=tp [(v "self" 784),(v "store" 785),(v "file" 786)]
def eK:Obj:=fr [(k (r 351)),(k (r 3)),(k (r 348)),none,(k (v "patchkin.desk" 605)),none,(k (r 0))]
def eL:Obj:=fv "back" "Desk.back" (y 39 7)
def eM:Obj:=fn "sight_of" "Desk.sight_of" (y 39 17) "patchkin.desk" 605 463
def eN:Obj:=co "files" "Desk.files" 758 290 2 3 427 181 [428,0,429,430,431] 763
def eO:Obj:=co "patches_of" "Desk.patches_of" 790 302 2 3 453 181 [454,0,0,0,455] 793
def eP:Obj:=fv "told" "Desk.told" (y 39 11)
def eQ:Obj:=tp [(v "self" 833),(v "patch" 834),(v "files" 835),(v "name" 836)]
def eR:Obj:=of "getset_descriptor" [(v "__weakref__" 857),(r 502),(b "ExceptionGroup.__weakref__"),vn]
def eS:Obj:=fv "record" "Desk.record" (y 39 5)
def eT:Obj:=fn "stay" "Desk.stay" (y 39 15) "patchkin.desk" 605 451
def eU:Obj:=co "check_held" "Desk.check_held" 821 316 3 3 479 181 [480,0,481,482,483] 827
def eW:Obj:=tp [(v "held" 851),(v "made" 852),(v "needs" 853)]
def eX:Obj:=tp [(v "self" 799),(v "store" 800),(v "file" 801)]
noncomputable def eY:Obj:=fv "begin" "Desk.begin" (y 39 1)
def eZ:Obj:=fn "check_new" "Desk.check_new" (y 39 21) "patchkin.desk" 605 491
def e0:Obj:=fv "drop" "Desk.drop" (y 39 9)
def e1:Obj:=co "quarrels" "Desk.quarrels" 772 296 3 3 439 181 [440,0,441,442,443] 778
noncomputable def e2:Obj:=co "keep" "Desk.keep" 840 326 3 3 493 181 [494,0,495,496,497] 848
def e3:Obj:=fn "told" "Desk.told" (y 39 11) "patchkin.desk" 605 425
def e4:Obj:=tp [(v "self" 816),(v "patch" 817)]
def e5:Obj:=fv "patches" "Desk.patches" (y 39 3)
def e6:Obj:=co "check_store" "Desk.check_store" 805 308 2 3 465 181 [466,0,467,468,469] 810
def e7:Obj:=fn "row" "Desk.row" (y 39 13) "patchkin.desk" 605 437
def e8:Obj:=ty (cl (S "Desk") [(w "object")] [(r 502),(w "object")] 501 (S "Desk") true [] [] false none false) [none,none,(k (v "Desk" 659)),(k (v "Desk" 667)),(k (b "object.__new__")),(k (vl true))]
def e9:Obj:=fn "check_made" "Desk.check_made" (y 39 19) "patchkin.desk" 605 477
def fa(P:Params):Obj:=dt ((d P "__name__" 165 (v "law_patchkin_k10_whole_recorded_stands" 862))::hA P) 58
def fb:Obj:=fn "_law_seen" "_law_seen" (x 51) "law_patchkin_k10_whole_recorded_stands" 862 574
def fc:Obj:=co "_law_deed" "_law_deed" 916 379 6 3 540 181 [541,0,0,0,542] 919
def fe:Obj:=fn "_law_name" "_law_name" (x 43) "law_patchkin_k10_whole_recorded_stands" 862 526
def ff:Obj:=tp [(v "row" 938),(v "line" 939)]
def fg:Obj:=fv "files" "Desk.files" (y 39 12)
def fh:Obj:=co "_law_draw" "_law_draw" 872 339 3 3 514 181 [515,0,516,517,518] 879
def fi:Obj:=fv "patches_of" "Desk.patches_of" (y 39 16)
def fj:Obj:=tp [(v "texts" 905),(v "cell" 906),(v "at" 907),(v "line" 908),(v "more" 909),(v "way" 910),(v "out" 911),(v "turned" 912)]
def fk:Obj:=co "_law_cut_right" "_law_cut_right" 957 430 3 3 576 181 [577,0,0,0,578] 960
def fm:Obj:=fv "check_held" "Desk.check_held" (y 39 20)
def fo:Obj:=co "_law_text" "_law_text" 896 355 1 3 528 181 [529,0,0,0,530] 899
def fp:Obj:=fn "_law_row_form" "_law_row_form" (x 49) "law_patchkin_k10_whole_recorded_stands" 862 562
def fq:Obj:=tp [(v "cell" 885),(v "k" 886),(v "signs" 887),(v "size" 888),(v "base" 889),(v "far" 890),(v "found" 891),(v "j" 892)]
def ft:Obj:=co "_law_whole" "_law_whole" 928 410 1 3 550 181 [551,0,552,553,554] 932
def fu:Obj:=fn "_law_edit" "_law_edit" (x 45) "law_patchkin_k10_whole_recorded_stands" 862 538
def fw:Obj:=fv "quarrels" "Desk.quarrels" (y 39 14)
def fx:Obj:=fn "_law_cell_at" "_law_cell_at" (x 41) "law_patchkin_k10_whole_recorded_stands" 862 512
noncomputable def fy:Obj:=fv "keep" "Desk.keep" (y 39 22)
def fz:Obj:=fn "law" "law" (x 53) "law_patchkin_k10_whole_recorded_stands" 862 584
def fA:Obj:=co "_law_pairs_form" "_law_pairs_form" 943 421 1 3 564 181 [565,0,566,567,568] 948
def fB:Obj:=of "super" [(r 502),(r 502),(r 502)]
def fC:Obj:=fn "_law_desk" "_law_desk" (x 47) "law_patchkin_k10_whole_recorded_stands" 862 548
def fD:Obj:=fv "check_store" "Desk.check_store" (y 39 18)
def fE:Obj:=tp [(v "script" 867),(v "k" 868)]
def fF:Obj:=co "_law_cell_at" "_law_cell_at" 864 335 2 3 507 181 [508,0,509,510,511] 869
def fG:Obj:=fn "_law_deed" "_law_deed" (x 46) "law_patchkin_k10_whole_recorded_stands" 862 543
def fH:Obj:=fn "_law_draw" "_law_draw" (x 42) "law_patchkin_k10_whole_recorded_stands" 862 519
def fI:Obj:=co "law" "law" 963 443 1 3 581 181 [582,0,0,0,583] 966
def fJ:Obj:=tp [(v "found" 931)]
def fL:Obj:=tp [(v "cell" 875),(v "k" 876),(v "bound" 877),(v "stir" 878)]
def fM:Obj:=fn "_law_cut_right" "_law_cut_right" (x 52) "law_patchkin_k10_whole_recorded_stands" 862 579
def fN:Obj:=co "_law_desk" "_law_desk" 922 398 4 3 545 181 [546,0,0,0,547] 925
def fO:Obj:=fn "_law_text" "_law_text" (x 44) "law_patchkin_k10_whole_recorded_stands" 862 531
def fP:Obj:=fv "row" "Desk.row" (y 39 13)
def fQ:Obj:=fn "_law_whole" "_law_whole" (x 48) "law_patchkin_k10_whole_recorded_stands" 862 555
noncomputable def fR(P:Params):Obj:=dt [(d P "__module__" 666 (v "patchkin.desk" 605)),(d P "__qualname__" 668 (v "Desk" 667)),(d P "__firstlineno__" 670 (vi 217 669)),(d P "__init__" 677 (r 359)),(d P "begin" 685 (r 366)),(d P "stores" 692 (r 373)),(d P "patches" 699 (r 380)),(d P "has" 705 (r 385)),(d P "record" 711 (r 390)),(d P "cut" 717 (r 395)),(d P "back" 727 (r 402)),(d P "take" 733 (r 407)),(d P "drop" 743 (r 414)),(d P "leans" 749 (r 419)),(d P "told" 757 (r 426)),(d P "files" 765 (r 433)),(d P "row" 771 (r 438)),(d P "quarrels" 780 (r 445)),(d P "stay" 789 (r 452)),(d P "patches_of" 795 (r 457)),(d P "sight_of" 804 (r 464)),(d P "check_store" 812 (r 471)),(d P "check_made" 820 (r 478)),(d P "check_held" 829 (r 485)),(d P "check_new" 839 (r 492)),(d P "keep" 850 (r 499)),(d P "__static_attributes__" 854 (r 500))] 27
def fS:Obj:=fv "check_made" "Desk.check_made" (y 39 19)
def fT:Obj:=fv "stay" "Desk.stay" (y 39 15)
def fU:Obj:=co "_law_row_form" "_law_row_form" 935 412 1 3 557 181 [558,0,559,560,561] 940
def fV:Obj:=fv "check_new" "Desk.check_new" (y 39 21)
def fW:Obj:=co "_law_edit" "_law_edit" 902 363 2 3 533 181 [534,0,535,536,537] 913
def fX:Obj:=fn "_law_pairs_form" "_law_pairs_form" (x 50) "law_patchkin_k10_whole_recorded_stands" 862 569
def fY:Obj:=of "builtin_function_or_method" [(b "object.__init_subclass__"),(r 502)]
def fZ:Obj:=tp [(v "found" 946),(v "pair" 947)]
def f0:Obj:=co "_law_name" "_law_name" 882 343 2 3 521 181 [522,0,523,524,525] 893
def f1:Obj:=fv "sight_of" "Desk.sight_of" (y 39 17)
def f2:Obj:=l3 [(219,4,358),(224,4,365),(230,4,372),(233,4,379),(236,4,384),(240,4,389),(250,4,394),(259,4,401),(265,4,406),(275,4,413),(283,4,418),(287,4,425),(290,4,432),(293,4,437),(296,4,444),(299,4,451),(302,4,456),(305,4,463),(308,4,470),(312,4,477),(316,4,484),(320,4,491),(326,4,498)]
def f3:Obj:=co "_law_seen" "_law_seen" 951 428 3 3 571 181 [572,0,0,0,573] 954
def f4:Obj:=fv "_law_cell_at" "_law_cell_at" (x 41)
def f6:Obj:=fv "_law_desk" "_law_desk" (x 47)
def f7:Obj:=fv "_law_row_form" "_law_row_form" (x 49)
def f8:Obj:=fv "_law_edit" "_law_edit" (x 45)
def f9:Obj:=fv "_law_name" "_law_name" (x 43)
def ga:Obj:=fv "_law_seen" "_law_seen" (x 51)
def gb:Obj:=fv "_law_pairs_form" "_law_pairs_form" (x 50)
def gc:Obj:=l3 [(1,0,20),(5,0,27),(13,0,32),(18,0,39),(23,0,46),(34,0,53),(36,0,66),(38,0,78),(40,0,90),(42,0,102),(44,0,114),(46,0,126),(48,0,138),(50,0,150),(53,0,162),(60,0,183),(68,0,202),(74,0,207),(79,0,214),(88,0,221),(94,0,226),(101,0,231),(104,0,238),(114,0,245),(120,0,250),(136,0,257),(141,0,262),(156,0,269),(181,0,318),(187,0,325),(193,0,332),(198,0,339),(209,0,344),(217,0,351),(335,0,512),(339,0,519),(343,0,526),(355,0,531),(363,0,538),(379,0,543),(398,0,548),(410,0,555),(412,0,562),(421,0,569),(428,0,574),(430,0,579),(443,0,584)]
def gd:Obj:=fv "_law_cut_right" "_law_cut_right" (x 52)
def ge:Obj:=fv "_law_text" "_law_text" (x 44)
def gf:Obj:=fv "_law_whole" "_law_whole" (x 48)
def gg:Obj:=fv "_law_draw" "_law_draw" (x 42)
def gh:Obj:=fv "_law_deed" "_law_deed" (x 46)
def gi(P:Params):Obj:=dt ((d P "__name__" 165 (v "patchkin.desk" 605))::hy P) 44
def gj:Obj:=l3 [(1,0,20),(5,0,27),(13,0,32),(18,0,39),(23,0,46),(34,0,53),(36,0,66),(38,0,78),(40,0,90),(42,0,102),(44,0,114),(46,0,126),(48,0,138),(50,0,150),(53,0,162),(60,0,183),(68,0,202),(74,0,207),(79,0,214),(88,0,221),(94,0,226),(101,0,231),(104,0,238),(114,0,245),(120,0,250),(136,0,257),(141,0,262),(156,0,269),(181,0,318),(187,0,325),(193,0,332),(198,0,339),(209,0,344),(217,0,351)]
def gk(P:Params):Obj:=dt ((d P "__name__" 165 (v "patchkin.errors" 236))::hn P) 17
def gn(P:Params):Obj:=dt ((d P "__name__" 165 (v "patchkin.errors" 236))::hs P) 22
def gq(P:Params):Obj:=dt ((d P "__name__" 165 (v "patchkin.order" 384))::hv P) 31
def gs(P:Params):Obj:=dt ((d P "__name__" 165 (v "patchkin.errors" 236))::hp P) 19
def gx(P:Params):Obj:=dt ((d P "__name__" 165 (v "patchkin.order" 384))::hw P) 36
def gz(P:Params):Obj:=dt ((d P "__name__" 165 (v "patchkin.errors" 236))::hq P) 20
def gC(P:Params):Obj:=dt ((d P "__name__" 165 (v "patchkin.errors" 236))::ho P) 18
def gF(P:Params):Obj:=dt ((d P "__name__" 165 (v "patchkin.errors" 236))::hl P) 15
def gI(P:Params):Obj:=dt ((d P "__name__" 165 (v "patchkin.desk" 605))::hz P) 45
def gJ(P:Params):Obj:=dt ((d P "__name__" 165 (v "patchkin.order" 384))::hu P) 24
def gM(P:Params):Obj:=dt ((d P "__name__" 165 (v "patchkin.errors" 236))::hr P) 21
def gP(P:Params):Obj:=dt ((d P "__name__" 165 (v "patchkin.order" 384))::ht P) 23
def gR(P:Params):Obj:=dt ((d P "__name__" 165 (v "patchkin.errors" 236))::hm P) 16
def gU(P:Params):Obj:=dt ((d P "__name__" 165 (v "patchkin.desk" 605))::hx P) 39
def gW:BT:=n aC (n ab (f aP) z) (n aa (f aV) z)
def gX:BT:=n aw (n ax (f aa) z) (n ab (f aX) z)
def gY:BT:=n aa (f aa) z
def gZ:BT:=n ab (f ac) z
def g0(P:Params):BT:=n aa (n aB (n (aN P) (f bo) z) (f a1)) (n ag (n aU (f bw) z) (f (bg P)))
def g1(P:Params):BT:=n aC (n ab (n aP (f bp) z) (f (a9 P))) (n aa (f aV) (f bi))
def g2(P:Params):BT:=n am (n an (n ab (f (bj P)) z) (f ad)) (n ac (f (aQ P)) (f ab))
def g3(P:Params):BT:=n aa (n aG (n ab (f (br P)) z) (f ad)) (n ad (f (aZ P)) (f ab))
def g4:BT:=n ab (n ap gY (f a5)) (n aq (n aa (f bB) z) (f aa))
def g5:BT:=n aw (n ax (n aa (f bt) z) (f aa)) (n ab (f aX) (f aa))
def g6(P:Params):BT:=n aa (n aa (n aS (f bm) z) (f ac)) (n (aI P) (f aT) (f bn))
def g7:BT:=n ab (n aA (n aY (f bu) z) (f ac)) (n ac (f a0) (f bv))
def g8:BT:=n ab (f ab) (f ab)
def g9:BT:=n au (n aR (f aa) (f ab)) (n aa (f cd) (f ce))
def ha:BT:=n aa (f aa) (f aa)
def hb:BT:=n ab (n ap (f aa) (f a5)) (n aq (f aa) z)
def hc:BT:=n ay (n aa (f aa) (f bc)) (n aH (f aa) z)
def hd:BT:=n aJ (n ab (f ac) (f a6)) (n az (f a7) z)
def he:BT:=n ab (n aA (f aY) z) (n ac (f a0) z)
def hf:BT:=n aa (f ab) z
def hg:BT:=n ab (f ab) z
def hh:BT:=n aa (f ab) (f aa)
def hi:BT:=n aa (f aa) (f ab)
def hj(P:Params):BT:=n ao (n aa (f (aE P)) (f ab)) (n aF (f ad) (f (bb P)))
def hk:BT:=n aa (n aK (f aL) (f be)) (n aM (f ac) (f bf))
end
end TW
namespace PySem.W.Fast
open PySem PySem.W L2 PK TW
noncomputable section
def tw1785822395622766206:Program:=PySem.Challenge.pw_patchkin_k10_whole_recorded_stands
theorem te1785822395622766206:tw1785822395622766206=tw1785822395622766206:=rfl
def tw9152873242224079105:Params->BT:=λP=>n (boot_o_0 P) (n (boot_o_1 P) (n (gk P) (n (boot_o_7 P) (n aa (n aB (f (aN P)) z) (n ag (f aU) z)) (n ab (n ai (f aO) z) (f aa))) (n aa gW (n aj (n al (f (aW P)) z) (f aD)))) (n (boot_o_5 P) (n (boot_o_9 P) (n am (n an (f ab) z) (n ac (f (aQ P)) z)) (n aa (n aa (f ad) z) (f (ty (cl (S "PatchError") [(w "ValueError")] [(r 57),(w "ValueError"),(w "Exception"),(w "BaseException"),(w "object")] 56 (S "PatchError") true [] [(r 70),(r 82)] false none false) [(k (r 48)),none,(k (v "PatchError" 238)),(k (v "PatchError" 246)),(k (b "ValueError.__new__")),(k (vl true))])))) (n ae (n ao (n aa (f (aE P)) z) (f aF)) (n aa (n aG (f ab) z) (f ad))))) (n (boot_o_2 P) (n (boot_o_4 P) (n (boot_o_8 P) (n ab (n ap (f aa) z) (n aq (f aa) z)) (n ar (n au (f aR) z) (f (av P)))) (n (l3 [(1,0,20),(5,0,27),(13,0,32),(18,0,39),(23,0,46),(34,0,53),(36,0,66),(38,0,78)]) gX (n ay gY (f aH)))) (n (boot_o_6 P) (n (boot_o_10 P) (n aa (n aa (f aS) z) (n (aI P) (f aT) z)) (n aJ gZ (f az))) (n af (n aa (n aK (f aL) z) (f aM)) (n ab (n aA (f aY) z) (f ac)))))
theorem te9152873242224079105:tw9152873242224079105=tw9152873242224079105:=rfl
def tw13485998286923319105:Params->BT:=λP=>n (boot_o_0 P) (n (boot_o_1 P) (n (gn P) (n (boot_o_7 P) (g0 P) (n ab (n ai (n aO (f (bz P)) z) (f a8)) (n aa (f (a2 P)) (f bh)))) (n aa (g1 P) (n aj (n al (n (aW P) (f bA) z) (f ba)) (n aD (f a3) (f (bq P)))))) (n (boot_o_5 P) (n (boot_o_9 P) (g2 P) (n aa (n aa (n ad (f ab) z) (f (a4 P))) (n (ty (cl (S "PatchError") [(w "ValueError")] [(r 57),(w "ValueError"),(w "Exception"),(w "BaseException"),(w "object")] 56 (S "PatchError") true [] [(r 70),(r 82),(r 94),(r 106),(r 118),(r 130),(r 142)] false none false) [(k (r 48)),none,(k (v "PatchError" 238)),(k (v "PatchError" 246)),(k (b "ValueError.__new__")),(k (vl true))]) (f ab) (f ad)))) (n ae (n ao (n aa (n (aE P) (f ad) z) (f ab)) (n aF (f ad) (f (bb P)))) (g3 P)))) (n (boot_o_2 P) (n (boot_o_4 P) (n (boot_o_8 P) g4 (n ar (n au (n aR (f aa) z) (f aa)) (n (av P) (f aa) (f bl)))) (n (l3 [(1,0,20),(5,0,27),(13,0,32),(18,0,39),(23,0,46),(34,0,53),(36,0,66),(38,0,78),(40,0,90),(42,0,102),(44,0,114),(46,0,126),(48,0,138)]) g5 (n ay (n aa gY (f bc)) (n aH (f aa) (f aa))))) (n (boot_o_6 P) (n (boot_o_10 P) (g6 P) (n aJ (n ab (n ac (f bC) z) (f a6)) (n az (f a7) (f ac)))) (n af (n aa (n aK (n aL (f ac) z) (f be)) (n aM (f ac) (f bf))) g7)))
theorem te13485998286923319105:tw13485998286923319105=tw13485998286923319105:=rfl
def tw2304597026307784996:Params->BT:=λP=>n (boot_o_0 P) (n (boot_o_1 P) (n (gq P) (n (boot_o_7 P) (n aa (n aB (n (aN P) (f bo) (f bV)) (n a1 (f (bW P)) (f aa))) (n ag (n aU (f bw) (f bX)) (n (bg P) (f bH) z))) (n ab (n ai (n aO (f (bz P)) (f aa)) (n a8 (f aa) (f bY))) (n aa (n (a2 P) (f bI) (f bZ)) (n bh (f cq) z)))) (n aa (n aC (n ab (n aP (f bp) (f b0)) (n (a9 P) (f b1) (f b2))) (n aa (n aV (f (bJ P)) (f b3)) (n bi (f ac) z))) (n aj (n al (n (aW P) (f bA) (f b4)) (n ba (f bL) z)) (n aD (n a3 (f bM) (f aa)) (n (bq P) (f b5) z))))) (n (boot_o_5 P) (n (boot_o_9 P) (n am (n an (n ab (f (bj P)) (f (b6 P))) (n ad (f b7) (f cr))) (n ac (n (aQ P) (f ad) (f aa)) (n ab (f b8) z))) (n aa (n aa (n ad (f ab) (f cs)) (n (a4 P) (f bN) z)) (n bE (n ab (f (bF P)) (f ab)) (n ad (f aa) z)))) (n ae (n ao (n aa (n (aE P) (f ad) (f ct)) g8) (n aF (n ad (f ab) (f cu)) (n (bb P) (f aa) z))) (n aa (n aG (n ab (f (br P)) (f ab)) (n ad (f bO) z)) (n ad (n (aZ P) (f aa) (f b9)) (n ab (f cv) z)))))) (n (boot_o_2 P) (n (boot_o_4 P) (n (boot_o_8 P) (n ab (n ap (n aa (f aa) (f ca)) (n a5 (f aa) (f ab))) (n aq (n aa (f bB) (f cb)) (n aa (f cc) z))) (n ar g9 (n (av P) ha (n bl (f cw) z)))) (n (l3 [(1,0,20),(5,0,27),(13,0,32),(18,0,39),(23,0,46),(34,0,53),(36,0,66),(38,0,78),(40,0,90),(42,0,102),(44,0,114),(46,0,126),(48,0,138),(50,0,150),(53,0,162),(60,0,183),(68,0,202),(74,0,207),(79,0,214),(88,0,221),(94,0,226),(101,0,231)]) (n aw (n ax (n aa (f bt) (f cf)) ha) (n ab (n aX (f aa) (f aa)) (n aa (f (cx P)) z))) (n ay (n aa ha (n bc (f (bP P)) z)) (n aH (n aa (f bQ) (f cy)) gY)))) (n (boot_o_6 P) (n (boot_o_10 P) (n aa (n aa (n aS (f bm) (f cg)) (n ac (f ch) (f ci))) (n (aI P) (n aT (f ac) (f ab)) (n bn (f aa) z))) (n aJ (n ab (n ac (f bC) (f cj)) (n a6 (f bR) z)) (n az (n a7 (f bG) (f ck)) (n ac (f ab) z)))) (n af (n aa (n aK (n aL (f ac) (f cz)) (n be (f bS) (f cA))) (n aM (n ac (f bT) (f cm)) (n bf (f cB) z))) (n ab (n aA (n aY (f bu) (f cC)) (n ac (f bU) z)) (n ac (n a0 (f ac) (f cn)) (n bv (f cp) z))))))
theorem te2304597026307784996:tw2304597026307784996=tw2304597026307784996:=rfl
def tw3179293993524221638:Params->BT:=λP=>n (boot_o_0 P) (n (boot_o_1 P) (n (gs P) (n (boot_o_7 P) (n aa (n aB (f (aN P)) (f a1)) (n ag (f aU) z)) (n ab (n ai (f aO) (f a8)) (n aa (f (a2 P)) z))) (n aa (n aC (n ab (f aP) (f (a9 P))) (n aa (f aV) z)) (n aj (n al (f (aW P)) (f ba)) (n aD (f a3) z)))) (n (boot_o_5 P) (n (boot_o_9 P) (n am (n an (f ab) (f ad)) (n ac (f (aQ P)) z)) (n aa (n aa (f ad) (f (a4 P))) (n (ty (cl (S "PatchError") [(w "ValueError")] [(r 57),(w "ValueError"),(w "Exception"),(w "BaseException"),(w "object")] 56 (S "PatchError") true [] [(r 70),(r 82),(r 94),(r 106)] false none false) [(k (r 48)),none,(k (v "PatchError" 238)),(k (v "PatchError" 246)),(k (b "ValueError.__new__")),(k (vl true))]) (f ab) z))) (n ae (n ao (n aa (f (aE P)) (f ab)) (n aF (f ad) z)) (n aa (n aG (f ab) z) (n ad (f (aZ P)) z))))) (n (boot_o_2 P) (n (boot_o_4 P) (n (boot_o_8 P) hb (n ar (n au (f aR) (f aa)) (n (av P) (f aa) z))) (n (l3 [(1,0,20),(5,0,27),(13,0,32),(18,0,39),(23,0,46),(34,0,53),(36,0,66),(38,0,78),(40,0,90),(42,0,102)]) (n aw (n ax (f aa) (f aa)) (n ab (f aX) z)) hc)) (n (boot_o_6 P) (n (boot_o_10 P) (n aa (n aa (f aS) (f ac)) (n (aI P) (f aT) z)) hd) (n af (n aa (n aK (f aL) (f be)) (n aM (f ac) z)) he)))
theorem te3179293993524221638:tw3179293993524221638=tw3179293993524221638:=rfl
def tw8469358769516463822:Params->BT:=λP=>n (boot_o_0 P) (n (boot_o_1 P) (n (fa P) (n (boot_o_7 P) (n aa (n aB (n (aN P) (n bo (n aa (f f4) z) (f ei)) (n bV (n dh (f fb) z) (f ab))) (n a1 (n (bW P) (n cQ (f fc) z) (f aa)) (n aa (f ej) (f aa)))) (n ag (n aU (n bw (n aa (f fe) z) (f aa)) (n bX (f ab) (f ek))) (n (bg P) (n bH (n di (f ff) z) (f fg)) (n cD (f aa) (f el))))) (n ab (n ai (n aO (n (bz P) (n cE (f fh) z) (f aa)) (n aa (n aa (f (fv "law" "law" (x 53))) z) (f fi))) (n a8 (n aa hf (f aa)) (n bY (f dJ) (f ab)))) (n aa (n (a2 P) (n bI (n ab (f fj) z) (f dK)) (n bZ (f dL) (f em))) (n bh (n cq (n dj (f aa) z) (f aa)) (n aa (f ab) (f en)))))) (n aa (n aC (n ab (n aP (n bp hf (f ab)) (n b0 (n aa (f fk) z) (f eo))) (n (a9 P) (n b1 (n cR (f f6) z) (f dM)) (n b2 (f dN) (f fm)))) (n aa (n aV (n (bJ P) (n dl (f fo) z) (f aa)) (n b3 (f dm) (f ep))) (n bi (n ac (n (cS P) (f fp) z) (f ab)) (n aa (f er) (f es))))) (n aj (n al (n (aW P) (n bA (n aa (f fq) z) (f dO)) (n b4 (f dP) (f ab))) (n ba (n bL (n aa (f ft) z) (f aa)) (n cF (f aa) (f et)))) (n aD (n a3 (n bM (n cT (f fu) z) (f aa)) (n aa (f ac) (f aa))) (n (bq P) (n b5 (n dn (f aa) z) (f fw)) (n cG (f dQ) (f aa))))))) (n (boot_o_5 P) (n (boot_o_9 P) (n am (n an (n ab (n (bj P) (n cH (f fx) z) (f dR)) (n (b6 P) hg (f aa))) (n ad (n b7 (n dp (f aa) z) (f eu)) (n cr (f aa) (f ev)))) (n ac (n (aQ P) (n ad (n cU (f ab) z) (f dS)) ha) (n ab (n b8 (n cV (f f7) z) (f ew)) (n ab (f dT) (f fy))))) (n aa (n aa (n ad (n ab (n ac (f aa) z) (f ey)) (n cs (n dq (f fz) z) (f ez))) (n (a4 P) (n bN (n cW (f aa) z) (f dU)) hh)) (n bE (n ab (n (bF P) (n aa (f f8) z) (f ab)) (n ab (f dr) (f ab))) (n ad (n aa (n aa (f fA) z) (f eA)) (n cX (f aa) (f fB)))))) (n ae (n ao (n aa (n (aE P) (n ad (n cY (f aa) z) (f dV)) (n ct (n ds (f aa) z) (f aa))) (n ab (n ab (n ab (f fC) z) (f ab)) (n ab (f eB) (f eC)))) (n aF (n ad (n ab (n cZ (f aa) z) (f eD)) (n cu (f aa) (f fD))) (n (bb P) (n aa (n c0 (f ab) z) (f eE)) (n cI (f dW) (f (eF P)))))) (n aa (n aG (n ab (n (br P) (n du (f f9) z) (f ab)) (n ab (f dv) (f aa))) (n ad (n bO (n c1 (f aa) z) (f eG)) (n c2 (f dX) (f aa)))) (n ad (n (aZ P) (n aa hf (f dY)) (n b9 (f aa) (f eH))) (n ab (n cv (n dZ (f ga) z) (f eI)) (n ab (f aa) (f fE)))))))) (n (boot_o_2 P) (n (boot_o_4 P) (n (boot_o_8 P) (n ab (n ap (n aa (n aa (n c3 (f fF) z) (f d0)) (n ca gY (f eJ))) (n a5 (n aa (n aa (f fG) z) (f ab)) (n ab (f eK) (f ab)))) (n aq (n aa (n bB (n ab (f aa) z) (f eL)) (n cb (f dw) (f eM))) (n aa (n cc (n c4 (f aa) z) (f eN)) hh))) (n ar (n au (n aR (n aa (n aa (f fH) z) (f ab)) (n ab (n ab (f fI) z) (f eO))) (n aa (n cd (n dx (f fJ) z) (f eP)) (n ce (f aa) (f eQ)))) (n (av P) (n aa (n aa (n c5 (f aa) z) (f aa)) (n aa (f dy) (f aa))) (n bl (n cw (n dz (f gb) z) (f ab)) (n ab (f d1) (f eR)))))) (n gc (n aw (n ax (n aa (n bt (n ab (f fL) z) (f eS)) (n cf (n d2 (f fM) z) (f eT))) (n aa (n aa (n aa (f fN) z) (f aa)) (n aa (f aa) (f eU)))) (n ab (n aX (n aa (n c6 (f fO) z) (f ab)) (n aa (f dA) (f aa))) (n aa (n (cx P) (n c7 (f aa) z) (f fP)) (n c8 (f d3) (f eW))))) (n ay (n aa (n aa (n aa (n dB (f aa) z) (f aa)) (n aa (f dC) (f eX))) (n bc (n (bP P) (n ab (f fQ) z) (f ab)) (n aa (f eY) (f eZ)))) (n aH (n aa (n bQ (n c9 (f aa) z) (f e0)) (n cy (f (fR P)) (f fS))) (n aa (n aa hf (f e1)) (n aa (f d4) (f ab))))))) (n (boot_o_6 P) (n (boot_o_10 P) (n aa (n aa (n aS (n bm (n cJ (f aa) z) (f aa)) (n cg (n dD (f gd) z) (f fT))) (n ac (n ch (n da (f ab) z) (f d5)) (n ci (f ab) (f aa)))) (n (aI P) (n aT (n ac (n aa (f ge) z) (f d6)) (n ab (f d7) (f ab))) (n bn (n aa (n db (f fU) z) (f aa)) (n cK (f aa) (f e2))))) (n aJ (n ab (n ac (n bC (n (dE P) (f ab) z) (f d8)) (n cj (f aa) (f aa))) (n a6 (n bR (n dc (f gf) z) (f e3)) (n ab (f d9) (f fV)))) (n az (n a7 (n bG (n dF (f fW) z) (f ea)) (n ck (f aa) (f e4))) (n ac (n ab (n ab (f fX) z) (f aa)) (n cL (f e5) (f fY)))))) (n af (n aa (n aK (n aL (n ac (n cM (f gg) z) (f eb)) (n cz (n dG (f ab) z) (f ab))) (n be (n bS (n df (f aa) z) (f ec)) (n cA (f ed) (f aa)))) (n aM (n ac (n bT hf (f ee)) (n cm (f ab) (f e6))) (n bf (n cB (n dg (f fZ) z) (f e7)) (n cN (f aa) (f e8))))) (n ab (n aA (n aY (n bu (n dH (f f0) z) (f ef)) (n cC (f aa) (f f1))) (n ac (n bU hf (f aa)) (n cO (f eg) (f ab)))) (n ac (n a0 (n ac (n ab (f gh) z) (f eh)) (n cn (f f2) (f e9))) (n bv (n cp (n dI (f f3) z) (f aa)) (n cP (f ab) (f aa))))))))
theorem te8469358769516463822:tw8469358769516463822=tw8469358769516463822:=rfl
noncomputable def tw2738947728845789455:Params->BT:=λP=>n (boot_o_0 P) (n (boot_o_1 P) (n (gi P) (n (boot_o_7 P) (n aa (n aB (n (aN P) (n bo (f aa) (f ei)) (n bV (f dh) z)) (n a1 (n (bW P) (f cQ) (f aa)) (n aa (f ej) z))) (n ag (n aU (n bw (f aa) (f aa)) (n bX (f ab) z)) (n (bg P) (n bH (f di) z) (n cD (f aa) z)))) (n ab (n ai (n aO (n (bz P) (f cE) (f aa)) gY) (n a8 ha (n bY (f dJ) z))) (n aa (n (a2 P) (n bI (f ab) (f dK)) (n bZ (f dL) z)) (n bh (n cq (f dj) z) hf)))) (n aa (n aC (n ab (n aP (n bp (f aa) (f ab)) (n b0 (f aa) z)) (n (a9 P) (n b1 (f cR) (f dM)) (n b2 (f dN) z))) (n aa (n aV (n (bJ P) (f dl) (f aa)) (n b3 (f dm) z)) (n bi (n ac (f (cS P)) z) (n aa (f er) z)))) (n aj (n al (n (aW P) (n bA (f aa) (f dO)) (n b4 (f dP) z)) (n ba (n bL (f aa) z) (n cF (f aa) z))) (n aD (n a3 (n bM (f cT) (f aa)) (n aa (f ac) z)) (n (bq P) (n b5 (f dn) z) (n cG (f dQ) z)))))) (n (boot_o_5 P) (n (boot_o_9 P) (n am (n an (n ab (n (bj P) (f cH) (f dR)) (n (b6 P) (f ab) z)) (n ad (n b7 (f dp) (f eu)) (n cr (f aa) z))) (n ac (n (aQ P) (n ad (f cU) (f dS)) gY) (n ab (n b8 (f cV) z) (n ab (f dT) z)))) (n aa (n aa (n ad (n ab (f ac) (f ey)) (n cs (f dq) z)) (n (a4 P) (n bN (f cW) (f dU)) hf)) (n bE (n ab (n (bF P) (f aa) (f ab)) (n ab (f dr) z)) (n ad gY (n cX (f aa) z))))) (n ae (n ao (n aa (n (aE P) (n ad (f cY) (f dV)) (n ct (f ds) z)) (n ab g8 (n ab (f eB) z))) (n aF (n ad (n ab (f cZ) (f eD)) (n cu (f aa) z)) (n (bb P) (n aa (f c0) z) (n cI (f dW) z)))) (n aa (n aG (n ab (n (br P) (f du) (f ab)) (n ab (f dv) z)) (n ad (n bO (f c1) z) (n c2 (f dX) z))) (n ad (n (aZ P) (n aa (f aa) (f dY)) (n b9 (f aa) z)) (n ab (n cv (f dZ) z) (n ab (f aa) z))))))) (n (boot_o_2 P) (n (boot_o_4 P) (n (boot_o_8 P) (n ab (n ap (n aa (n aa (f c3) (f d0)) (n ca (f aa) z)) (n a5 hi (n ab (f eK) z))) (n aq (n aa (n bB (f ab) (f eL)) (n cb (f dw) z)) (n aa (n cc (f c4) z) hf))) (n ar (n au (n aR hi hg) (n aa (n cd (f dx) (f eP)) (n ce (f aa) z))) (n (av P) (n aa (n aa (f c5) (f aa)) (n aa (f dy) z)) (n bl (n cw (f dz) z) (n ab (f d1) z))))) (n gj (n aw (n ax (n aa (n bt (f ab) (f eS)) (n cf (f d2) z)) (n aa ha gY)) (n ab (n aX (n aa (f c6) (f ab)) (n aa (f dA) z)) (n aa (n (cx P) (f c7) z) (n c8 (f d3) z)))) (n ay (n aa (n aa (n aa (f dB) (f aa)) (n aa (f dC) z)) (n bc (n (bP P) (f ab) z) (n aa (f eY) z))) (n aH (n aa (n bQ (f c9) (f e0)) (n cy (f (dt [(d P "__module__" 666 (v "patchkin.desk" 605)),(d P "__qualname__" 668 (v "Desk" 667)),(d P "__firstlineno__" 670 (vi 217 669)),(d P "__init__" 677 (r 359)),(d P "begin" 685 (r 366)),(d P "stores" 692 (r 373)),(d P "patches" 699 (r 380)),(d P "has" 705 (r 385)),(d P "record" 711 (r 390)),(d P "cut" 717 (r 395)),(d P "back" 727 (r 402)),(d P "take" 733 (r 407)),(d P "drop" 743 (r 414)),(d P "leans" 749 (r 419))] 14)) z)) (n aa gY (n aa (f d4) z)))))) (n (boot_o_6 P) (n (boot_o_10 P) (n aa (n aa (n aS (n bm (f cJ) (f aa)) (n cg (f dD) z)) (n ac (n ch (f da) (f d5)) (n ci (f ab) z))) (n (aI P) (n aT (n ac (f aa) (f d6)) (n ab (f d7) z)) (n bn (n aa (f db) z) (n cK (f aa) z)))) (n aJ (n ab (n ac (n bC (f (dE P)) (f d8)) (n cj (f aa) z)) (n a6 (n bR (f dc) z) (n ab (f d9) z))) (n az (n a7 (n bG (f dF) (f ea)) (n ck (f aa) z)) (n ac hg (n cL (f e5) z))))) (n af (n aa (n aK (n aL (n ac (f cM) (f eb)) (n cz (f dG) z)) (n be (n bS (f df) (f ec)) (n cA (f ed) z))) (n aM (n ac (n bT (f aa) (f ee)) (n cm (f ab) z)) (n bf (n cB (f dg) z) (n cN (f aa) z)))) (n ab (n aA (n aY (n bu (f dH) (f ef)) (n cC (f aa) z)) (n ac (n bU (f aa) z) (n cO (f eg) z))) (n ac (n a0 (n ac (f ab) (f eh)) (n cn (f (l3 [(219,4,358),(224,4,365),(230,4,372),(233,4,379),(236,4,384),(240,4,389),(250,4,394),(259,4,401),(265,4,406),(275,4,413),(283,4,418),(287,4,425)])) z)) (n bv (n cp (f dI) z) (n cP (f ab) z)))))))
theorem te2738947728845789455:tw2738947728845789455=tw2738947728845789455:=rfl
def tw13784841106394078962:Params->BT:=λP=>n (boot_o_0 P) (n (boot_o_1 P) (n (gx P) (n (boot_o_7 P) (n aa (n aB (n (aN P) (n bo (f aa) z) (f bV)) (n a1 (f (bW P)) (f aa))) (n ag (n aU (f bw) (f bX)) (n (bg P) (f bH) (f cD)))) (n ab (n ai (n aO (n (bz P) (f cE) z) (f aa)) (n a8 (f aa) (f bY))) (n aa (n (a2 P) (f bI) (f bZ)) (n bh (f cq) (f aa))))) (n aa (n aC (n ab (n aP (n bp (f aa) z) (f b0)) (n (a9 P) (f b1) (f b2))) (n aa (n aV (f (bJ P)) (f b3)) (n bi (f ac) (f aa)))) (n aj (n al (n (aW P) (f bA) (f b4)) (n ba (f bL) (f cF))) (n aD (n a3 (f bM) (f aa)) (n (bq P) (f b5) (f cG)))))) (n (boot_o_5 P) (n (boot_o_9 P) (n am (n an (n ab (n (bj P) (f cH) z) (f (b6 P))) (n ad (f b7) (f cr))) (n ac (n (aQ P) (f ad) (f aa)) (n ab (f b8) (f ab)))) (n aa (n aa (n ad (f ab) (f cs)) (n (a4 P) (f bN) (f aa))) (n bE (n ab (f (bF P)) (f ab)) (n ad (f aa) (f cX))))) (n ae (n ao (n aa (n (aE P) (n ad (f cY) z) (f ct)) g8) (n aF (n ad (f ab) (f cu)) (n (bb P) (f aa) (f cI)))) (n aa (n aG (n ab (f (br P)) (f ab)) (n ad (f bO) (f c2))) (n ad (n (aZ P) (f aa) (f b9)) (n ab (f cv) (f ab))))))) (n (boot_o_2 P) (n (boot_o_4 P) (n (boot_o_8 P) (n ab (n ap (n aa (n aa (f c3) z) (f ca)) (n a5 (f aa) (f ab))) (n aq (n aa (f bB) (f cb)) (n aa (f cc) (f aa)))) (n ar g9 (n (av P) ha (n bl (f cw) (f ab))))) (n (l3 [(1,0,20),(5,0,27),(13,0,32),(18,0,39),(23,0,46),(34,0,53),(36,0,66),(38,0,78),(40,0,90),(42,0,102),(44,0,114),(46,0,126),(48,0,138),(50,0,150),(53,0,162),(60,0,183),(68,0,202),(74,0,207),(79,0,214),(88,0,221),(94,0,226),(101,0,231),(104,0,238),(114,0,245),(120,0,250),(136,0,257),(141,0,262)]) (n aw (n ax (n aa (n bt (f ab) z) (f cf)) ha) (n ab (n aX (f aa) (f aa)) (n aa (f (cx P)) (f c8)))) (n ay (n aa ha (n bc (f (bP P)) (f aa))) (n aH (n aa (f bQ) (f cy)) ha)))) (n (boot_o_6 P) (n (boot_o_10 P) (n aa (n aa (n aS (n bm (f cJ) z) (f cg)) (n ac (f ch) (f ci))) (n (aI P) (n aT (f ac) (f ab)) (n bn (f aa) (f cK)))) (n aJ (n ab (n ac (f bC) (f cj)) (n a6 (f bR) (f ab))) (n az (n a7 (f bG) (f ck)) (n ac (f ab) (f cL))))) (n af (n aa (n aK (n aL (n ac (f cM) z) (f cz)) (n be (f bS) (f cA))) (n aM (n ac (f bT) (f cm)) (n bf (f cB) (f cN)))) (n ab (n aA (n aY (f bu) (f cC)) (n ac (f bU) (f cO))) (n ac (n a0 (f ac) (f cn)) (n bv (f cp) (f cP)))))))
theorem te13784841106394078962:tw13784841106394078962=tw13784841106394078962:=rfl
def tw10152316236713773044:Params->BT:=λP=>n (boot_o_0 P) (n (boot_o_1 P) (n (gz P) (n (boot_o_7 P) (n aa (n aB (f (aN P)) (f a1)) (n ag (f aU) (f (bg P)))) (n ab (n ai (f aO) (f a8)) (n aa (f (a2 P)) (f bh)))) (n aa (n aC (n ab (f aP) (f (a9 P))) (n aa (f aV) (f bi))) (n aj (n al (f (aW P)) (f ba)) (n aD (f a3) z)))) (n (boot_o_5 P) (n (boot_o_9 P) (n am (n an (f ab) (f ad)) (n ac (f (aQ P)) (f ab))) (n aa (n aa (f ad) (f (a4 P))) (n (ty (cl (S "PatchError") [(w "ValueError")] [(r 57),(w "ValueError"),(w "Exception"),(w "BaseException"),(w "object")] 56 (S "PatchError") true [] [(r 70),(r 82),(r 94),(r 106),(r 118)] false none false) [(k (r 48)),none,(k (v "PatchError" 238)),(k (v "PatchError" 246)),(k (b "ValueError.__new__")),(k (vl true))]) (f ab) z))) (n ae (hj P) (n aa (n aG (f ab) (f ad)) (n ad (f (aZ P)) z))))) (n (boot_o_2 P) (n (boot_o_4 P) (n (boot_o_8 P) (n ab (n ap (f aa) (f a5)) (n aq (f aa) (f aa))) (n ar (n au (f aR) (f aa)) (n (av P) (f aa) (f bl)))) (n (l3 [(1,0,20),(5,0,27),(13,0,32),(18,0,39),(23,0,46),(34,0,53),(36,0,66),(38,0,78),(40,0,90),(42,0,102),(44,0,114)]) (n aw (n ax (f aa) (f aa)) (n ab (f aX) (f aa))) hc)) (n (boot_o_6 P) (n (boot_o_10 P) (n aa (n aa (f aS) (f ac)) (n (aI P) (f aT) (f bn))) hd) (n af hk (n ab (n aA (f aY) (f ac)) (n ac (f a0) z)))))
theorem te10152316236713773044:tw10152316236713773044=tw10152316236713773044:=rfl
def tw13901760214960150295:Params->BT:=λP=>n (boot_o_0 P) (n (boot_o_1 P) (n (gC P) (n (boot_o_7 P) (n aa (n aB (f (aN P)) (f a1)) (n ag (f aU) z)) (n ab (n ai (f aO) z) (n aa (f (a2 P)) z))) (n aa gW (n aj (n al (f (aW P)) z) (n aD (f a3) z)))) (n (boot_o_5 P) (n (boot_o_9 P) (n am (n an (f ab) z) (n ac (f (aQ P)) z)) (n aa (n aa (f ad) z) (n (ty (cl (S "PatchError") [(w "ValueError")] [(r 57),(w "ValueError"),(w "Exception"),(w "BaseException"),(w "object")] 56 (S "PatchError") true [] [(r 70),(r 82),(r 94)] false none false) [(k (r 48)),none,(k (v "PatchError" 238)),(k (v "PatchError" 246)),(k (b "ValueError.__new__")),(k (vl true))]) (f ab) z))) (n ae (n ao (n aa (f (aE P)) z) (n aF (f ad) z)) (n aa (n aG (f ab) z) (n ad (f (aZ P)) z))))) (n (boot_o_2 P) (n (boot_o_4 P) (n (boot_o_8 P) hb (n ar (n au (f aR) z) (n (av P) (f aa) z))) (n (l3 [(1,0,20),(5,0,27),(13,0,32),(18,0,39),(23,0,46),(34,0,53),(36,0,66),(38,0,78),(40,0,90)]) gX (n ay gY (n aH (f aa) z)))) (n (boot_o_6 P) (n (boot_o_10 P) (n aa (n aa (f aS) z) (n (aI P) (f aT) z)) (n aJ gZ (n az (f a7) z))) (n af (n aa (n aK (f aL) z) (n aM (f ac) z)) he)))
theorem te13901760214960150295:tw13901760214960150295=tw13901760214960150295:=rfl
def tw17304326251859685207:Params->BT:=λP=>n (boot_o_0 P) (n (boot_o_1 P) (n (gF P) (n (boot_o_7 P) (n aa (f aB) (f ag)) (n ab (f ai) (f aa))) (n aa (n aC (f ab) (f aa)) (n aj (f al) (f aD)))) (n (boot_o_5 P) (n (boot_o_9 P) (n am (f an) (f ac)) (n aa (f aa) (f (ty (cl (S "PatchError") [(w "ValueError")] [(r 57),(w "ValueError"),(w "Exception"),(w "BaseException"),(w "object")] 56 (S "PatchError") true [] [] false none false) [(k (r 48)),none,(k (v "PatchError" 238)),(k (v "PatchError" 246)),(k (b "ValueError.__new__")),(k (vl true))])))) (n ae (n ao (f aa) (f aF)) (n aa (f aG) z)))) (n (boot_o_2 P) (n (boot_o_4 P) (n (boot_o_8 P) (n ab (f ap) (f aq)) (n ar (f au) (f (av P)))) (n (l3 [(1,0,20),(5,0,27),(13,0,32),(18,0,39),(23,0,46),(34,0,53)]) (n aw (f ax) (f ab)) (n ay (f aa) (f aH)))) (n (boot_o_6 P) (n (boot_o_10 P) (n aa (f aa) (f (aI P))) (n aJ (f ab) (f az))) (n af (n aa (f aK) (f aM)) (n ab (f aA) z))))
theorem te17304326251859685207:tw17304326251859685207=tw17304326251859685207:=rfl
def tw16301308704489895672:Params->BT:=λP=>n (boot_o_0 P) (n (boot_o_1 P) (n (gI P) (n (boot_o_7 P) (n aa (n aB (n (aN P) (n bo (f aa) (f ei)) (n bV (f dh) (f ab))) (n a1 (n (bW P) (f cQ) (f aa)) (n aa (f ej) (f aa)))) (n ag (n aU (n bw (f aa) (f aa)) (n bX (f ab) (f ek))) (n (bg P) (n bH (f di) (f fg)) (n cD (f aa) (f el))))) (n ab (n ai (n aO (n (bz P) (f cE) (f aa)) (n aa (f aa) (f fi))) (n a8 ha (n bY (f dJ) (f ab)))) (n aa (n (a2 P) (n bI (f ab) (f dK)) (n bZ (f dL) (f em))) (n bh (n cq (f dj) (f aa)) (n aa (f ab) (f en)))))) (n aa (n aC (n ab (n aP (n bp (f aa) (f ab)) (n b0 (f aa) (f eo))) (n (a9 P) (n b1 (f cR) (f dM)) (n b2 (f dN) (f fm)))) (n aa (n aV (n (bJ P) (f dl) (f aa)) (n b3 (f dm) (f ep))) (n bi (n ac (f (cS P)) (f ab)) (n aa (f er) (f es))))) (n aj (n al (n (aW P) (n bA (f aa) (f dO)) (n b4 (f dP) (f ab))) (n ba (n bL (f aa) (f aa)) (n cF (f aa) (f et)))) (n aD (n a3 (n bM (f cT) (f aa)) (n aa (f ac) (f aa))) (n (bq P) (n b5 (f dn) (f fw)) (n cG (f dQ) z)))))) (n (boot_o_5 P) (n (boot_o_9 P) (n am (n an (n ab (n (bj P) (f cH) (f dR)) (n (b6 P) (f ab) (f aa))) (n ad (n b7 (f dp) (f eu)) (n cr (f aa) (f ev)))) (n ac (n (aQ P) (n ad (f cU) (f dS)) ha) (n ab (n b8 (f cV) (f ew)) (n ab (f dT) (f fy))))) (n aa (n aa (n ad (n ab (f ac) (f ey)) (n cs (f dq) (f ez))) (n (a4 P) (n bN (f cW) (f dU)) hh)) (n bE (n ab (n (bF P) (f aa) (f ab)) (n ab (f dr) (f ab))) (n ad (n aa (f aa) (f eA)) (n cX (f aa) (f fB)))))) (n ae (n ao (n aa (n (aE P) (n ad (f cY) (f dV)) (n ct (f ds) (f aa))) (n ab g8 (n ab (f eB) (f eC)))) (n aF (n ad (n ab (f cZ) (f eD)) (n cu (f aa) (f fD))) (n (bb P) (n aa (f c0) (f eE)) (n cI (f dW) (f (eF P)))))) (n aa (n aG (n ab (n (br P) (f du) (f ab)) (n ab (f dv) (f aa))) (n ad (n bO (f c1) (f eG)) (n c2 (f dX) (f aa)))) (n ad (n (aZ P) (n aa (f aa) (f dY)) (n b9 (f aa) (f eH))) (n ab (n cv (f dZ) (f eI)) (n ab (f aa) z))))))) (n (boot_o_2 P) (n (boot_o_4 P) (n (boot_o_8 P) (n ab (n ap (n aa (n aa (f c3) (f d0)) (n ca (f aa) (f eJ))) (n a5 hi (n ab (f eK) (f ab)))) (n aq (n aa (n bB (f ab) (f eL)) (n cb (f dw) (f eM))) (n aa (n cc (f c4) (f eN)) hh))) (n ar (n au (n aR hi (n ab (f ab) (f eO))) (n aa (n cd (f dx) (f eP)) (n ce (f aa) (f eQ)))) (n (av P) (n aa (n aa (f c5) (f aa)) (n aa (f dy) (f aa))) (n bl (n cw (f dz) (f ab)) (n ab (f d1) (f eR)))))) (n gj (n aw (n ax (n aa (n bt (f ab) (f eS)) (n cf (f d2) (f eT))) (n aa ha (n aa (f aa) (f eU)))) (n ab (n aX (n aa (f c6) (f ab)) (n aa (f dA) (f aa))) (n aa (n (cx P) (f c7) (f fP)) (n c8 (f d3) (f eW))))) (n ay (n aa (n aa (n aa (f dB) (f aa)) (n aa (f dC) (f eX))) (n bc (n (bP P) (f ab) (f ab)) (n aa (f eY) (f eZ)))) (n aH (n aa (n bQ (f c9) (f e0)) (n cy (f (fR P)) (f fS))) (n aa (n aa (f aa) (f e1)) (n aa (f d4) z)))))) (n (boot_o_6 P) (n (boot_o_10 P) (n aa (n aa (n aS (n bm (f cJ) (f aa)) (n cg (f dD) (f fT))) (n ac (n ch (f da) (f d5)) (n ci (f ab) (f aa)))) (n (aI P) (n aT (n ac (f aa) (f d6)) (n ab (f d7) (f ab))) (n bn (n aa (f db) (f aa)) (n cK (f aa) (f e2))))) (n aJ (n ab (n ac (n bC (f (dE P)) (f d8)) (n cj (f aa) (f aa))) (n a6 (n bR (f dc) (f e3)) (n ab (f d9) (f fV)))) (n az (n a7 (n bG (f dF) (f ea)) (n ck (f aa) (f e4))) (n ac (n ab (f ab) (f aa)) (n cL (f e5) (f fY)))))) (n af (n aa (n aK (n aL (n ac (f cM) (f eb)) (n cz (f dG) (f ab))) (n be (n bS (f df) (f ec)) (n cA (f ed) (f aa)))) (n aM (n ac (n bT (f aa) (f ee)) (n cm (f ab) (f e6))) (n bf (n cB (f dg) (f e7)) (n cN (f aa) (f e8))))) (n ab (n aA (n aY (n bu (f dH) (f ef)) (n cC (f aa) (f f1))) (n ac (n bU (f aa) (f aa)) (n cO (f eg) (f ab)))) (n ac (n a0 (n ac (f ab) (f eh)) (n cn (f f2) (f e9))) (n bv (n cp (f dI) (f aa)) (n cP (f ab) z)))))))
theorem te16301308704489895672:tw16301308704489895672=tw16301308704489895672:=rfl
def tw12224975915367497785:Params->BT:=λP=>n (boot_o_0 P) (n (boot_o_1 P) (n (boot_o_3 P) (f (boot_o_7 P)) (f aa)) (n (boot_o_5 P) (f (boot_o_9 P)) (f ae))) (n (boot_o_2 P) (n (boot_o_4 P) (f (boot_o_8 P)) (f ab)) (n (boot_o_6 P) (f (boot_o_10 P)) (f af)))
theorem te12224975915367497785:tw12224975915367497785=tw12224975915367497785:=rfl
def tw9957345961069143834:Params->BT:=λP=>n (boot_o_0 P) (n (boot_o_1 P) (n (gJ P) (n (boot_o_7 P) (n aa (n aB (n (aN P) (f bo) z) (n a1 (f (bW P)) z)) (n ag (n aU (f bw) z) (n (bg P) (f bH) z))) (n ab (n ai (n aO (f (bz P)) z) (n a8 (f aa) z)) (n aa (n (a2 P) (f bI) z) (f bh)))) (n aa (n aC (n ab (n aP (f bp) z) (n (a9 P) (f b1) z)) (n aa (n aV (f (bJ P)) z) (f bi))) (n aj (n al (n (aW P) (f bA) z) (n ba (f bL) z)) (n aD (n a3 (f bM) z) (f (bq P)))))) (n (boot_o_5 P) (n (boot_o_9 P) (n am (n an (n ab (f (bj P)) z) (n ad (f b7) z)) (n ac (n (aQ P) (f ad) z) (n ab (f b8) z))) (n aa (n aa (n ad (f ab) z) (n (a4 P) (f bN) z)) (n bE (n ab (f (bF P)) z) (f ad)))) (n ae (n ao (n aa (n (aE P) (f ad) z) hg) (n aF (n ad (f ab) z) (f (bb P)))) (n aa (n aG (n ab (f (br P)) z) (n ad (f bO) z)) (n ad (n (aZ P) (f aa) z) (f ab)))))) (n (boot_o_2 P) (n (boot_o_4 P) (n (boot_o_8 P) (n ab (n ap gY (n a5 (f aa) z)) (n aq (n aa (f bB) z) (n aa (f cc) z))) (n ar (n au (n aR (f aa) z) (n aa (f cd) z)) (n (av P) gY (f bl)))) (n (l3 [(1,0,20),(5,0,27),(13,0,32),(18,0,39),(23,0,46),(34,0,53),(36,0,66),(38,0,78),(40,0,90),(42,0,102),(44,0,114),(46,0,126),(48,0,138),(50,0,150),(53,0,162)]) (n aw (n ax (n aa (f bt) z) gY) (n ab (n aX (f aa) z) (f aa))) (n ay (n aa gY (n bc (f (bP P)) z)) (n aH (n aa (f bQ) z) (f aa))))) (n (boot_o_6 P) (n (boot_o_10 P) (n aa (n aa (n aS (f bm) z) (n ac (f ch) z)) (n (aI P) (n aT (f ac) z) (f bn))) (n aJ (n ab (n ac (f bC) z) (n a6 (f bR) z)) (n az (n a7 (f bG) z) (f ac)))) (n af (n aa (n aK (n aL (f ac) z) (n be (f bS) z)) (n aM (n ac (f bT) z) (f bf))) (n ab (n aA (n aY (f bu) z) (n ac (f bU) z)) (n ac (n a0 (f ac) z) (f bv))))))
theorem te9957345961069143834:tw9957345961069143834=tw9957345961069143834:=rfl
def tw7434309279443320860:Params->BT:=λP=>n (boot_o_0 P) (n (boot_o_1 P) (n (gi P) (n (boot_o_7 P) (n aa (n aB (n (aN P) (n bo (f aa) z) (n bV (f dh) z)) (n a1 (n (bW P) (f cQ) z) (f aa))) (n ag (n aU (n bw (f aa) z) (n bX (f ab) z)) (n (bg P) (n bH (f di) z) (f cD)))) (n ab (n ai (n aO (n (bz P) (f cE) z) gY) (n a8 gY (f bY))) (n aa (n (a2 P) (n bI (f ab) z) (n bZ (f dL) z)) (n bh (n cq (f dj) z) (f aa))))) (n aa (n aC (n ab (n aP (n bp (f aa) z) (n b0 (f aa) z)) (n (a9 P) (n b1 (f cR) z) (f b2))) (n aa (n aV (n (bJ P) (f dl) z) (n b3 (f dm) z)) (n bi (n ac (f (cS P)) z) (f aa)))) (n aj (n al (n (aW P) (n bA (f aa) z) (n b4 (f dP) z)) (n ba (n bL (f aa) z) (f cF))) (n aD (n a3 (n bM (f cT) z) (f aa)) (n (bq P) (n b5 (f dn) z) (f cG)))))) (n (boot_o_5 P) (n (boot_o_9 P) (n am (n an (n ab (n (bj P) (f cH) z) (n (b6 P) (f ab) z)) (n ad (n b7 (f dp) z) (f cr))) (n ac (n (aQ P) (n ad (f cU) z) gY) (n ab (n b8 (f cV) z) (f ab)))) (n aa (n aa (n ad gZ (n cs (f dq) z)) (n (a4 P) (n bN (f cW) z) (f aa))) (n bE (n ab (n (bF P) (f aa) z) (n ab (f dr) z)) (n ad gY (f cX))))) (n ae (n ao (n aa (n (aE P) (n ad (f cY) z) (n ct (f ds) z)) (n ab hg (f ab))) (n aF (n ad (n ab (f cZ) z) (n cu (f aa) z)) (n (bb P) (n aa (f c0) z) (f cI)))) (n aa (n aG (n ab (n (br P) (f du) z) (n ab (f dv) z)) (n ad (n bO (f c1) z) (f c2))) (n ad (n (aZ P) gY (f b9)) (n ab (n cv (f dZ) z) (f ab))))))) (n (boot_o_2 P) (n (boot_o_4 P) (n (boot_o_8 P) (n ab (n ap (n aa (n aa (f c3) z) (n ca (f aa) z)) (n a5 gY (f ab))) (n aq (n aa (n bB (f ab) z) (n cb (f dw) z)) (n aa (n cc (f c4) z) (f aa)))) (n ar (n au (n aR gY hg) (n aa (n cd (f dx) z) (f ce))) (n (av P) (n aa (n aa (f c5) z) (n aa (f dy) z)) (n bl (n cw (f dz) z) (f ab))))) (n (l3 [(1,0,20),(5,0,27),(13,0,32),(18,0,39),(23,0,46),(34,0,53),(36,0,66),(38,0,78),(40,0,90),(42,0,102),(44,0,114),(46,0,126),(48,0,138),(50,0,150),(53,0,162),(60,0,183),(68,0,202),(74,0,207),(79,0,214),(88,0,221),(94,0,226),(101,0,231),(104,0,238),(114,0,245),(120,0,250),(136,0,257),(141,0,262),(156,0,269),(181,0,318),(187,0,325),(193,0,332),(198,0,339),(209,0,344)]) (n aw (n ax (n aa (n bt (f ab) z) (n cf (f d2) z)) (n aa gY (f aa))) (n ab (n aX (n aa (f c6) z) (n aa (f dA) z)) (n aa (n (cx P) (f c7) z) (f c8)))) (n ay (n aa (n aa (n aa (f dB) z) (n aa (f dC) z)) (n bc (n (bP P) (f ab) z) (f aa))) (n aH (n aa (n bQ (f c9) z) (f cy)) (n aa gY (f aa)))))) (n (boot_o_6 P) (n (boot_o_10 P) (n aa (n aa (n aS (n bm (f cJ) z) (n cg (f dD) z)) (n ac (n ch (f da) z) (f ci))) (n (aI P) (n aT (n ac (f aa) z) (n ab (f d7) z)) (n bn (n aa (f db) z) (f cK)))) (n aJ (n ab (n ac (n bC (f (dE P)) z) (n cj (f aa) z)) (n a6 (n bR (f dc) z) (f ab))) (n az (n a7 (n bG (f dF) z) (f ck)) (n ac hg (f cL))))) (n af (n aa (n aK (n aL (n ac (f cM) z) (n cz (f dG) z)) (n be (n bS (f df) z) (f cA))) (n aM (n ac (n bT (f aa) z) (n cm (f ab) z)) (n bf (n cB (f dg) z) (f cN)))) (n ab (n aA (n aY (n bu (f dH) z) (n cC (f aa) z)) (n ac (n bU (f aa) z) (f cO))) (n ac (n a0 (n ac (f ab) z) (f cn)) (n bv (n cp (f dI) z) (f cP)))))))
theorem te7434309279443320860:tw7434309279443320860=tw7434309279443320860:=rfl
def tw2450897063885453180:Params->BT:=λP=>n (boot_o_0 P) (n (boot_o_1 P) (n (gM P) (n (boot_o_7 P) (n aa (n aB (n (aN P) (f bo) z) (f a1)) (n ag (f aU) (f (bg P)))) (n ab (n ai (f aO) (f a8)) (n aa (f (a2 P)) (f bh)))) (n aa (g1 P) (n aj (n al (f (aW P)) (f ba)) (n aD (f a3) (f (bq P)))))) (n (boot_o_5 P) (n (boot_o_9 P) (g2 P) (n aa (n aa (f ad) (f (a4 P))) (n (ty (cl (S "PatchError") [(w "ValueError")] [(r 57),(w "ValueError"),(w "Exception"),(w "BaseException"),(w "object")] 56 (S "PatchError") true [] [(r 70),(r 82),(r 94),(r 106),(r 118),(r 130)] false none false) [(k (r 48)),none,(k (v "PatchError" 238)),(k (v "PatchError" 246)),(k (b "ValueError.__new__")),(k (vl true))]) (f ab) (f ad)))) (n ae (hj P) (n aa (n aG (f ab) (f ad)) (n ad (f (aZ P)) (f ab)))))) (n (boot_o_2 P) (n (boot_o_4 P) (n (boot_o_8 P) (n ab (n ap gY (f a5)) (n aq (f aa) (f aa))) (n ar (n au (f aR) (f aa)) (n (av P) (f aa) (f bl)))) (n (l3 [(1,0,20),(5,0,27),(13,0,32),(18,0,39),(23,0,46),(34,0,53),(36,0,66),(38,0,78),(40,0,90),(42,0,102),(44,0,114),(46,0,126)]) g5 (n ay (n aa (f aa) (f bc)) (n aH (f aa) (f aa))))) (n (boot_o_6 P) (n (boot_o_10 P) (g6 P) (n aJ (n ab (f ac) (f a6)) (n az (f a7) (f ac)))) (n af hk (n ab (n aA (f aY) (f ac)) (n ac (f a0) (f bv))))))
theorem te2450897063885453180:tw2450897063885453180=tw2450897063885453180:=rfl
def tw2644211919470134493:Params->BT:=λP=>n (boot_o_0 P) (n (boot_o_1 P) (n (gP P) (n (boot_o_7 P) (g0 P) (n ab (n ai (n aO (f (bz P)) z) (f a8)) (n aa (n (a2 P) (f bI) z) (f bh)))) (n aa (n aC (n ab (n aP (f bp) z) (f (a9 P))) (n aa (n aV (f (bJ P)) z) (f bi))) (n aj (n al (n (aW P) (f bA) z) (f ba)) (n aD (n a3 (f bM) z) (f (bq P)))))) (n (boot_o_5 P) (n (boot_o_9 P) (n am (n an (n ab (f (bj P)) z) (f ad)) (n ac (n (aQ P) (f ad) z) (f ab))) (n aa (n aa (n ad (f ab) z) (f (a4 P))) (n bE (n ab (f (bF P)) z) (f ad)))) (n ae (n ao (n aa (n (aE P) (f ad) z) (f ab)) (n aF (n ad (f ab) z) (f (bb P)))) (g3 P)))) (n (boot_o_2 P) (n (boot_o_4 P) (n (boot_o_8 P) g4 (n ar (n au (n aR (f aa) z) (f aa)) (n (av P) gY (f bl)))) (n (l3 [(1,0,20),(5,0,27),(13,0,32),(18,0,39),(23,0,46),(34,0,53),(36,0,66),(38,0,78),(40,0,90),(42,0,102),(44,0,114),(46,0,126),(48,0,138),(50,0,150)]) (n aw (n ax (n aa (f bt) z) (f aa)) (n ab (n aX (f aa) z) (f aa))) (n ay (n aa gY (f bc)) (n aH (n aa (f bQ) z) (f aa))))) (n (boot_o_6 P) (n (boot_o_10 P) (n aa (n aa (n aS (f bm) z) (f ac)) (n (aI P) (n aT (f ac) z) (f bn))) (n aJ (n ab (n ac (f bC) z) (f a6)) (n az (n a7 (f bG) z) (f ac)))) (n af (n aa (n aK (n aL (f ac) z) (f be)) (n aM (n ac (f bT) z) (f bf))) g7)))
theorem te2644211919470134493:tw2644211919470134493=tw2644211919470134493:=rfl
def tw6510939496724591293:Params->BT:=λP=>n (boot_o_0 P) (n (boot_o_1 P) (n (gR P) (n (boot_o_7 P) (n aa (n aB (f (aN P)) z) (f ag)) (n ab (n ai (f aO) z) (f aa))) (n aa (n aC (n ab (f aP) z) (f aa)) (n aj (f al) (f aD)))) (n (boot_o_5 P) (n (boot_o_9 P) (n am (n an (f ab) z) (f ac)) (n aa (f aa) (f (ty (cl (S "PatchError") [(w "ValueError")] [(r 57),(w "ValueError"),(w "Exception"),(w "BaseException"),(w "object")] 56 (S "PatchError") true [] [(r 70)] false none false) [(k (r 48)),none,(k (v "PatchError" 238)),(k (v "PatchError" 246)),(k (b "ValueError.__new__")),(k (vl true))])))) (n ae (n ao (n aa (f (aE P)) z) (f aF)) (n aa (f aG) (f ad))))) (n (boot_o_2 P) (n (boot_o_4 P) (n (boot_o_8 P) (n ab (n ap (f aa) z) (f aq)) (n ar (n au (f aR) z) (f (av P)))) (n (l3 [(1,0,20),(5,0,27),(13,0,32),(18,0,39),(23,0,46),(34,0,53),(36,0,66)]) (n aw (n ax (f aa) z) (f ab)) (n ay (f aa) (f aH)))) (n (boot_o_6 P) (n (boot_o_10 P) (n aa (n aa (f aS) z) (f (aI P))) (n aJ (f ab) (f az))) (n af (n aa (n aK (f aL) z) (f aM)) (n ab (f aA) (f ac)))))
theorem te6510939496724591293:tw6510939496724591293=tw6510939496724591293:=rfl
def tw12891079439239492639:Params->BT:=λP=>n (boot_o_0 P) (n (boot_o_1 P) (n (gU P) (n (boot_o_7 P) (n aa (n aB (n (aN P) (n bo (f aa) z) (f bV)) (n a1 (n (bW P) (f cQ) z) (f aa))) (n ag (n aU (n bw (f aa) z) (f bX)) (n (bg P) (n bH (f di) z) (f cD)))) (n ab (n ai (n aO (n (bz P) (f cE) z) (f aa)) (n a8 gY (f bY))) (n aa (n (a2 P) (n bI (f ab) z) (f bZ)) (n bh (n cq (f dj) z) (f aa))))) (n aa (n aC (n ab (n aP (n bp (f aa) z) (f b0)) (n (a9 P) (n b1 (f cR) z) (f b2))) (n aa (n aV (n (bJ P) (f dl) z) (f b3)) (n bi (n ac (f (cS P)) z) (f aa)))) (n aj (n al (n (aW P) (n bA (f aa) z) (f b4)) (n ba (n bL (f aa) z) (f cF))) (n aD (n a3 (n bM (f cT) z) (f aa)) (n (bq P) (f b5) (f cG)))))) (n (boot_o_5 P) (n (boot_o_9 P) (n am (n an (n ab (n (bj P) (f cH) z) (f (b6 P))) (n ad (n b7 (f dp) z) (f cr))) (n ac (n (aQ P) (n ad (f cU) z) (f aa)) (n ab (n b8 (f cV) z) (f ab)))) (n aa (n aa (n ad gZ (f cs)) (n (a4 P) (n bN (f cW) z) (f aa))) (n bE (n ab (n (bF P) (f aa) z) (f ab)) (n ad (f aa) (f cX))))) (n ae (n ao (n aa (n (aE P) (n ad (f cY) z) (f ct)) (n ab hg (f ab))) (n aF (n ad (n ab (f cZ) z) (f cu)) (n (bb P) (n aa (f c0) z) (f cI)))) (n aa (n aG (n ab (n (br P) (f du) z) (f ab)) (n ad (n bO (f c1) z) (f c2))) (n ad (n (aZ P) gY (f b9)) (n ab (f cv) (f ab))))))) (n (boot_o_2 P) (n (boot_o_4 P) (n (boot_o_8 P) (n ab (n ap (n aa (n aa (f c3) z) (f ca)) (n a5 gY (f ab))) (n aq (n aa (n bB (f ab) z) (f cb)) (n aa (n cc (f c4) z) (f aa)))) (n ar (n au (n aR gY (f ab)) (n aa (n cd (f dx) z) (f ce))) (n (av P) (n aa (n aa (f c5) z) (f aa)) (n bl (n cw (f dz) z) (f ab))))) (n (l3 [(1,0,20),(5,0,27),(13,0,32),(18,0,39),(23,0,46),(34,0,53),(36,0,66),(38,0,78),(40,0,90),(42,0,102),(44,0,114),(46,0,126),(48,0,138),(50,0,150),(53,0,162),(60,0,183),(68,0,202),(74,0,207),(79,0,214),(88,0,221),(94,0,226),(101,0,231),(104,0,238),(114,0,245),(120,0,250),(136,0,257),(141,0,262),(156,0,269)]) (n aw (n ax (n aa (n bt (f ab) z) (f cf)) (n aa gY (f aa))) (n ab (n aX (n aa (f c6) z) (f aa)) (n aa (n (cx P) (f c7) z) (f c8)))) (n ay (n aa (n aa (n aa (f dB) z) (f aa)) (n bc (n (bP P) (f ab) z) (f aa))) (n aH (n aa (n bQ (f c9) z) (f cy)) ha)))) (n (boot_o_6 P) (n (boot_o_10 P) (n aa (n aa (n aS (n bm (f cJ) z) (f cg)) (n ac (n ch (f da) z) (f ci))) (n (aI P) (n aT (n ac (f aa) z) (f ab)) (n bn (n aa (f db) z) (f cK)))) (n aJ (n ab (n ac (n bC (f (dE P)) z) (f cj)) (n a6 (n bR (f dc) z) (f ab))) (n az (n a7 (n bG (f dF) z) (f ck)) (n ac (f ab) (f cL))))) (n af (n aa (n aK (n aL (n ac (f cM) z) (f cz)) (n be (n bS (f df) z) (f cA))) (n aM (n ac (n bT (f aa) z) (f cm)) (n bf (n cB (f dg) z) (f cN)))) (n ab (n aA (n aY (n bu (f dH) z) (f cC)) (n ac (n bU (f aa) z) (f cO))) (n ac (n a0 (n ac (f ab) z) (f cn)) (n bv (f cp) (f cP)))))))
theorem te12891079439239492639:tw12891079439239492639=tw12891079439239492639:=rfl
def tw17054569386460266971:Params->Heap:=λP=>Heap.mk #[boot_o_0 P,boot_o_1 P,boot_o_2 P,boot_o_3 P,boot_o_4 P,boot_o_5 P,boot_o_6 P,boot_o_7 P,boot_o_8 P,boot_o_9 P,boot_o_10 P,aa,ab,ae,af] (Life.mk [] [] [] 0 [] [] false #[] [] 0 false false false 0 [2000,10,10] false 0 true [] [] 0 false)
theorem te17054569386460266971:tw17054569386460266971=tw17054569386460266971:=rfl
def tw3454783935208366749:Params->Heap:=λP=>Heap.mk #[boot_o_0 P,boot_o_1 P,boot_o_2 P,fa P,boot_o_4 P,boot_o_5 P,boot_o_6 P,boot_o_7 P,boot_o_8 P,boot_o_9 P,boot_o_10 P,aa,gc,ae,af,aa,ab,am,aa,aC,aw,ao,aa,ab,ar,aa,aJ,aj,ay,aa,ab,aB,ap,an,aa,ab,ax,aa,aK,ai,au,aa,ab,al,aa,aG,aA,ag,aq,ac,aI P,aa,ab,aF,aM,aa,av P,bE,az,aD,aH,ad,ac,aN P,aa,ab,aS,aP,aa,aE P,aL,aO,aR,ad,ac,aW P,aa,ab,aY,aU,aa,aQ P,aT,aV,aX,ad,ac,a2 P,aa,ab,a7,a3,aa,aZ P,a0,a1,a5,ad,ac,a9 P,aa,ab,be,a8,aa,a4 P,a6,ba,bc,ad,ac,bg P,aa,ab,bn,bi,aa,bb P,bf,bh,bl,ad,ac,bq P,aa,ab,bv,bo,aa,bj P,bm,bp,bt,ad,ac,bz P,aa,ab,bC,bA,aa,br P,bu,bw,bB,ad,ac,bJ P,aa,ab,bT,bI,aa,bF P,bG,bM,bQ,aa,ac,bW P,aa,b7,ch,b1,aa,ab,bS,aa,cd,bN,bR,bL,bP P,bO,bU,bH,cc,b8,aa,ac,cx P,aa,cB,cq,cw,aa,ab,b5,aa,cv,cp,bV,ca,b6 P,cg,b0,cf,ct,cz,aa,ab,cs,cj,b4,aa,ab,cC,bX,cb,aa,ab,b3,aa,cu,cm,bZ,aa,ab,ck,aa,cy,b9,cn,aa,ab,cr,ci,b2,aa,ab,cA,bY,ce,aa,ab,cF,aa,c2,cO,cD,aa,ab,cK,aa,c8,cI,cN,aa,ab,cX,cL,cG,aa,ab,cP,aa,c3,cH,cJ,aa,ab,cY,cM,cE,aa,ac,dE P,aa,dB,du,dH,aa,ab,cU,aa,dl,c6,cZ,aa,ab,c5,aa,dF,cT,c9,aa,ab,cQ,aa,dp,da,cR,aa,ab,df,aa,dx,cW,dc,aa,ab,c1,aa,di,c4,cV,db,cS P,c7,c0,dg,dj,dz,aa,ab,dn,aa,dZ,dI,dh,aa,ab,dD,aa,d2,ds,dG,aa,ab,dq,aa,dP,dC,dv,aa,ab,dw,aa,d7,dm,dA,aa,ab,dL,dy,dr,aa,ac,fR P,aa,f2,ej,eK,aa,ab,dN,aa,eB,ed,dJ,aa,ab,d9,aa,eY,dX,eg,aa,ab,dT,aa,er,d3,dW,aa,ab,d1,aa,e5,dQ,d4,aa,ab,ei,d0,dR,aa,ab,eS,dV,eb,aa,ab,ey,d8,dO,aa,ab,ef,aa,eL,dS,d6,aa,ab,eD,ee,dK,aa,ab,ea,aa,e0,dY,eh,aa,ab,eu,d5,dM,aa,ab,ec,aa,eP,dU,e3,aa,ab,eG,aa,fg,eN,ew,aa,ab,fP,eE,e7,aa,ab,eA,aa,fw,e1,eI,aa,ab,eJ,aa,fT,eo,eT,aa,ab,fi,eO,ez,aa,ab,eX,aa,f1,ek,eM,aa,ab,ep,aa,fD,e6,em,aa,ab,e4,aa,fS,eH,e9,aa,ab,ev,aa,fm,eU,eC,aa,ab,eQ,aa,fV,et,eZ,aa,ab,el,aa,fy,e2,es,eW,eF P,e8,en,eR,fB,fY,aa,ab,fE,aa,f4,fF,fx,aa,ab,fL,aa,gg,fh,fH,aa,ab,fq,aa,f9,f0,fe,aa,ab,ge,fo,fO,aa,ab,fj,aa,f8,fW,fu,aa,ab,gh,fc,fG,aa,ab,f6,fN,fC,aa,ab,fJ,aa,gf,ft,fQ,aa,ab,ff,aa,f7,fU,fp,aa,ab,fZ,aa,gb,fA,fX,aa,ab,ga,f3,fb,aa,ab,gd,fk,fM,aa,ab,fv "law" "law" (x 53),fI,fz] (Life.mk [] [] [] 0 [] [] false #[] [] 0 false false false 0 [2000,10,10] false 0 true [] [] 0 false)
theorem te3454783935208366749:tw3454783935208366749=tw3454783935208366749:=rfl
def tw10421969629066648003:Params->Frag:=λP=>[(2,boot_o_2 P),(3,fa P),(15,aa),(17,am),(18,aa),(20,aw),(21,ao),(22,aa),(24,ar),(25,aa),(27,aj),(28,ay),(29,aa),(32,ap),(33,an),(34,aa),(36,ax),(37,aa),(39,ai),(40,au),(41,aa),(43,al),(44,aa),(46,aA),(47,ag),(48,aq),(55,aa),(56,av P),(57,bE),(58,az),(61,ad),(68,aa),(69,aE P),(70,aL),(73,ad),(80,aa),(81,aQ P),(82,aT),(85,ad),(92,aa),(93,aZ P),(94,a0),(97,ad),(104,aa),(105,a4 P),(106,a6),(109,ad),(116,aa),(117,bb P),(118,bf),(121,ad),(128,aa),(129,bj P),(130,bm),(133,ad),(140,aa),(141,br P),(142,bu),(145,ad),(152,aa),(153,bF P),(154,bG),(164,aa),(166,bS),(167,aa),(169,bN),(170,bR),(171,bL),(172,bP P),(173,bO),(174,bU),(175,bH),(185,aa),(187,b5),(188,aa),(190,cp),(191,bV),(192,ca),(193,b6 P),(194,cg),(195,b0),(196,cf),(199,aa),(202,cj),(203,b4),(204,aa),(207,bX),(208,cb),(209,aa),(211,b3),(212,aa),(214,cm),(215,bZ),(216,aa),(218,ck),(219,aa),(221,b9),(222,cn),(223,aa),(226,ci),(227,b2),(228,aa),(231,bY),(232,ce),(233,aa),(235,cF),(236,aa),(238,cO),(239,cD),(240,aa),(242,cK),(243,aa),(245,cI),(246,cN),(247,aa),(250,cL),(251,cG),(252,aa),(254,cP),(255,aa),(257,cH),(258,cJ),(259,aa),(262,cM),(263,cE),(271,aa),(273,cU),(274,aa),(276,c6),(277,cZ),(278,aa),(280,c5),(281,aa),(283,cT),(284,c9),(285,aa),(287,cQ),(288,aa),(290,da),(291,cR),(292,aa),(294,df),(295,aa),(297,cW),(298,dc),(299,aa),(301,c1),(302,aa),(304,c4),(305,cV),(306,db),(307,cS P),(308,c7),(309,c0),(310,dg),(313,aa),(315,dn),(316,aa),(318,dI),(319,dh),(320,aa),(322,dD),(323,aa),(325,ds),(326,dG),(327,aa),(329,dq),(330,aa),(332,dC),(333,dv),(334,aa),(336,dw),(337,aa),(339,dm),(340,dA),(341,aa),(344,dy),(345,dr),(353,aa),(355,dN),(356,aa),(358,ed),(359,dJ),(360,aa),(362,d9),(363,aa),(365,dX),(366,eg),(367,aa),(369,dT),(370,aa),(372,d3),(373,dW),(374,aa),(376,d1),(377,aa),(379,dQ),(380,d4),(381,aa),(384,d0),(385,dR),(386,aa),(389,dV),(390,eb),(391,aa),(394,d8),(395,dO),(396,aa),(398,ef),(399,aa),(401,dS),(402,d6),(403,aa),(406,ee),(407,dK),(408,aa),(410,ea),(411,aa),(413,dY),(414,eh),(415,aa),(418,d5),(419,dM),(420,aa),(422,ec),(423,aa),(425,dU),(426,e3),(427,aa),(429,eG),(430,aa),(432,eN),(433,ew),(434,aa),(437,eE),(438,e7),(439,aa),(441,eA),(442,aa),(444,e1),(445,eI),(446,aa),(448,eJ),(449,aa),(451,eo),(452,eT),(453,aa),(456,eO),(457,ez),(458,aa),(460,eX),(461,aa),(463,ek),(464,eM),(465,aa),(467,ep),(468,aa),(470,e6),(471,em),(472,aa),(474,e4),(475,aa),(477,eH),(478,e9),(479,aa),(481,ev),(482,aa),(484,eU),(485,eC),(486,aa),(488,eQ),(489,aa),(491,et),(492,eZ),(493,aa),(495,el),(496,aa),(498,e2),(499,es),(500,eW),(501,eF P),(502,e8),(503,en),(504,eR),(507,aa),(509,fE),(510,aa),(512,fF),(513,fx),(514,aa),(516,fL),(517,aa),(519,fh),(520,fH),(521,aa),(523,fq),(524,aa),(526,f0),(527,fe),(528,aa),(531,fo),(532,fO),(533,aa),(535,fj),(536,aa),(538,fW),(539,fu),(540,aa),(543,fc),(544,fG),(545,aa),(548,fN),(549,fC),(550,aa),(552,fJ),(553,aa),(555,ft),(556,fQ),(557,aa),(559,ff),(560,aa),(562,fU),(563,fp),(564,aa),(566,fZ),(567,aa),(569,fA),(570,fX),(571,aa),(574,f3),(575,fb),(576,aa),(579,fk),(580,fM),(581,aa),(584,fI),(585,fz)]
theorem te10421969629066648003:tw10421969629066648003=tw10421969629066648003:=rfl
def tw15090451176734213123:List Stmt:=[x 11]
theorem te15090451176734213123:tw15090451176734213123=tw15090451176734213123:=rfl
def tw15650900512422998180:List Stmt:=[x 40,x 41,x 42,x 43,x 44,x 45,x 46,x 47,x 48,x 49,x 50,x 51,x 52,x 53]
theorem te15650900512422998180:tw15650900512422998180=tw15650900512422998180:=rfl
def tw12454932558123907816:List Stmt:=[x 18,x 19,x 20,x 21,x 22,x 23,x 24]
theorem te12454932558123907816:tw12454932558123907816=tw12454932558123907816:=rfl
def tw2809773509037809804:List Stmt:=[x 39]
theorem te2809773509037809804:tw2809773509037809804=tw2809773509037809804:=rfl
def tw13972729526599230316:List Stmt:=[x 13]
theorem te13972729526599230316:tw13972729526599230316=tw13972729526599230316:=rfl
def tw6414916402773555789:List Stmt:=[x 34,x 35,x 36,x 37,x 38]
theorem te6414916402773555789:tw6414916402773555789=tw6414916402773555789:=rfl
def tw17763172452039004751:List Stmt:=[x 15,x 16]
theorem te17763172452039004751:tw17763172452039004751=tw17763172452039004751:=rfl
def tw3242211680339282129:List Stmt:=[x 25,x 26,x 27,x 28,x 29]
theorem te3242211680339282129:tw3242211680339282129=tw3242211680339282129:=rfl
def tw3052530094727381076:List Stmt:=[x 10]
theorem te3052530094727381076:tw3052530094727381076=tw3052530094727381076:=rfl
def tw2690709662554688788:List Stmt:=[x 12]
theorem te2690709662554688788:tw2690709662554688788=tw2690709662554688788:=rfl
def tw12539301670274620180:List Stmt:=[x 14]
theorem te12539301670274620180:tw12539301670274620180=tw12539301670274620180:=rfl
def tw15841093874875716568:List Stmt:=[x 17]
theorem te15841093874875716568:tw15841093874875716568=tw15841093874875716568:=rfl
def tw16007196658809698522:List Stmt:=[x 0,x 1,x 2,x 3,x 4,x 5,x 6,x 7]
theorem te16007196658809698522:tw16007196658809698522=tw16007196658809698522:=rfl
def tw1430418939742662074:List Stmt:=[x 30,x 31,x 32,x 33]
theorem te1430418939742662074:tw1430418939742662074=tw1430418939742662074:=rfl
def tw7657427187687326301:List Stmt:=[x 8]
theorem te7657427187687326301:tw7657427187687326301=tw7657427187687326301:=rfl
def tw7713841622384560126:List Stmt:=[x 9]
theorem te7713841622384560126:tw7713841622384560126=tw7713841622384560126:=rfl
def tw2546834914392650046:Program:={PySem.Challenge.pw_patchkin_k10_whole_recorded_stands with main:={PySem.Challenge.pw_patchkin_k10_whole_recorded_stands.main with body:=[x 0,x 2,x 3,x 4,x 5,x 7,x 8,x 9,x 10,x 11,x 12,x 13,x 14,x 15,x 17,x 18,x 19,x 20,x 21,x 22,x 23,x 24,x 25,x 26,x 27,x 28,x 29,x 30,x 32,x 33,x 34,x 35,x 36,x 37,x 38,x 39,x 41,x 42,x 43,x 44,x 45,x 46,x 47,x 48,x 49,x 50,x 51,x 52,x 53]}}
theorem te2546834914392650046:tw2546834914392650046=tw2546834914392650046:=rfl
end
end PySem.W.Fast
namespace PK
open PySem L2
theorem all_mk{l:W.OpenLaw}{w:World}{K:Qqy}{h:Heap}{mg:Qqx}{fa f0 f1 f2 f3 f4 f5 f6 f7 f8 f9 f10 f11 f12 f13 f14 f15 f16 f17 f18 f19 f20 f21 f22 f23 f24 f25 f26 f27 f28 f29 f30 f31 f32 f33 f34 f35 f36 f37 f38 f39 f40 f41 f42 f43 f44 f45 f46 f47 f48 f49 f50 f51 f52 f53 f54 f55 f56 f57 f58 gS gT hZ gB lX jB jr iP jX oa lF uA tw:Addr}{nH lY:Tok}(X:K.In h)(G:h.Ns mainGlobals mg)(hfa:mg "law"=some (.ref fa))
  (DH:W.nsIn K mainGlobals "Line"=some (some (.ref gS)))
  (AN:W.nsIn K mainGlobals "Patch"=some (some (.ref gT)))
  (AO:W.nsIn K mainGlobals "Sight"=some (some (.ref hZ)))
  (DI:W.nsIn K mainGlobals "Desk"=some (some (.ref gB)))
  (h0:FI K "counts_with" o5 f0)
  (h1:FI K "most_pairs" qz f1)
  (h2:FI K "place_from" qA f2)
  (h3:FI K "kept" GA f3)
  (h4:FI K "lines_named_by" kP f4)
  (h5:FI K "leans_straight_on" jR f5)
  (h6:FI K "live_patches" nU f6)
  (h7:FI K "lines_put" rN f7)
  (h8:FI K "standing_lines" kQ f8)
  (h9:FI K "files_with_lines" nV f9)
  (WN:FI K "straight_ahead" mi f10)
  (Vh:FI K "joined" zW f11)
  (h12:FI K "all_ahead" oG f12)
  (h13:FI K "first_free" qB f13)
  (h14:FI K "row_of" vt f14)
  (h15:FI K "check_name" qC f15)
  (h16:FI K "check_places" nX f16)
  (h17:FI K "kept_behind" o6 f17)
  (h18:FI K "new_lines" rO f18)
  (h19:FI K "changing_patch" jW f19)
  (WO:FI K "_law_cell_at" nY f20)
  (Vi:FI K "_law_draw" rV f21)
  (h22:FI K "_law_name" rW f22)
  (h23:FI K "_law_text" oI f23)
  (h24:FI K "_law_edit" rX f24)
  (h25:FI K "_law_deed" oJ f25)
  (h26:FI K "_law_desk" mG f26)
  (h27:FI K "_law_whole" qH f27)
  (h28:FI K "_law_row_form" mY f28)
  (h29:FI K "_law_pairs_form" lU f29)
  (h30:FI K "_law_seen" oK f30)
  (h31:FI K "_law_cut_right" kR f31)
  (h32:FI K "law" zX f32)
  (h33:MI K gS "__init__" "Line.__init__" mU f33)
  (h34:MI K gT "__init__" "Patch.__init__" mf f34)
  (h35:MI K hZ "__init__" "Sight.__init__" mj f35)
  (h36:MI K hZ "is_ahead" "Sight.is_ahead" ml f36)
  (h37:MI K hZ "quarrelling" "Sight.quarrelling" kT f37)
  (h38:MI K gB "__init__" "Desk.__init__" mV f38)
  (h39:MI K gB "begin" "Desk.begin" qD f39)
  (WQ:MI K gB "stores" "Desk.stores" tV f40)
  (Vk:MI K gB "patches" "Desk.patches" rP f41)
  (h42:MI K gB "has" "Desk.has" qE f42)
  (h43:MI K gB "record" "Desk.record" my f43)
  (h44:MI K gB "cut" "Desk.cut" qF f44)
  (h45:MI K gB "back" "Desk.back" rQ f45)
  (h46:MI K gB "take" "Desk.take" oH f46)
  (h47:MI K gB "drop" "Desk.drop" rR f47)
  (h48:MI K gB "leans" "Desk.leans" nG f48)
  (h49:MI K gB "files" "Desk.files" vw f49)
  (WR:MI K gB "row" "Desk.row" qG f50)
  (Vl:MI K gB "quarrels" "Desk.quarrels" mW f51)
  (h52:MI K gB "patches_of" "Desk.patches_of" kx f52)
  (h53:MI K gB "sight_of" "Desk.sight_of" mX f53)
  (h54:MI K gB "check_store" "Desk.check_store" ly f54)
  (h55:MI K gB "check_made" "Desk.check_made" lS f55)
  (h56:MI K gB "check_held" "Desk.check_held" lT f56)
  (h57:MI K gB "check_new" "Desk.check_new" mq f57)
  (h58:MI K gB "keep" "Desk.keep" rS f58)
  (DJ:W.plainGet K gS Str.empty=true)
  (DK:W.hasDictIn K gS=true)
  (DL:W.plainOver K gS=true)
  (DN:W.findIn K (.ref gS) "__setattr__"=some (some (.builtin "object.__setattr__")))
  (DO:W.makesIn K gS=true)
  (DP:W.keepIn K (.ref gS)=true)
  (gQ:W.findIn K (.ref gS) "name"=some none)
  (jJ:W.findIn K (.ref gS) "text"=some none)
  (iF:W.findIn K (.ref gS) "upper_name"=some none)
  (iG:W.findIn K (.ref gS) "lower_name"=some none)
  (AQ:W.plainGet K gT Str.empty=true)
  (AR:W.hasDictIn K gT=true)
  (AS:W.plainOver K gT=true)
  (AU:W.findIn K (.ref gT) "__setattr__"=some (some (.builtin "object.__setattr__")))
  (AV:W.makesIn K gT=true)
  (AW:W.keepIn K (.ref gT)=true)
  (iT:W.findIn K (.ref gT) "name"=some none)
  (ko:W.findIn K (.ref gT) "file"=some none)
  (jN:W.findIn K (.ref gT) "puts"=some none)
  (jO:W.findIn K (.ref gT) "cuts"=some none)
  (iV:W.findIn K (.ref gT) "other"=some none)
  (AX:W.plainGet K hZ Str.empty=true)
  (AY:W.hasDictIn K hZ=true)
  (AZ:W.plainOver K hZ=true)
  (A1:W.findIn K (.ref hZ) "__setattr__"=some (some (.builtin "object.__setattr__")))
  (A2:W.makesIn K hZ=true)
  (A3:W.keepIn K (.ref hZ)=true)
  (jx:W.findIn K (.ref hZ) "ahead"=some none)
  (ik:W.findIn K (.ref hZ) "lines"=some none)
  (DQ:W.plainGet K gB Str.empty=true)
  (DR:W.hasDictIn K gB=true)
  (DS:W.plainOver K gB=true)
  (DT:W.findIn K (.ref gB) "__setattr__"=some (some (.builtin "object.__setattr__")))
  (DU:W.makesIn K gB=true)
  (DV:W.keepIn K (.ref gB)=true)
  (iW:W.findIn K (.ref gB) "made"=some none)
  (i9:W.findIn K (.ref gB) "needs"=some none)
  (iu:W.findIn K (.ref gB) "held"=some none)
  (ph:W.nsIn K mainGlobals "PatchError"=some (some (.ref lX)))
  (uJ:W.nsIn K mainGlobals "BadName"=some (some (.ref jB)))
  (qU:W.nsIn K mainGlobals "NameTaken"=some (some (.ref jr)))
  (uK:W.nsIn K mainGlobals "NoStore"=some (some (.ref iP)))
  (uL:W.nsIn K mainGlobals "NoPatch"=some (some (.ref jX)))
  (xK:W.nsIn K mainGlobals "NoLine"=some (some (.ref oa)))
  (qV:W.nsIn K mainGlobals "Unsettled"=some (some (.ref lF)))
  (DW:W.nsIn K mainGlobals "Same"=some (some (.ref uA)))
  (A4:W.nsIn K mainGlobals "Leant"=some (some (.ref tw)))
  (pk:W.nsIn K mainGlobals "NAME_SIGNS"=some (some (.str (Str.ofString "abcdefghijklmnopqrstuvwxyz0123456789") nH)))
  (ni:W.nsIn K mainGlobals "LONGEST_NAME"=some (some (.int 12 lY)))
  (Mf:W.nsIn K mainGlobals "len"=some none)
  (DX:W.nsIn K mainGlobals "range"=some none)
  (Mg:W.nsIn K mainGlobals "max"=some none)
  (qW:W.nsIn K mainGlobals "isinstance"=some none)
  (Mh:W.nsIn K mainGlobals "int"=some none)
  (Hf:W.nsIn K mainGlobals "bool"=some none)
  (Hg:W.nsIn K mainGlobals "list"=some none)
  (DY:W.nsIn K mainGlobals "tuple"=some none)
  (Mi:W.nsIn K mainGlobals "str"=some none)
  (uM:W.nsIn K mainGlobals "reversed"=some none)
  (A5:W.nsIn K mainGlobals "sorted"=some none)
  (Mj:W.nsIn K mainGlobals "set"=some none)
  (s_:W.nsIn K mainGlobals "enumerate"=some none)
  (qX:W.nsIn K mainGlobals "ValueError"=some none)
  (pq:W.excIn K lX [.type "ValueError",.type "Exception",.type "BaseException",.type "object"] "ValueError.__new__"=true)
  (uN:W.excIn K jB [.type "ValueError",.type "Exception",.type "BaseException",.type "object"] "ValueError.__new__"=true)
  (qY:W.excIn K jr [.type "ValueError",.type "Exception",.type "BaseException",.type "object"] "ValueError.__new__"=true)
  (uO:W.excIn K iP [.type "ValueError",.type "Exception",.type "BaseException",.type "object"] "ValueError.__new__"=true)
  (uP:W.excIn K jX [.type "ValueError",.type "Exception",.type "BaseException",.type "object"] "ValueError.__new__"=true)
  (xM:W.excIn K oa [.type "ValueError",.type "Exception",.type "BaseException",.type "object"] "ValueError.__new__"=true)
  (qZ:W.excIn K lF [.type "ValueError",.type "Exception",.type "BaseException",.type "object"] "ValueError.__new__"=true)
  (DZ:W.excIn K uA [.type "ValueError",.type "Exception",.type "BaseException",.type "object"] "ValueError.__new__"=true)
  (A6:W.excIn K tw [.type "ValueError",.type "Exception",.type "BaseException",.type "object"] "ValueError.__new__"=true) :
  ∃fd:FuncData,(∀(s:Shared)(v:Value),BindsTo s fd ⟨[v],[]⟩ [("script",v)])/\∀base:Heap,K.In base->base.Ns mainGlobals mg->ie l.prog w K mg base mL 20 fa fd ["script"] (HW K):=by
 obtain⟨m0,d0,F0⟩:=h0
 obtain⟨m1,d1,F1⟩:=h1
 obtain⟨m2,d2,F2⟩:=h2
 obtain⟨m3,d3,F3⟩:=h3
 obtain⟨m4,d4,F4⟩:=h4
 obtain⟨m5,d5,F5⟩:=h5
 obtain⟨m6,d6,F6⟩:=h6
 obtain⟨m7,d7,F7⟩:=h7
 obtain⟨m8,d8,F8⟩:=h8
 obtain⟨m9,d9,F9⟩:=h9
 obtain⟨m10,d10,F10⟩:=WN
 obtain⟨m11,d11,F11⟩:=Vh
 obtain⟨m12,d12,F12⟩:=h12
 obtain⟨m13,d13,F13⟩:=h13
 obtain⟨m14,d14,F14⟩:=h14
 obtain⟨m15,d15,F15⟩:=h15
 obtain⟨m16,d16,F16⟩:=h16
 obtain⟨m17,d17,F17⟩:=h17
 obtain⟨m18,d18,F18⟩:=h18
 obtain⟨m19,d19,F19⟩:=h19
 obtain⟨m20,d20,F20⟩:=WO
 obtain⟨m21,d21,F21⟩:=Vi
 obtain⟨m22,d22,F22⟩:=h22
 obtain⟨m23,d23,F23⟩:=h23
 obtain⟨m24,d24,F24⟩:=h24
 obtain⟨m25,d25,F25⟩:=h25
 obtain⟨m26,d26,F26⟩:=h26
 obtain⟨m27,d27,F27⟩:=h27
 obtain⟨m28,d28,F28⟩:=h28
 obtain⟨m29,d29,F29⟩:=h29
 obtain⟨m30,d30,F30⟩:=h30
 obtain⟨m31,d31,F31⟩:=h31
 obtain⟨m32,d32,F32⟩:=h32
 obtain⟨m33,d33,F33⟩:=h33
 obtain⟨m34,d34,F34⟩:=h34
 obtain⟨m35,d35,F35⟩:=h35
 obtain⟨m36,d36,F36⟩:=h36
 obtain⟨m37,d37,F37⟩:=h37
 obtain⟨m38,d38,F38⟩:=h38
 obtain⟨m39,d39,F39⟩:=h39
 obtain⟨m40,d40,F40⟩:=WQ
 obtain⟨m41,d41,F41⟩:=Vk
 obtain⟨m42,d42,F42⟩:=h42
 obtain⟨m43,d43,F43⟩:=h43
 obtain⟨m44,d44,F44⟩:=h44
 obtain⟨m45,d45,F45⟩:=h45
 obtain⟨m46,d46,F46⟩:=h46
 obtain⟨m47,d47,F47⟩:=h47
 obtain⟨m48,d48,F48⟩:=h48
 obtain⟨m49,d49,F49⟩:=h49
 obtain⟨m50,d50,F50⟩:=WR
 obtain⟨m51,d51,F51⟩:=Vl
 obtain⟨m52,d52,F52⟩:=h52
 obtain⟨m53,d53,F53⟩:=h53
 obtain⟨m54,d54,F54⟩:=h54
 obtain⟨m55,d55,F55⟩:=h55
 obtain⟨m56,d56,F56⟩:=h56
 obtain⟨m57,d57,F57⟩:=h57
 obtain⟨m58,d58,F58⟩:=h58
 have e:=hfa.symm.trans (aaG X G m32)
 cases e
 have T:Txt mg:=⟨abc X G Mf,abc X G DX,abc X G Mg,abc X G qW,abc X G Mh,abc X G Hf,abc X G Hg,abc X G DY,abc X G Mi,abc X G uM,abc X G A5,abc X G Mj,abc X G s_,abc X G qX⟩
 have O:Ok K mg (Ad.mk f0 d0 f1 d1 f2 d2 f3 d3 f33 d33 f34 d34 f4 d4 f5 d5 f6 d6 f7 d7 f8 d8 f9 d9 f10 d10 f11 d11 f12 d12 f13 d13 f14 d14 f35 d35 f36 d36 f37 d37 f15 d15 f16 d16 f17 d17 f18 d18 f19 d19 f38 d38 f39 d39 f40 d40 f41 d41 f42 d42 f43 d43 f44 d44 f45 d45 f46 d46 f47 d47 f48 d48 f49 d49 f50 d50 f51 d51 f52 d52 f53 d53 f54 d54 f55 d55 f56 d56 f57 d57 f58 d58 f20 d20 f21 d21 f22 d22 f23 d23 f24 d24 f25 d25 f26 d26 f27 d27 f28 d28 f29 d29 f30 d30 f31 d31 gS gT hZ gB lX jB jr iP jX oa lF uA tw nH lY ()):=⟨⟨F0,F0.bd,aaG X G m0⟩,⟨F1,F1.bd,aaG X G m1⟩,⟨F2,F2.bd,aaG X G m2⟩,⟨F3,F3.bd,aaG X G m3⟩,⟨F33,F33.bd,m33⟩,⟨F34,F34.bd,m34⟩,⟨F4,F4.bd,aaG X G m4⟩,⟨F5,F5.bd,aaG X G m5⟩,⟨F6,F6.bd,aaG X G m6⟩,⟨F7,F7.bd,aaG X G m7⟩,⟨F8,F8.bd,aaG X G m8⟩,⟨F9,F9.bd,aaG X G m9⟩,⟨F10,F10.bd,aaG X G m10⟩,⟨F11,F11.bd,aaG X G m11⟩,⟨F12,F12.bd,aaG X G m12⟩,⟨F13,F13.bd,aaG X G m13⟩,⟨F14,F14.bd,aaG X G m14⟩,⟨F35,F35.bd,m35⟩,⟨F36,F36.bd,m36⟩,⟨F37,F37.bd,m37⟩,⟨F15,F15.bd,aaG X G m15⟩,⟨F16,F16.bd,aaG X G m16⟩,⟨F17,F17.bd,aaG X G m17⟩,⟨F18,F18.bd,aaG X G m18⟩,⟨F19,F19.bd,aaG X G m19⟩,⟨F38,F38.bd,m38⟩,⟨F39,F39.bd,m39⟩,⟨F40,F40.bd,m40⟩,⟨F41,F41.bd,m41⟩,⟨F42,F42.bd,m42⟩,⟨F43,F43.bd,m43⟩,⟨F44,F44.bd,m44⟩,⟨F45,F45.bd,m45⟩,⟨F46,F46.bd,m46⟩,⟨F47,F47.bd,m47⟩,⟨F48,F48.bd,m48⟩,⟨F49,F49.bd,m49⟩,⟨F50,F50.bd,m50⟩,⟨F51,F51.bd,m51⟩,⟨F52,F52.bd,m52⟩,⟨F53,F53.bd,m53⟩,⟨F54,F54.bd,m54⟩,⟨F55,F55.bd,m55⟩,⟨F56,F56.bd,m56⟩,⟨F57,F57.bd,m57⟩,⟨F58,F58.bd,m58⟩,⟨F20,F20.bd,aaG X G m20⟩,⟨F21,F21.bd,aaG X G m21⟩,⟨F22,F22.bd,aaG X G m22⟩,⟨F23,F23.bd,aaG X G m23⟩,⟨F24,F24.bd,aaG X G m24⟩,⟨F25,F25.bd,aaG X G m25⟩,⟨F26,F26.bd,aaG X G m26⟩,⟨F27,F27.bd,aaG X G m27⟩,⟨F28,F28.bd,aaG X G m28⟩,⟨F29,F29.bd,aaG X G m29⟩,⟨F30,F30.bd,aaG X G m30⟩,⟨F31,F31.bd,aaG X G m31⟩,⟨DJ,DK,DL,DN⟩,⟨DO,m33.at_,m33.fn,DP⟩,aaG X G DH,gQ,jJ,iF,iG,⟨AQ,AR,AS,AU⟩,⟨AV,m34.at_,m34.fn,AW⟩,aaG X G AN,iT,ko,jN,jO,iV,⟨AX,AY,AZ,A1⟩,⟨A2,m35.at_,m35.fn,A3⟩,aaG X G AO,jx,ik,⟨DQ,DR,DS,DT⟩,⟨DU,m38.at_,m38.fn,DV⟩,aaG X G DI,iW,i9,iu,⟨aaG X G ph,pq⟩,⟨aaG X G uJ,uN⟩,⟨aaG X G qU,qY⟩,⟨aaG X G uK,uO⟩,⟨aaG X G uL,uP⟩,⟨aaG X G xK,xM⟩,⟨aaG X G qV,qZ⟩,⟨aaG X G DW,DZ⟩,⟨aaG X G A4,A6⟩,aaG X G pk,aaG X G ni,True.intro⟩
 refine⟨d32,λs v=>?_,λbase _ _=>Ra F32 T O⟩
 obtain⟨_,_,_,_,_,_,_,_,_,rfl,_,_⟩:=F32.ex
 exact .of_eq rfl
theorem walk{l:W.OpenLaw}{q:Program}{loose:List Str}{XP:(Qqx)->Heap->Prop}{YP:World->Heap->Prop}{d:DefRec}{K:Params->Qqy}(hn:l.most=some 63)(Uy:d.params.defaults=[])
  (hY:∀(w:World)(h:Heap),YP w h->(K w.params).In h)
  (F:∀(w:World)(mg:Qqx)(fa:Addr)(h:Heap),(K w.params).In h->h.Ns mainGlobals mg->mg d.name=some (.ref fa)->
   ∃fd:FuncData,(∀(s:Shared)(u:Value),BindsTo s fd ⟨[u],[]⟩ [("script",u)])/\∀base:Heap,(K w.params).In base->base.Ns mainGlobals mg->ie l.prog w (K w.params) mg base mL 20 fa fd ["script"] (HW (K w.params))) :
  W.WalkO q loose XP YP l.row.toRowW d [] (λf vs=>PySem.call f vs):=
 L2.MS (n:=63) (k:=20) (x:="script") (CX:=λ_=>mL) (sp:=λw=>HW (K w.params)) hn (by decide) Uy ⟨rfl,by decide,by decide⟩ hY F (λ_ _ a ns hl _ hS=>⟨a,ns,rfl,hS,hl,λ_=>rfl⟩) λ_ _ _ _ _ z=>z
end PK
open PySem PySem.W PyProof.Rows
theorem PySem.Challenge.cw_patchkin_k10_whole_recorded_stands_holds : PySem.Challenge.rw_patchkin_k10_whole_recorded_stands.Holds := by
 w_on;o_law;k_head;(case hw=>w_witness2)
 k_fill
 refine PK.walk (l:=PySem.Challenge.rw_patchkin_k10_whole_recorded_stands) rfl rfl (λw h Y=>PySem.W.kIn_of Y) ?F
 case F=>
  intro w mg fa h KX G Uz
  refine' PK.all_mk KX G Uz ?zqDH ?zqAN ?zqAO ?zqDI ?zqh0 ?zqh1 ?zqh2 ?zqh3 ?zqh4 ?zqh5 ?zqh6 ?zqh7 ?zqh8 ?zqh9 ?zqWN ?zqVh ?zqh12 ?zqh13 ?zqh14 ?zqh15 ?zqh16 ?zqh17 ?zqh18 ?zqh19 ?zqWO ?zqVi ?zqh22 ?zqh23 ?zqh24 ?zqh25 ?zqh26 ?zqh27 ?zqh28 ?zqh29 ?zqh30 ?zqh31 ?zqh32 ?zqh33 ?zqh34 ?zqh35 ?zqh36 ?zqh37 ?zqh38 ?zqh39 ?zqWQ ?zqVk ?zqh42 ?zqh43 ?zqh44 ?zqh45 ?zqh46 ?zqh47 ?zqh48 ?zqh49 ?zqWR ?zqVl ?zqh52 ?zqh53 ?zqh54 ?zqh55 ?zqh56 ?zqh57 ?zqh58 ?zqDJ ?zqDK ?zqDL ?zqDN ?zqDO ?zqDP ?zqgQ ?zqjJ ?zqiF ?zqiG ?zqAQ ?zqAR ?zqAS ?zqAU ?zqAV ?zqAW ?zqiT ?zqko ?zqjN ?zqjO ?zqiV ?zqAX ?zqAY ?zqAZ ?zqA1 ?zqA2 ?zqA3 ?zqjx ?zqik ?zqDQ ?zqDR ?zqDS ?zqDT ?zqDU ?zqDV ?zqiW ?zqi9 ?zqiu ?zqph ?zquJ ?zqqU ?zquK ?zquL ?zqxK ?zqqV ?zqDW ?zqA4 ?zqpk ?zqni ?zqMf ?zqDX ?zqMg ?zqqW ?zqMh ?zqHf ?zqHg ?zqDY ?zqMi ?zquM ?zqA5 ?zqMj ?zqs_ ?zqqX ?zqpq ?zquN ?zqqY ?zquO ?zquP ?zqxM ?zqqZ ?zqDZ ?zqA6
  (case zqDH|zqAN|zqAO|zqDI=>k_is)
  (case zqh0|zqh1|zqh2|zqh3|zqh4|zqh5|zqh6|zqh7|zqh8|zqh9|zqWN|zqVh|zqh12|zqh13|zqh14|zqh15|zqh16|zqh17|zqh18|zqh19|zqWO|zqVi|zqh22|zqh23|zqh24|zqh25|zqh26|zqh27|zqh28|zqh29|zqh30|zqh31|zqh32=>refine' L2.TM ?a ?l ?c ?k;(case a=>k_is);(case l=>k_is);(case c=>k_is);(case k=>k_is))
  (case zqh33|zqh34|zqh35|zqh36|zqh37|zqh38|zqh39|zqWQ|zqVk|zqh42|zqh43|zqh44|zqh45|zqh46|zqh47|zqh48|zqh49|zqWR|zqVl|zqh52|zqh53|zqh54|zqh55|zqh56|zqh57|zqh58=>refine' L2.TN ?a ?i ?l ?c ?k;(case a=>k_is);(case i=>k_is);(case l=>k_is);(case c=>k_is);(case k=>k_is))
  (case zqDJ|zqDK|zqDL|zqDN|zqDO|zqDP|zqgQ|zqjJ|zqiF|zqiG|zqAQ|zqAR|zqAS|zqAU|zqAV|zqAW|zqiT|zqko|zqjN|zqjO|zqiV|zqAX|zqAY|zqAZ|zqA1|zqA2|zqA3|zqjx|zqik|zqDQ|zqDR|zqDS|zqDT|zqDU|zqDV|zqiW|zqi9|zqiu|zqph|zquJ|zqqU|zquK|zquL|zqxK|zqqV|zqDW|zqA4|zqpk|zqni|zqMf|zqDX|zqMg|zqqW|zqMh|zqHf|zqHg|zqDY|zqMi|zquM|zqA5|zqMj|zqs_|zqqX=>k_is)
  (case zqpq|zquN|zqqY|zquO|zquP|zqxM|zqqZ|zqDZ|zqA6=>k_exc)
