import PyProof.Rows.All
import Wide.All
import OpenK.AllK
import Wide.FinOn
import HandS.ForMost
import HandS.Steps
import HandS.Evl
import HandS.IsInst
import HandS.Wide
import HandS.WideBits
import HandS.Defaults
import HandS.MakeKwOnly
import HandS.Style
import HandS.SortKw
import HandS.Zip
import HandS.Walk
import HandS.Text
import HandS.Rev
import HandS.TryOnly
import KE.GoesMore
import HandS.TupLe
import HandS.TupAny
import KE.DataMinMax
import KE.DatumOrd
import PyProof.P3Eq
import PySem.Challenge.RW_monochord_k68_best_subframe_written_and
set_option Elab.async false
set_option linter.all false
set_option maxRecDepth 100000
set_option maxHeartbeats 4000000
namespace K68
open PySem PySem.Spec PyProof.Rows L2 Evl
def topS (i : Nat) : Stmt := PySem.Challenge.pw_monochord_k68_best_subframe_written_and.main.body.getD i (.Pass ⟨0, 0, 0, 0⟩)
abbrev s_fixed_residuals : Stmt := topS 2
theorem sc_fixed_residuals : FnScope ["samples", "order", "residuals", "_", "early", "late"] ["samples", "order"] (defScope s_fixed_residuals) := ⟨rfl, rfl, rfl, by decide +kernel, rfl, by decide +kernel, by decide +kernel⟩
abbrev s_fixed_samples : Stmt := topS 3
theorem sc_fixed_samples : FnScope ["warm_up", "residuals", "limit", "order", "samples", "residual", "sample"] ["warm_up", "residuals", "limit"] (defScope s_fixed_samples) := ⟨rfl, rfl, rfl, by decide +kernel, rfl, by decide +kernel, by decide +kernel⟩
abbrev s_prediction_fixed : Stmt := topS 4
theorem sc_prediction_fixed : FnScope ["samples", "order"] ["samples", "order"] (defScope s_prediction_fixed) := ⟨rfl, rfl, rfl, by decide +kernel, rfl, by decide +kernel, by decide +kernel⟩
abbrev s_linear_residuals : Stmt := topS 7
theorem sc_linear_residuals : FnScope ["samples", "coefficients", "shift", "order", "backwards", "residuals", "at"] ["samples", "coefficients", "shift"] (defScope s_linear_residuals) := ⟨rfl, rfl, rfl, by decide +kernel, rfl, by decide +kernel, by decide +kernel⟩
abbrev s_linear_samples : Stmt := topS 8
theorem sc_linear_samples : FnScope ["warm_up", "residuals", "coefficients", "shift", "limit", "order", "backwards", "samples", "residual", "sample"] ["warm_up", "residuals", "coefficients", "shift", "limit"] (defScope s_linear_samples) := ⟨rfl, rfl, rfl, by decide +kernel, rfl, by decide +kernel, by decide +kernel⟩
abbrev s_prediction_linear : Stmt := topS 9
theorem sc_prediction_linear : FnScope ["latest", "backwards", "shift", "coefficient", "sample"] ["latest", "backwards", "shift"] (defScope s_prediction_linear) := ⟨rfl, rfl, rfl, by decide +kernel, rfl, by decide +kernel, by decide +kernel⟩
abbrev s_fold : Stmt := topS 18
theorem sc_fold : FnScope ["n"] ["n"] (defScope s_fold) := ⟨rfl, rfl, rfl, by decide +kernel, rfl, by decide +kernel, by decide +kernel⟩
abbrev s_unfold : Stmt := topS 19
theorem sc_unfold : FnScope ["u"] ["u"] (defScope s_unfold) := ⟨rfl, rfl, rfl, by decide +kernel, rfl, by decide +kernel, by decide +kernel⟩
abbrev s_code_length : Stmt := topS 20
theorem sc_code_length : FnScope ["k", "n"] ["k", "n"] (defScope s_code_length) := ⟨rfl, rfl, rfl, by decide +kernel, rfl, by decide +kernel, by decide +kernel⟩
abbrev s_write_code : Stmt := topS 21
theorem sc_write_code : FnScope ["writer", "k", "n", "folded"] ["writer", "k", "n"] (defScope s_write_code) := ⟨rfl, rfl, rfl, by decide +kernel, rfl, by decide +kernel, by decide +kernel⟩
abbrev s_read_code : Stmt := topS 22
theorem sc_read_code : FnScope ["reader", "k", "high"] ["reader", "k"] (defScope s_read_code) := ⟨rfl, rfl, rfl, by decide +kernel, rfl, by decide +kernel, by decide +kernel⟩
abbrev s_legal_partition_order : Stmt := topS 25
theorem sc_legal_partition_order : FnScope ["size", "order", "partition_order", "count"] ["size", "order", "partition_order"] (defScope s_legal_partition_order) := ⟨rfl, rfl, rfl, by decide +kernel, rfl, by decide +kernel, by decide +kernel⟩
abbrev s_partition_sizes : Stmt := topS 26
theorem sc_partition_sizes : FnScope ["size", "order", "partition_order", "whole"] ["size", "order", "partition_order"] (defScope s_partition_sizes) := ⟨rfl, rfl, rfl, by decide +kernel, rfl, by decide +kernel, by decide +kernel⟩
abbrev s_residual_bits : Stmt := topS 27
theorem sc_residual_bits : FnScope ["plan", "residuals", "order", "method", "partition_order", "codings", "bits", "coding", "part"] ["plan", "residuals", "order"] (defScope s_residual_bits) := ⟨rfl, rfl, rfl, by decide +kernel, rfl, by decide +kernel, by decide +kernel⟩
abbrev s_write_residuals : Stmt := topS 28
theorem sc_write_residuals : FnScope ["writer", "plan", "residuals", "order", "method", "partition_order", "codings", "coding", "part"] ["writer", "plan", "residuals", "order"] (defScope s_write_residuals) := ⟨rfl, rfl, rfl, by decide +kernel, rfl, by decide +kernel, by decide +kernel⟩
abbrev s_read_residuals : Stmt := topS 29
theorem sc_read_residuals : FnScope ["reader", "size", "order", "method", "partition_order", "codings", "residuals", "count", "coding"] ["reader", "size", "order"] (defScope s_read_residuals) := ⟨rfl, rfl, rfl, by decide +kernel, rfl, by decide +kernel, by decide +kernel⟩
abbrev s_parts : Stmt := topS 30
theorem sc_parts : FnScope ["residuals", "order", "partition_order", "parts", "start", "count"] ["residuals", "order", "partition_order"] (defScope s_parts) := ⟨rfl, rfl, rfl, by decide +kernel, rfl, by decide +kernel, by decide +kernel⟩
abbrev s_coding_width : Stmt := topS 31
theorem sc_coding_width : FnScope ["method"] ["method"] (defScope s_coding_width) := ⟨rfl, rfl, rfl, by decide +kernel, rfl, by decide +kernel, by decide +kernel⟩
abbrev s_raw_mark : Stmt := topS 32
theorem sc_raw_mark : FnScope ["method"] ["method"] (defScope s_raw_mark) := ⟨rfl, rfl, rfl, by decide +kernel, rfl, by decide +kernel, by decide +kernel⟩
abbrev s_part_bits : Stmt := topS 33
theorem sc_part_bits : FnScope ["method", "coding", "part", "kind", "number", "residual"] ["method", "coding", "part"] (defScope s_part_bits) := ⟨rfl, rfl, rfl, by decide +kernel, rfl, by decide +kernel, by decide +kernel⟩
abbrev s_write_coding : Stmt := topS 34
theorem sc_write_coding : FnScope ["writer", "method", "coding", "kind", "number"] ["writer", "method", "coding"] (defScope s_write_coding) := ⟨rfl, rfl, rfl, by decide +kernel, rfl, by decide +kernel, by decide +kernel⟩
abbrev s_write_part : Stmt := topS 35
theorem sc_write_part : FnScope ["writer", "coding", "part", "kind", "number", "residual"] ["writer", "coding", "part"] (defScope s_write_part) := ⟨rfl, rfl, rfl, by decide +kernel, rfl, by decide +kernel, by decide +kernel⟩
abbrev s_read_method : Stmt := topS 36
theorem sc_read_method : FnScope ["reader", "place", "method"] ["reader"] (defScope s_read_method) := ⟨rfl, rfl, rfl, by decide +kernel, rfl, by decide +kernel, by decide +kernel⟩
abbrev s_read_partition_order : Stmt := topS 37
theorem sc_read_partition_order : FnScope ["reader", "size", "order", "place", "partition_order"] ["reader", "size", "order"] (defScope s_read_partition_order) := ⟨rfl, rfl, rfl, by decide +kernel, rfl, by decide +kernel, by decide +kernel⟩
abbrev s_read_coding : Stmt := topS 38
theorem sc_read_coding : FnScope ["reader", "method", "number"] ["reader", "method"] (defScope s_read_coding) := ⟨rfl, rfl, rfl, by decide +kernel, rfl, by decide +kernel, by decide +kernel⟩
abbrev s_read_part : Stmt := topS 39
theorem sc_read_part : FnScope ["reader", "coding", "count", "kind", "number", "_"] ["reader", "coding", "count"] (defScope s_read_part) := ⟨rfl, rfl, rfl, by decide +kernel, rfl, by decide +kernel, by decide +kernel⟩
abbrev s_read_residual : Stmt := topS 40
theorem sc_read_residual : FnScope ["reader", "k", "place", "residual"] ["reader", "k"] (defScope s_read_residual) := ⟨rfl, rfl, rfl, by decide +kernel, rfl, by decide +kernel, by decide +kernel⟩
abbrev s_best_coding : Stmt := topS 45
theorem sc_best_coding : FnScope ["residuals", "order", "highest", "wide", "size", "top", "methods", "candidates", "parts", "partition_order", "method", "codings", "bits", "p"] ["residuals", "order", "highest", "wide"] (defScope s_best_coding) := ⟨rfl, rfl, rfl, by decide +kernel, rfl, by decide +kernel, by decide +kernel⟩
abbrev s_width : Stmt := topS 46
theorem sc_width : FnScope ["folded"] ["folded"] (defScope s_width) := ⟨rfl, rfl, rfl, by decide +kernel, rfl, by decide +kernel, by decide +kernel⟩
abbrev s_measured : Stmt := topS 47
theorem sc_measured : FnScope ["residuals", "folded", "width", "sums", "k", "residual", "value"] ["residuals"] (defScope s_measured) := ⟨rfl, rfl, rfl, by decide +kernel, rfl, by decide +kernel, by decide +kernel⟩
abbrev s_measured_parts : Stmt := topS 48
theorem sc_measured_parts : FnScope ["residuals", "sizes", "parts", "start", "size"] ["residuals", "sizes"] (defScope s_measured_parts) := ⟨rfl, rfl, rfl, by decide +kernel, rfl, by decide +kernel, by decide +kernel⟩
abbrev s_joined_in_pairs : Stmt := topS 49
theorem sc_joined_in_pairs : FnScope ["parts", "at"] ["parts"] (defScope s_joined_in_pairs) := ⟨rfl, rfl, rfl, by decide +kernel, rfl, by decide +kernel, by decide +kernel⟩
abbrev s_joined : Stmt := topS 50
theorem sc_joined : FnScope ["part", "other", "a", "b"] ["part", "other"] (defScope s_joined) := ⟨rfl, rfl, rfl, by decide +kernel, rfl, by decide +kernel, by decide +kernel⟩
abbrev s_entry : Stmt := topS 51
theorem sc_entry : FnScope ["part", "method", "count", "sums", "width", "field", "k", "bits", "raw_bits"] ["part", "method"] (defScope s_entry) := ⟨rfl, rfl, rfl, by decide +kernel, rfl, by decide +kernel, by decide +kernel⟩
abbrev s_entries : Stmt := topS 52
theorem sc_entries : FnScope ["parts", "method", "entries", "codings", "part", "coding", "_", "bits"] ["parts", "method"] (defScope s_entries) := ⟨rfl, rfl, rfl, by decide +kernel, rfl, by decide +kernel, by decide +kernel⟩
abbrev s_weighted : Stmt := topS 55
theorem sc_weighted : FnScope ["samples", "many", "at", "sample"] ["samples"] (defScope s_weighted) := ⟨rfl, rfl, rfl, by decide +kernel, rfl, by decide +kernel, by decide +kernel⟩
abbrev s_autocorrelation : Stmt := topS 56
theorem sc_autocorrelation : FnScope ["values", "most", "lag", "a", "b"] ["values", "most"] (defScope s_autocorrelation) := ⟨rfl, rfl, rfl, by decide +kernel, rfl, by decide +kernel, by decide +kernel⟩
abbrev s_exact_predictors : Stmt := topS 57
theorem sc_exact_predictors : FnScope ["correlation", "found", "numerators", "before", "denominator", "order", "last", "mirrored", "a", "b"] ["correlation"] (defScope s_exact_predictors) := ⟨rfl, rfl, rfl, by decide +kernel, rfl, by decide +kernel, by decide +kernel⟩
abbrev s_quantize : Stmt := topS 58
theorem sc_quantize : FnScope ["numerators", "denominator", "precision", "bound", "greatest", "shift", "numerator"] ["numerators", "denominator", "precision"] (defScope s_quantize) := ⟨rfl, rfl, rfl, by decide +kernel, rfl, by decide +kernel, by decide +kernel⟩
abbrev s_predictors : Stmt := topS 59
theorem sc_predictors : FnScope ["samples", "most", "precision", "exact", "numerators", "denominator"] ["samples", "most", "precision"] (defScope s_predictors) := ⟨rfl, rfl, rfl, by decide +kernel, rfl, by decide +kernel, by decide +kernel⟩
abbrev s_last_numerator : Stmt := topS 60
theorem sc_last_numerator : FnScope ["correlation", "numerators", "denominator", "order", "known", "at"] ["correlation", "numerators", "denominator"] (defScope s_last_numerator) := ⟨rfl, rfl, rfl, by decide +kernel, rfl, by decide +kernel, by decide +kernel⟩
abbrev s_rounded : Stmt := topS 61
theorem sc_rounded : FnScope ["a", "b"] ["a", "b"] (defScope s_rounded) := ⟨rfl, rfl, rfl, by decide +kernel, rfl, by decide +kernel, by decide +kernel⟩
abbrev s_Subframe_init : Stmt := inClass (topS 63) 0
theorem sc_Subframe_init : FnScope ["self", "kind", "order", "precision", "shift", "coefficients", "plan", "wasted"] ["self", "kind", "order", "precision", "shift", "coefficients", "plan", "wasted"] (defScope s_Subframe_init) := ⟨rfl, rfl, rfl, by decide +kernel, rfl, by decide +kernel, by decide +kernel⟩
abbrev s_write_subframe : Stmt := topS 64
theorem sc_write_subframe : FnScope ["writer", "depth", "samples", "subframe", "width", "values", "sample"] ["writer", "depth", "samples", "subframe"] (defScope s_write_subframe) := ⟨rfl, rfl, rfl, by decide +kernel, rfl, by decide +kernel, by decide +kernel⟩
abbrev s_read_subframe : Stmt := topS 65
theorem sc_read_subframe : FnScope ["reader", "depth", "size", "start", "kind", "order", "wasted", "width", "values", "subframe", "value"] ["reader", "depth", "size"] (defScope s_read_subframe) := ⟨rfl, rfl, rfl, by decide +kernel, rfl, by decide +kernel, by decide +kernel⟩
abbrev s_subframe_bits : Stmt := topS 66
theorem sc_subframe_bits : FnScope ["depth", "samples", "subframe", "width", "header", "values", "order", "residuals", "bits", "sample"] ["depth", "samples", "subframe"] (defScope s_subframe_bits) := ⟨rfl, rfl, rfl, by decide +kernel, rfl, by decide +kernel, by decide +kernel⟩
abbrev s_warm_up_length : Stmt := topS 67
theorem sc_warm_up_length : FnScope ["subframe"] ["subframe"] (defScope s_warm_up_length) := ⟨rfl, rfl, rfl, by decide +kernel, rfl, by decide +kernel, by decide +kernel⟩
abbrev s_residuals : Stmt := topS 68
theorem sc_residuals : FnScope ["values", "subframe"] ["values", "subframe"] (defScope s_residuals) := ⟨rfl, rfl, rfl, by decide +kernel, rfl, by decide +kernel, by decide +kernel⟩
abbrev s_kind_code : Stmt := topS 69
theorem sc_kind_code : FnScope ["subframe"] ["subframe"] (defScope s_kind_code) := ⟨rfl, rfl, rfl, by decide +kernel, rfl, by decide +kernel, by decide +kernel⟩
abbrev s_write_header : Stmt := topS 70
theorem sc_write_header : FnScope ["writer", "subframe"] ["writer", "subframe"] (defScope s_write_header) := ⟨rfl, rfl, rfl, by decide +kernel, rfl, by decide +kernel, by decide +kernel⟩
abbrev s_write_values : Stmt := topS 71
theorem sc_write_values : FnScope ["writer", "width", "values", "value"] ["writer", "width", "values"] (defScope s_write_values) := ⟨rfl, rfl, rfl, by decide +kernel, rfl, by decide +kernel, by decide +kernel⟩
abbrev s_write_predicted : Stmt := topS 72
theorem sc_write_predicted : FnScope ["writer", "width", "values", "subframe", "order"] ["writer", "width", "values", "subframe"] (defScope s_write_predicted) := ⟨rfl, rfl, rfl, by decide +kernel, rfl, by decide +kernel, by decide +kernel⟩
abbrev s_read_kind : Stmt := topS 73
theorem sc_read_kind : FnScope ["reader", "place", "code"] ["reader"] (defScope s_read_kind) := ⟨rfl, rfl, rfl, by decide +kernel, rfl, by decide +kernel, by decide +kernel⟩
abbrev s_read_wasted : Stmt := topS 74
theorem sc_read_wasted : FnScope ["reader", "depth", "place", "wasted"] ["reader", "depth"] (defScope s_read_wasted) := ⟨rfl, rfl, rfl, by decide +kernel, rfl, by decide +kernel, by decide +kernel⟩
abbrev s_read_values : Stmt := topS 75
theorem sc_read_values : FnScope ["reader", "width", "count", "_"] ["reader", "width", "count"] (defScope s_read_values) := ⟨rfl, rfl, rfl, by decide +kernel, rfl, by decide +kernel, by decide +kernel⟩
abbrev s_read_fixed : Stmt := topS 76
theorem sc_read_fixed : FnScope ["reader", "width", "size", "order", "wasted", "warm_up", "plan", "residuals", "values"] ["reader", "width", "size", "order", "wasted"] (defScope s_read_fixed) := ⟨rfl, rfl, rfl, by decide +kernel, rfl, by decide +kernel, by decide +kernel⟩
abbrev s_read_linear : Stmt := topS 77
theorem sc_read_linear : FnScope ["reader", "width", "size", "order", "wasted", "warm_up", "precision", "shift", "coefficients", "plan", "residuals", "values", "subframe"] ["reader", "width", "size", "order", "wasted"] (defScope s_read_linear) := ⟨rfl, rfl, rfl, by decide +kernel, rfl, by decide +kernel, by decide +kernel⟩
abbrev s_read_precision : Stmt := topS 78
theorem sc_read_precision : FnScope ["reader", "place", "field"] ["reader"] (defScope s_read_precision) := ⟨rfl, rfl, rfl, by decide +kernel, rfl, by decide +kernel, by decide +kernel⟩
abbrev s_read_shift : Stmt := topS 79
theorem sc_read_shift : FnScope ["reader", "place", "shift"] ["reader"] (defScope s_read_shift) := ⟨rfl, rfl, rfl, by decide +kernel, rfl, by decide +kernel, by decide +kernel⟩
abbrev s_limit : Stmt := topS 80
theorem sc_limit : FnScope ["width"] ["width"] (defScope s_limit) := ⟨rfl, rfl, rfl, by decide +kernel, rfl, by decide +kernel, by decide +kernel⟩
abbrev s_wasted_bits : Stmt := topS 85
theorem sc_wasted_bits : FnScope ["samples", "joined", "sample"] ["samples"] (defScope s_wasted_bits) := ⟨rfl, rfl, rfl, by decide +kernel, rfl, by decide +kernel, by decide +kernel⟩
abbrev s_best_subframe : Stmt := topS 86
theorem sc_best_subframe : FnScope ["samples", "depth", "settings", "wasted", "values", "width", "candidates", "sample"] ["samples", "depth", "settings"] (defScope s_best_subframe) := ⟨rfl, rfl, rfl, by decide +kernel, rfl, by decide +kernel, by decide +kernel⟩
abbrev s_first_smallest : Stmt := topS 87
theorem sc_first_smallest : FnScope ["candidates", "smallest", "candidate"] ["candidates"] (defScope s_first_smallest) := ⟨rfl, rfl, rfl, by decide +kernel, rfl, by decide +kernel, by decide +kernel⟩
abbrev s_fixed_candidates : Stmt := topS 88
theorem sc_fixed_candidates : FnScope ["values", "width", "wasted", "settings", "candidates", "order", "residuals", "plan", "bits", "subframe"] ["values", "width", "wasted", "settings"] (defScope s_fixed_candidates) := ⟨rfl, rfl, rfl, by decide +kernel, rfl, by decide +kernel, by decide +kernel⟩
abbrev s_linear_candidates : Stmt := topS 89
theorem sc_linear_candidates : FnScope ["values", "width", "wasted", "settings", "orders", "found", "candidates", "order", "predictor", "coefficients", "shift", "residuals", "plan", "bits", "subframe", "own_bits"] ["values", "width", "wasted", "settings"] (defScope s_linear_candidates) := ⟨rfl, rfl, rfl, by decide +kernel, rfl, by decide +kernel, by decide +kernel⟩
abbrev s_linear_orders : Stmt := topS 90
theorem sc_linear_orders : FnScope ["count", "settings", "lowest", "order"] ["count", "settings"] (defScope s_linear_orders) := ⟨rfl, rfl, rfl, by decide +kernel, rfl, by decide +kernel, by decide +kernel⟩
abbrev s_in_bounds : Stmt := topS 91
theorem sc_in_bounds : FnScope ["residuals"] ["residuals"] (defScope s_in_bounds) := ⟨rfl, rfl, rfl, by decide +kernel, rfl, by decide +kernel, by decide +kernel⟩
abbrev s_best_plan : Stmt := topS 92
theorem sc_best_plan : FnScope ["residuals", "order", "settings"] ["residuals", "order", "settings"] (defScope s_best_plan) := ⟨rfl, rfl, rfl, by decide +kernel, rfl, by decide +kernel, by decide +kernel⟩
abbrev s_BitWriter_init : Stmt := inClass (topS 95) 0
theorem sc_BitWriter_init : FnScope ["self"] ["self"] (defScope s_BitWriter_init) := ⟨rfl, rfl, rfl, by decide +kernel, rfl, by decide +kernel, by decide +kernel⟩
abbrev s_BitWriter_write : Stmt := inClass (topS 95) 1
theorem sc_BitWriter_write : FnScope ["self", "width", "value", "held", "held_bits"] ["self", "width", "value"] (defScope s_BitWriter_write) := ⟨rfl, rfl, rfl, by decide +kernel, rfl, by decide +kernel, by decide +kernel⟩
abbrev s_BitWriter_write_signed : Stmt := inClass (topS 95) 2
theorem sc_BitWriter_write_signed : FnScope ["self", "width", "value"] ["self", "width", "value"] (defScope s_BitWriter_write_signed) := ⟨rfl, rfl, rfl, by decide +kernel, rfl, by decide +kernel, by decide +kernel⟩
abbrev s_BitWriter_write_unary : Stmt := inClass (topS 95) 3
theorem sc_BitWriter_write_unary : FnScope ["self", "count", "zeros"] ["self", "count"] (defScope s_BitWriter_write_unary) := ⟨rfl, rfl, rfl, by decide +kernel, rfl, by decide +kernel, by decide +kernel⟩
abbrev s_BitWriter_pad : Stmt := inClass (topS 95) 4
theorem sc_BitWriter_pad : FnScope ["self"] ["self"] (defScope s_BitWriter_pad) := ⟨rfl, rfl, rfl, by decide +kernel, rfl, by decide +kernel, by decide +kernel⟩
abbrev s_BitWriter_byte_list : Stmt := inClass (topS 95) 6
theorem sc_BitWriter_byte_list : FnScope ["self"] ["self"] (defScope s_BitWriter_byte_list) := ⟨rfl, rfl, rfl, by decide +kernel, rfl, by decide +kernel, by decide +kernel⟩
abbrev s_BitWriter_bits_written : Stmt := inClass (topS 95) 7
theorem sc_BitWriter_bits_written : FnScope ["self"] ["self"] (defScope s_BitWriter_bits_written) := ⟨rfl, rfl, rfl, by decide +kernel, rfl, by decide +kernel, by decide +kernel⟩
abbrev s_BitReader_init : Stmt := inClass (topS 96) 0
theorem sc_BitReader_init : FnScope ["self", "data", "at"] ["self", "data", "at"] (defScope s_BitReader_init) := ⟨rfl, rfl, rfl, by decide +kernel, rfl, by decide +kernel, by decide +kernel⟩
abbrev s_BitReader_read : Stmt := inClass (topS 96) 1
theorem sc_BitReader_read : FnScope ["self", "width", "data", "start", "stop", "last", "value", "byte"] ["self", "width"] (defScope s_BitReader_read) := ⟨rfl, rfl, rfl, by decide +kernel, rfl, by decide +kernel, by decide +kernel⟩
abbrev s_BitReader_read_signed : Stmt := inClass (topS 96) 2
theorem sc_BitReader_read_signed : FnScope ["self", "width", "value"] ["self", "width"] (defScope s_BitReader_read_signed) := ⟨rfl, rfl, rfl, by decide +kernel, rfl, by decide +kernel, by decide +kernel⟩
abbrev s_BitReader_read_unary : Stmt := inClass (topS 96) 3
theorem sc_BitReader_read_unary : FnScope ["self", "data", "place", "ahead", "one", "count"] ["self"] (defScope s_BitReader_read_unary) := ⟨rfl, rfl, rfl, by decide +kernel, rfl, by decide +kernel, by decide +kernel⟩
abbrev s_BitReader_rest_of_byte : Stmt := inClass (topS 96) 7
theorem sc_BitReader_rest_of_byte : FnScope ["self", "place"] ["self"] (defScope s_BitReader_rest_of_byte) := ⟨rfl, rfl, rfl, by decide +kernel, rfl, by decide +kernel, by decide +kernel⟩
abbrev s_BitReader_byte_place : Stmt := inClass (topS 96) 9
theorem sc_BitReader_byte_place : FnScope ["self"] ["self"] (defScope s_BitReader_byte_place) := ⟨rfl, rfl, rfl, by decide +kernel, rfl, by decide +kernel, by decide +kernel⟩
abbrev s_BitReader_bit_place : Stmt := inClass (topS 96) 10
theorem sc_BitReader_bit_place : FnScope ["self"] ["self"] (defScope s_BitReader_bit_place) := ⟨rfl, rfl, rfl, by decide +kernel, rfl, by decide +kernel, by decide +kernel⟩
abbrev s_Settings_init : Stmt := inClass (topS 98) 0
theorem sc_Settings_init : FnScope ["self", "block_size", "block_sizes", "fixed_order", "linear_order", "search", "precision", "partition_order", "wide", "stereo", "wasted", "seek_interval", "vendor"] ["self", "block_size", "block_sizes", "fixed_order", "linear_order", "search", "precision", "partition_order", "wide", "stereo", "wasted", "seek_interval", "vendor"] (defScope s_Settings_init) := ⟨rfl, rfl, rfl, by decide +kernel, rfl, by decide +kernel, by decide +kernel⟩
abbrev s_law_cell : Stmt := topS 100
theorem sc_law_cell : FnScope ["script", "k"] ["script", "k"] (defScope s_law_cell) := ⟨rfl, rfl, rfl, by decide +kernel, rfl, by decide +kernel, by decide +kernel⟩
abbrev s_law_integer : Stmt := topS 101
theorem sc_law_integer : FnScope ["value"] ["value"] (defScope s_law_integer) := ⟨rfl, rfl, rfl, by decide +kernel, rfl, by decide +kernel, by decide +kernel⟩
abbrev s_law_integers : Stmt := topS 102
theorem sc_law_integers : FnScope ["values", "value"] ["values"] (defScope s_law_integers) := ⟨rfl, rfl, rfl, by decide +kernel, rfl, by decide +kernel, by decide +kernel⟩
abbrev s_law_row : Stmt := topS 103
theorem sc_law_row : FnScope ["cell", "count", "bound", "rest", "mixed", "row", "k"] ["cell", "count", "bound"] (defScope s_law_row) := ⟨rfl, rfl, rfl, by decide +kernel, rfl, by decide +kernel, by decide +kernel⟩
abbrev s_law_signal : Stmt := topS 104
theorem sc_law_signal : FnScope ["cell", "count", "depth", "shape", "half", "step", "x", "samples", "level", "slope"] ["cell", "count", "depth", "shape"] (defScope s_law_signal) := ⟨rfl, rfl, rfl, by decide +kernel, rfl, by decide +kernel, by decide +kernel⟩
abbrev s_law_settings : Stmt := topS 105
theorem sc_law_settings : FnScope ["cell", "size", "linear", "rest", "fixed", "degree", "tried", "digits", "parts", "both_methods", "paired", "halved"] ["cell", "size", "linear"] (defScope s_law_settings) := ⟨rfl, rfl, rfl, by decide +kernel, rfl, by decide +kernel, by decide +kernel⟩
abbrev s_law_fields : Stmt := topS 106
theorem sc_law_fields : FnScope ["told"] ["told"] (defScope s_law_fields) := ⟨rfl, rfl, rfl, by decide +kernel, rfl, by decide +kernel, by decide +kernel⟩
abbrev s_law_bounded : Stmt := topS 107
theorem sc_law_bounded : FnScope ["samples", "depth", "settings", "degree", "k", "bits", "x", "row", "j", "total", "folded", "i"] ["samples", "depth", "settings", "degree", "k", "bits"] (defScope s_law_bounded) := ⟨rfl, rfl, rfl, by decide +kernel, rfl, by decide +kernel, by decide +kernel⟩
abbrev s_law : Stmt := topS 108
theorem sc_law : FnScope ["script", "first", "depth", "count", "samples", "settings", "given", "actual", "degree", "writer", "reader", "back", "x"] ["script"] (defScope s_law) := ⟨rfl, rfl, rfl, by decide +kernel, rfl, by decide +kernel, by decide +kernel⟩
theorem hu64 {A : Around} {k : Nat} (hr : Room k A) : A.units + 64 < cLine := hr.units
/-! ### short words for readings -/
theorem ret_eq {v w : V} {H H' : Hp} {Q : VK} (k : RetV v H Q) (ex : Ex H H') (e : w = v) : Q w H' := e ▸ k H' ex
/-- isinstance(x, T), T a built-in class -/
theorem ev_isi {K : PySem.W.Frag} {σ : L2.St} {H : Hp} {ta : TE} {x : V} {t : String} {T : String} {b : Bool} (ha : Ev ta σ H x) (ht : ∀ H1, Ex H H1 → TyX K H1 x (.type t)) (hk : kitB t T = some b) :
    Ev (tCB (rIsi K) (tCons ta (tCons (tC (.ty T)) tNil))) σ H (.bl b) :=
  ev_cb (ea_cons ha (ea_cons ev_c ea_nil)) fun H1 e Q q => ⟨x, .ty T, _, _, b, rfl, .ty T, ht H1 e, kit_ty hk, q H1 (Ex.refl H1)⟩
theorem isi_int {K : PySem.W.Frag} {H : Hp} {i : Int} : ∀ H1, Ex H H1 → TyX K H1 (V.int i) (.type "int") := fun _ _ => .base (.int _)
theorem isi_lst {K : PySem.W.Frag} {H : Hp} {a : Addr} {xs : List V} (h : H a = some (.lst xs)) : ∀ H1, Ex H H1 → TyX K H1 (V.ref a) (.type "list") := fun _ e => .base (.lst (e _ _ h))
theorem isi_tup {K : PySem.W.Frag} {H : Hp} {a : Addr} {xs : List V} (h : H a = some (.tup xs)) : ∀ H1, Ex H H1 → TyX K H1 (V.ref a) (.type "tuple") := fun _ e => .base (.tup (e _ _ h))
theorem kit_ii : kitB "int" "int" = some true := by decide +kernel
theorem kit_ib : kitB "int" "bool" = some false := by decide +kernel
theorem kit_ll : kitB "list" "list" = some true := by decide +kernel
theorem kit_tt : kitB "tuple" "tuple" = some true := by decide +kernel
theorem ev_isiI {K : PySem.W.Frag} {σ : L2.St} {H : Hp} {ta : TE} {i : Int} (ha : Ev ta σ H (.int i)) : Ev (tCB (rIsi K) (tCons ta (tCons (tC (.ty "int")) tNil))) σ H (.bl true) := ev_isi ha isi_int kit_ii
theorem ev_isiB {K : PySem.W.Frag} {σ : L2.St} {H : Hp} {ta : TE} {i : Int} (ha : Ev ta σ H (.int i)) : Ev (tCB (rIsi K) (tCons ta (tCons (tC (.ty "bool")) tNil))) σ H (.bl false) := ev_isi ha isi_int kit_ib
theorem ev_isiL {K : PySem.W.Frag} {σ : L2.St} {H : Hp} {ta : TE} {a : Addr} {xs : List V} (ha : Ev ta σ H (.ref a)) (h : H a = some (.lst xs)) : Ev (tCB (rIsi K) (tCons ta (tCons (tC (.ty "list")) tNil))) σ H (.bl true) := ev_isi ha (isi_lst h) kit_ll
theorem ev_chain {σ : L2.St} {H : Hp} {ta tb tc : TE} {g g' : Int → Int → Bool} {a b c : Int} (ha : Ev ta σ H (.int a)) (hb : Ev tb σ H (.int b)) (hc : Ev tc σ H (.int c)) :
    Ev (tChain (rI0 fun i j => .bl (g i j)) (rI0 fun i j => .bl (g' i j)) ta tb tc) σ H (.bl (g a b && g' b c)) := fun H1 e Q q =>
  ha H1 e _ fun H2 e2 => hb H2 (e.trans e2) _ fun H3 e3 => ⟨a, b, rfl, rfl, g a b, rfl, by
    cases hg : g a b with
    | true =>
      rw [if_pos rfl]
      rw [hg, Bool.true_and] at q
      exact hc H3 ((e.trans e2).trans e3) _ fun H4 e4 => ⟨b, c, rfl, rfl, q H4 ((e2.trans e3).trans e4)⟩
    | false =>
      rw [if_neg (by decide)]
      rw [hg, Bool.false_and] at q
      exact q H3 (e2.trans e3)⟩
theorem ev_isN {σ : L2.St} {H : Hp} {ta : TE} {x : V} (ha : Ev ta σ H x) : Ev (tOp rIsN ta (tC .non)) σ H (.bl (decide (x = .non))) := fun H1 e Q q => ha H1 e _ fun H2 e2 => ⟨rfl, q H2 e2⟩
theorem ev_notN {σ : L2.St} {H : Hp} {ta : TE} {x : V} (ha : Ev ta σ H x) : Ev (tOp rNotN ta (tC .non)) σ H (.bl (!decide (x = .non))) := fun H1 e Q q => ha H1 e _ fun H2 e2 => ⟨rfl, q H2 e2⟩
theorem ev_min2 {σ : L2.St} {H : Hp} {ta tb : TE} {i j : Int} (ha : Ev ta σ H (.int i)) (hb : Ev tb σ H (.int j)) :
    Ev (tCB (fun xs H Q => ∃ i j, xs = [.int i, .int j] ∧ Q (.int (if j < i then j else i)) H) (tCons ta (tCons tb tNil))) σ H (.int (if j < i then j else i)) :=
  ev_cb (ea_cons ha (ea_cons hb ea_nil)) fun H1 _ _ q => ⟨i, j, rfl, q H1 (Ex.refl H1)⟩
theorem ev_negI {σ : L2.St} {H : Hp} {ta : TE} {i : Int} (ha : Ev ta σ H (.int i)) : Ev (tUn (rU fun i => .int (-i)) ta) σ H (.int (-i)) := ev_un ha ru_neg
theorem ev_I0 {σ : L2.St} {H : Hp} {ta tb : TE} {g : Int → Int → V} {i j : Int} (ha : Ev ta σ H (.int i)) (hb : Ev tb σ H (.int j)) : Ev (tOp (rI0 g) ta tb) σ H (g i j) := ev_op ha hb rv_I0
theorem ev_I {σ : L2.St} {H : Hp} {ta tb : TE} {C : Int → Int → Prop} {g : Int → Int → V} {i j : Int} (ha : Ev ta σ H (.int i)) (hb : Ev tb σ H (.int j)) (hc : C i j) : Ev (tOp (rI C g) ta tb) σ H (g i j) := ev_op ha hb (rv_I hc)
theorem ev_eq {σ : L2.St} {H : Hp} {ta tb : TE} {x y : V} (ha : Ev ta σ H x) (hb : Ev tb σ H y) (hs : scal x y = true) : Ev (tOp rEq ta tb) σ H (.bl (decide (x = y))) := ev_op ha hb (rv_eq hs)
theorem ev_ne {σ : L2.St} {H : Hp} {ta tb : TE} {x y : V} (ha : Ev ta σ H x) (hb : Ev tb σ H y) (hs : scal x y = true) : Ev (tOp rNe ta tb) σ H (.bl (!decide (x = y))) := ev_op ha hb (rv_ne hs)
theorem int_at {ns : List Int} {i : Nat} {x : V} (hx : (ns.map V.int)[i]? = some x) : ∃ n, ns[i]? = some n ∧ i < ns.length ∧ x = V.int n := by
  rw [List.getElem?_map] at hx
  cases en : ns[i]? with
  | none => rw [en] at hx; cases hx
  | some n => rw [en] at hx; exact ⟨n, rfl, (List.getElem?_eq_some_iff.mp en).1, (Option.some.inj hx).symm⟩
theorem at_int {ns : List Int} {i : Nat} {n : Int} (h : ns[i]? = some n) : (ns.map V.int)[i]? = some (V.int n) := by rw [List.getElem?_map, h]; rfl
local macro_rules | `(tactic| walk_at "side") => `(tactic| first
  | omega | (show CMul _ _; unfold CMul; omega) | (show CDiv _ _; unfold CDiv; omega) | (show CPow _ _; unfold CPow; omega) | (show (_ : Int) < _; omega) | (show (_ : Int) ≤ _; omega) | decide)
local macro_rules | `(tactic| walk_at "ev") => `(tactic| first
  | exact ev_var rfl
  | exact ev_c
  | (refine' ev_I0 ?h1 ?h2; (case h1 => walk_at "ev"); (case h2 => walk_at "ev"))
  | (refine' ev_negI ?h1; (case h1 => walk_at "ev"))
  | (refine' ev_I ?h1 ?h2 ?hc; (case h1 => walk_at "ev"); (case h2 => walk_at "ev"); (case hc => walk_at "side"))
  | (refine' ev_eq ?h1 ?h2 ?hc; (case h1 => walk_at "ev"); (case h2 => walk_at "ev"); (case hc => rfl))
  | (refine' ev_ne ?h1 ?h2 ?hc; (case h1 => walk_at "ev"); (case h2 => walk_at "ev"); (case hc => rfl))
  | (refine' ev_max2 ?h1 ?h2; (case h1 => walk_at "ev"); (case h2 => walk_at "ev"))
  | (refine' ev_min2 ?h1 ?h2; (case h1 => walk_at "ev"); (case h2 => walk_at "ev"))
  | (refine' ev_chain ?h1 ?h2 ?h3; (case h1 => walk_at "ev"); (case h2 => walk_at "ev"); (case h3 => walk_at "ev"))
  | (refine' ev_isN ?h1; (case h1 => walk_at "ev"))
  | (refine' ev_notN ?h1; (case h1 => walk_at "ev"))
  | (refine' ev_isiI ?h1; (case h1 => walk_at "ev"))
  | (refine' ev_isiB ?h1; (case h1 => walk_at "ev"))
  | (refine' ev_isiBB ?h1; (case h1 => walk_at "ev"))
  | (refine' ev_andV ?h1 (fun _ => ?h2); (case h1 => walk_at "ev"); (case h2 => walk_at "ev"))
  | (refine' ev_orV ?h1 (fun _ => ?h2); (case h1 => walk_at "ev"); (case h2 => walk_at "ev"))
  | (refine' ev_notV ?h1; (case h1 => walk_at "ev"))
  | walk_at "evmore")
local macro_rules | `(tactic| walk_at "et") => `(tactic| first
  | (refine' et_test ?h1; (case h1 => walk_at "ev"))
  | (refine' et_B ?h1; (case h1 => walk_at "ev"))
  | (refine' et_not ?h1; (case h1 => walk_at "et"))
  | (refine' et_and ?h1 (fun _ => ?h2); (case h1 => walk_at "et"); (case h2 => walk_at "et"))
  | (refine' et_or ?h1 (fun _ => ?h2); (case h1 => walk_at "et"); (case h2 => walk_at "et")))
local macro_rules | `(tactic| walk_at "ea") => `(tactic| first
  | exact ea_nil
  | (refine' ea_cons ?h1 ?h2; (case h1 => walk_at "ev"); (case h2 => walk_at "ea")))
local macro_rules | `(tactic| walk_at "when") => `(tactic| (refine' q_when ?h ?h1 ?h2; (case h => walk_at "et")))
local macro_rules | `(tactic| walk_at "whenS") => `(tactic| (refine' s_when ?h ?h1 ?h2; (case h => walk_at "et")))
local macro_rules | `(tactic| walk_at "if") => `(tactic| (refine' q_if ?h ?h1 ?h2; (case h => walk_at "et")))
local macro_rules | `(tactic| walk_at "ifS") => `(tactic| (refine' s_if ?h ?h1 ?h2; (case h => walk_at "et")))
local macro_rules | `(tactic| walk_at "ret") => `(tactic| (refine' s_ret ?h ?h1; (case h => walk_at "ev")))
local macro_rules | `(tactic| walk_at "asg") => `(tactic| (refine' q_asg ?h ?h1; (case h => walk_at "ev")))
local macro_rules | `(tactic| walk_at "asgS") => `(tactic| (refine' s_asg ?h ?h1; (case h => walk_at "ev")))

/-! ### lists, existing or new -/
def EvR (te : TE) (σ : L2.St) (H : Hp) (xs : List V) : Prop := ∀ H1, Ex H H1 → ∀ Q : VK, (∀ p H2, Ex H1 H2 → H2 p = some (.lst xs) → Q (.ref p) H2) → te σ H1 Q
def EvS (K : PySem.W.Frag) (te : TE) (σ : L2.St) (H : Hp) (xs : List V) : Prop := ∀ H1, Ex H H1 → ∀ Q : VK, (∀ p H2, Ex H1 H2 → SqL K H2 p xs → Q (.ref p) H2) → te σ H1 Q
section
variable {K : PySem.W.Frag} {σ : L2.St} {H H' : Hp} {ta tb te : TE} {xs ys : List V} {a : Addr}
theorem EvL.r (h : EvL te σ H xs) : EvR te σ H xs := fun H1 e Q q => h H1 e Q fun p H2 _ e2 h2 => q p H2 e2 h2
theorem Ev.r (h : Ev te σ H (.ref a)) (hx : H a = some (.lst xs)) : EvR te σ H xs := fun H1 e Q q => h H1 e Q fun H2 e2 => q a H2 e2 (e2 _ _ (e _ _ hx))
theorem EvR.s (h : EvR te σ H xs) : EvS K te σ H xs := fun H1 e Q q => h H1 e Q fun p H2 e2 h2 => q p H2 e2 (sq_of h2)
theorem Ev.s (h : Ev te σ H (.ref a)) (hx : SqL K H a xs) : EvS K te σ H xs := fun H1 e Q q => h H1 e Q fun H2 e2 => q a H2 e2 (ex_l e2 (ex_l e hx))
theorem EvL.is (h : EvL te σ H xs) (e : xs = ys) : EvL te σ H ys := e ▸ h
theorem el_cat (ha : EvR ta σ H xs) (hb : EvR tb σ H ys) (hl : xs.length + ys.length ≤ 100000) : EvL (tOp rCat ta tb) σ H (xs ++ ys) := fun H1 e Q q =>
  ha H1 e _ fun p H2 e2 h2 => hb H2 (e.trans e2) _ fun r H3 e3 h3 => ⟨p, r, xs, ys, rfl, rfl, e3 _ _ h2, h3, sz_of hl, fun l hl => q l _ (fresh_back (e2.trans e3) hl) ((e2.trans e3).trans (Ex.new hl)) upd_same⟩
theorem el_rep {k : Int} (ha : EvR ta σ H xs) (hb : Ev tb σ H (.int k)) (hk : -(2 ^ 63) ≤ k ∧ k < 2 ^ 63) (hl : xs.length * k.toNat ≤ 100000) : EvL (tOp rRep ta tb) σ H (List.replicate k.toNat xs).flatten := fun H1 e Q q =>
  ha H1 e _ fun p H2 e2 h2 => hb H2 (e.trans e2) _ fun H3 e3 => ⟨p, k, xs, rfl, rfl, e3 _ _ h2, hk.1, hk.2, sz_of hl, fun l hl => q l _ (fresh_back (e2.trans e3) hl) ((e2.trans e3).trans (Ex.new hl)) upd_same⟩
theorem rep_one {x : V} (n : Nat) : (List.replicate n [x]).flatten = List.replicate n x := by
  induction n with
  | zero => rfl
  | succ n ih => rw [List.replicate_succ, List.replicate_succ, List.flatten_cons, ih]; rfl
theorem el_of {te : TE} (h : EvS K te σ H xs) : EvL (tCB (rListS K) (tCons te tNil)) σ H xs := fun H1 e Q q =>
  h H1 e _ fun p H2 e2 h2 => ⟨p, xs, rfl, .inl h2, fun l hl => q l _ (fresh_back e2 hl) (e2.trans (Ex.new hl)) upd_same⟩
theorem ev_lenS (h : EvS K te σ H xs) : Ev (tCB (rLenS K) (tCons te tNil)) σ H (.int (xs.length : Int)) := fun H1 e Q q =>
  h H1 e _ fun p H2 e2 h2 => ⟨p, xs, rfl, .inl h2, q H2 e2⟩
theorem ev_sum {ns : List Int} (h : EvS K te σ H (ns.map V.int)) : Ev (tCB (rSum K) (tCons te tNil)) σ H (.int ns.sum) := fun H1 e Q q =>
  h H1 e _ fun p H2 e2 h2 => ⟨p, ns, rfl, h2, q H2 e2⟩
theorem dp_ints {K : PySem.W.Frag} {H : Hp} : ∀ ns : List Int, DpAll K H (ns.map V.int) (ns.map PyData.int)
  | [] => .nil
  | n :: r => .cons (.int n) (dp_ints r)
theorem eqv_ints : ∀ ns ms : List Int, PyData.eqvAll (ns.map PyData.int) (ms.map PyData.int) = decide (ns = ms)
  | [], [] => by simp [PyData.eqvAll]
  | [], _ :: _ => by simp [PyData.eqvAll]
  | _ :: _, [] => by simp [PyData.eqvAll]
  | n :: r, m :: t => by
    show (PyData.eqv (.int n) (.int m) && PyData.eqvAll (r.map PyData.int) (t.map PyData.int)) = _
    rw [eqv_ints r t]
    show ((n == m) && decide (r = t)) = _
    by_cases h1 : n = m <;> by_cases h2 : r = t <;> simp [h1, h2]
theorem canLay_ints : ∀ ns : List Int, PyData.canLayAll0 (ns.map PyData.int) = true
  | [] => by simp [PyData.canLayAll0]
  | n :: r => by
    show PyData.canLayAll0 (PyData.int n :: r.map PyData.int) = true
    rw [PyData.canLayAll0, canLay_ints r]
    simp [PyData.canLay0]
theorem depth_ints : ∀ ns : List Int, PyData.depthAll (ns.map PyData.int) ≤ 1
  | [] => by simp [PyData.depthAll]
  | n :: r => by
    show PyData.depthAll (PyData.int n :: r.map PyData.int) ≤ 1
    have := depth_ints r
    simp only [PyData.depthAll, PyData.depth]
    omega
theorem shaped_ints (ns : List Int) : SeqAt.shaped (.list (ns.map PyData.int)) = true := by
  unfold SeqAt.shaped
  have h1 := canLay_ints ns
  have h2 := depth_ints ns
  have h3 : PyData.depth (.list (ns.map PyData.int)) ≤ 64 := by
    rw [PyData.depth]
    omega
  rw [decide_eq_true h3, Bool.and_true]
  simpa only [PyData.canLay0] using h1
theorem ev_eqI {ns ms : List Int} (ha : EvS K ta σ H (ns.map V.int)) (hb : EvS K tb σ H (ms.map V.int)) : Ev (tOp (rEqD K) ta tb) σ H (.bl (decide (ns = ms))) := fun H1 e Q q =>
  ha H1 e _ fun p H2 e2 h2 => hb H2 (e.trans e2) _ fun r H3 e3 h3 => ⟨.list (ns.map PyData.int), .list (ms.map PyData.int), .lst (ex_l e3 h2) (dp_ints ns), .lst h3 (dp_ints ms), shaped_ints ns, shaped_ints ms, by
    show Q (.bl (PyData.eqvAll (ns.map PyData.int) (ms.map PyData.int))) H3
    rw [eqv_ints]
    exact q H3 (e2.trans e3)⟩
theorem ev_neI {ns ms : List Int} (ha : EvS K ta σ H (ns.map V.int)) (hb : EvS K tb σ H (ms.map V.int)) : Ev (tOp (rNeD K) ta tb) σ H (.bl (!decide (ns = ms))) := fun H1 e Q q =>
  ha H1 e _ fun p H2 e2 h2 => hb H2 (e.trans e2) _ fun r H3 e3 h3 => ⟨.list (ns.map PyData.int), .list (ms.map PyData.int), .lst (ex_l e3 h2) (dp_ints ns), .lst h3 (dp_ints ms), shaped_ints ns, shaped_ints ms, by
    show Q (.bl (!PyData.eqvAll (ns.map PyData.int) (ms.map PyData.int))) H3
    rw [eqv_ints]
    exact q H3 (e2.trans e3)⟩
theorem ev_ixS {i : Nat} {n : Int} {tl ti : TE} {v : V} (h : EvS K tl σ H xs) (hi : Ev ti σ H (.int n)) (ha : atI xs n = some v) : Ev (tOp (rIxL K) tl ti) σ H v := fun H1 e Q q =>
  h H1 e _ fun p H2 e2 h2 => hi H2 (e.trans e2) _ fun H3 e3 => ⟨p, xs, n, v, rfl, rfl, ex_l e3 h2, ha, q H3 (e2.trans e3)⟩
theorem el_slS {tl th : TO} {lo hi : Option Int} (h : EvS K te σ H xs) (h1 : EvO tl σ H lo) (h2 : EvO th σ H hi) : EvL (tSl (rSlL K) te tl th) σ H (cutV xs lo hi) := fun H1 e _ q =>
  h H1 e _ fun a H2 e2 hs => h1 H2 (e.trans e2) _ fun H3 e3 => h2 H3 ((e.trans e2).trans e3) _ fun H4 e4 =>
    ⟨a, xs, rfl, ex_l (e3.trans e4) hs, fun p hp => q p _ (fresh_back ((e2.trans e3).trans e4) hp) (((e2.trans e3).trans e4).trans (Ex.new hp)) upd_same⟩
theorem ev_at {n : Int} {tl ti : TE} {v : V} (h : EvS K tl σ H xs) (hi : Ev ti σ H (.int n)) (ha : atI xs n = some v) : Ev (tOp (rIxL K) tl ti) σ H v := ev_ixS (i := 0) h hi ha
theorem cut_to (xs : List V) (i : Nat) : cutV xs none (some (i : Int)) = xs.take i := by
  unfold cutV
  rw [HT.sIx_none, HT.sIx_nat, List.drop_zero, Nat.sub_zero]
  by_cases h : i ≤ xs.length
  · rw [Nat.min_eq_left h]
  · rw [Nat.min_eq_right (by omega), List.take_of_length_le (Nat.le_refl _), List.take_of_length_le (by omega)]
theorem cut_from (xs : List V) (i : Nat) : cutV xs (some (i : Int)) none = xs.drop i := by
  unfold cutV
  rw [HT.sIx_none, HT.sIx_nat]
  by_cases h : i ≤ xs.length
  · rw [Nat.min_eq_left h, List.take_of_length_le (by rw [List.length_drop]; omega)]
  · rw [Nat.min_eq_right (by omega), List.drop_of_length_le (Nat.le_refl _), List.drop_of_length_le (show xs.length ≤ i by omega), List.take_nil]
theorem cut_mid (xs : List V) (i j : Nat) : cutV xs (some (i : Int)) (some (j : Int)) = (xs.drop i).take (j - i) := by
  unfold cutV
  rw [HT.sIx_nat, HT.sIx_nat]
  by_cases h : i ≤ xs.length
  · rw [Nat.min_eq_left h]
    by_cases h2 : j ≤ xs.length
    · rw [Nat.min_eq_left h2]
    · rw [Nat.min_eq_right (by omega), List.take_of_length_le (by rw [List.length_drop]; omega), List.take_of_length_le (by rw [List.length_drop]; omega)]
  · rw [Nat.min_eq_right (by omega : xs.length ≤ i), List.drop_of_length_le (Nat.le_refl _), List.drop_of_length_le (show xs.length ≤ i by omega)]
    simp
theorem el_to {th : TE} {ns : List Int} {i : Nat} (h : EvS K te σ H (ns.map V.int)) (h2 : Ev th σ H (.int i)) : EvL (tSl (rSlL K) te tNoPart (tPart th)) σ H ((ns.take i).map V.int) :=
  EvL.is (el_slS h eo_none (eo_some h2)) (by rw [List.map_take]; exact cut_to _ i)
theorem el_from {th : TE} {ns : List Int} {i : Nat} (h : EvS K te σ H (ns.map V.int)) (h2 : Ev th σ H (.int i)) : EvL (tSl (rSlL K) te (tPart th) tNoPart) σ H ((ns.drop i).map V.int) :=
  EvL.is (el_slS h (eo_some h2) eo_none) (by rw [List.map_drop]; exact cut_from _ i)
theorem el_mid {t1 t2 : TE} {ns : List Int} {i j : Nat} (h : EvS K te σ H (ns.map V.int)) (h1 : Ev t1 σ H (.int i)) (h2 : Ev t2 σ H (.int j)) : EvL (tSl (rSlL K) te (tPart t1) (tPart t2)) σ H (((ns.drop i).take (j - i)).map V.int) :=
  EvL.is (el_slS h (eo_some h1) (eo_some h2)) (by rw [List.map_take, List.map_drop]; exact cut_mid _ i j)
section
variable {D : Ends} {tz : TS} {sp : Sp} {dvs vs : List V} {E : XK} {tA : TA}
/-- x = f(..), whatever f promises -/
theorem q_asgC {i : Nat} (h : EvA tA σ H vs) (k : ∀ H1, Ex H H1 → sp (vs ++ dvs) H1 (fun x H2 => tz D (σ.set i (some x)) H2) E) : tSeq (tAsg (tCall sp dvs E tA) (gName i)) tz D σ H := h H (Ex.refl H) _ fun H1 e => k H1 e
theorem s_asgC {i : Nat} (h : EvA tA σ H vs) (k : ∀ H1, Ex H H1 → sp (vs ++ dvs) H1 (fun x H2 => D.nx (σ.set i (some x)) H2) E) : tAsg (tCall sp dvs E tA) (gName i) D σ H := h H (Ex.refl H) _ fun H1 e => k H1 e
theorem q_dropC (h : EvA tA σ H vs) (k : ∀ H1, Ex H H1 → sp (vs ++ dvs) H1 (fun _ H2 => tz D σ H2) E) : tSeq (tDrop (tCall sp dvs E tA)) tz D σ H := h H (Ex.refl H) _ fun H1 e => k H1 e
theorem s_retC (h : EvA tA σ H vs) (k : ∀ H1, Ex H H1 → sp (vs ++ dvs) H1 D.rt E) : tRet (tCall sp dvs E tA) D σ H := h H (Ex.refl H) _ fun H1 e => k H1 e
end
theorem gl_get {ns : List Int} {i : Nat} (h : i < ns.length) : ns[i]? = some (ns.getD i 0) := by
  rw [List.getD_eq_getElem?_getD, List.getElem?_eq_getElem h]
  rfl
/-- the law's cell -/
def cellI (ns : List Int) (k : Int) : Int := ns.getD k.toNat 0
theorem cellI_in {ns : List Int} {k : Int} (h0 : 0 ≤ k) (h : k < ns.length) : ns[k.toNat]? = some (cellI ns k) := by
  unfold cellI
  rw [List.getD_eq_getElem?_getD, List.getElem?_eq_getElem (by omega)]
  rfl
theorem cellI_out {ns : List Int} {k : Int} (h : ¬ k < ns.length) : cellI ns k = 0 := by
  unfold cellI
  rw [List.getD_eq_getElem?_getD, List.getElem?_eq_none (by omega)]
  rfl
end
theorem Ex.get {H H' : Hp} {a : Addr} {o : HO} (e : Ex H H') (h : H a = some o) : H' a = some o := e a o h
local macro_rules | `(tactic| walk_at "hp") => `(tactic| first
  | assumption
  | exact upd_same
  | (refine' Ex.get (by assumption) ?h1; (case h1 => walk_at "hp")))
local macro_rules | `(tactic| walk_at "ex") => `(tactic| first
  | assumption
  | exact Ex.refl _
  | (refine' Ex.trans ?h1 (by assumption); (case h1 => walk_at "ex")))
local macro_rules | `(tactic| walk_at "sq") => `(tactic| first
  | assumption
  | (refine' sq_of ?h1; (case h1 => walk_at "hp"))
  | (refine' ex_l (by assumption) ?h1; (case h1 => walk_at "sq")))
local macro_rules | `(tactic| walk_at "evs") => `(tactic| first
  | (refine' Ev.s ?h1 ?h2; (case h1 => exact ev_var rfl); (case h2 => walk_at "sq"))
  | (refine' EvR.s ?h1; (case h1 => walk_at "evr")))
local macro_rules | `(tactic| walk_at "evr") => `(tactic| first
  | (refine' Ev.r ?h1 ?h2; (case h1 => exact ev_var rfl); (case h2 => walk_at "hp"))
  | (refine' EvL.r ?h1; (case h1 => walk_at "el")))
local macro_rules | `(tactic| walk_at "eo") => `(tactic| first
  | exact eo_none
  | (refine' eo_some ?h1; (case h1 => walk_at "ev")))
local macro_rules | `(tactic| walk_at "el") => `(tactic| first
  | (refine' el_lst ?h1 ?h2; (case h1 => walk_at "ea"); (case h2 => exact Nat.le_of_ble_eq_true rfl))
  | (refine' el_cat ?h1 ?h2 ?h3; (case h1 => walk_at "evr"); (case h2 => walk_at "evr"); (case h3 => walk_at "len"))
  | (refine' el_rep ?h1 ?h2 ?h3 ?h4; (case h1 => walk_at "evr"); (case h2 => walk_at "ev"); (case h3 => walk_at "side2"); (case h4 => walk_at "len"))
  | (refine' el_of ?h1; (case h1 => walk_at "evs"))
  | (refine' el_to ?h1 ?h2; (case h1 => walk_at "evs"); (case h2 => walk_at "ev"))
  | (refine' el_from ?h1 ?h2; (case h1 => walk_at "evs"); (case h2 => walk_at "ev"))
  | (refine' el_mid ?h1 ?h2 ?h3; (case h1 => walk_at "evs"); (case h2 => walk_at "ev"); (case h3 => walk_at "ev"))
  | (refine' el_slS ?h1 ?h2 ?h3; (case h1 => walk_at "evs"); (case h2 => walk_at "eo"); (case h3 => walk_at "eo"))
  | walk_at "elmore")
local macro_rules | `(tactic| walk_at "evmore") => `(tactic| first
  | (refine' ev_lenS ?h1; (case h1 => walk_at "evs"))
  | (refine' ev_sum ?h1; (case h1 => walk_at "evs"))
  | (refine' ev_eqI ?h1 ?h2; (case h1 => walk_at "evs"); (case h2 => walk_at "evs"))
  | (refine' ev_neI ?h1 ?h2; (case h1 => walk_at "evs"); (case h2 => walk_at "evs"))
  | (refine' ev_at ?h1 ?h2 ?h3; (case h1 => walk_at "evs"); (case h2 => walk_at "ev"); (case h3 => walk_at "at"))
  | (refine' ev_isiL ?h1 ?h2; (case h1 => walk_at "ev"); (case h2 => walk_at "hp"))
  | walk_at "evown")
local macro_rules | `(tactic| walk_at "at") => `(tactic| first
  | exact at_of rfl (at_int (by assumption))
  | exact at_of rfl (by assumption))
local macro_rules | `(tactic| walk_at "asgL") => `(tactic| (refine' q_asgL ?h ?h1; (case h => walk_at "el")))
local macro_rules | `(tactic| walk_at "retL") => `(tactic| (refine' s_retL ?h ?h1; (case h => walk_at "el")))

/-- a walk's reading said in other words -/
theorem PI.k {X : Cx} {tg e : Expr} {wi wi' : TI} (h : PI X tg e wi) (q : wi = wi') : PI X tg e wi' := q ▸ h
/-! ### comprehensions whose items are said in a list -/
section
variable {K : PySem.W.Frag} {σ : L2.St} {H : Hp} {t1 t2 te : TE} {xs ys zs : List V} {vs : List Nat}
theorem take_snoc {zs : List V} {i : Nat} {z : V} (h : zs[i]? = some z) : zs.take (i + 1) = zs.take i ++ [z] := by
  rw [List.take_add_one, h]
  rfl
theorem el_lcZ {j1 j2 : Nat} (zs : List V) (h1 : EvS K t1 σ H xs) (h2 : EvS K t2 σ H ys) (hz : zs.length = min xs.length ys.length) (hb : zs.length ≤ 50000)
    (hw : ∀ x y, wipe (((wipe σ vs).set j1 (some x)).set j2 (some y)) vs = wipe σ vs)
    (he : ∀ (i : Nat) (x y : V) H1, Ex H H1 → xs[i]? = some x → ys[i]? = some y → ∃ z, zs[i]? = some z ∧ Ev te (((wipe σ vs).set j1 (some x)).set j2 (some y)) H1 z) :
    EvL (tLc (iZip K (tCons t1 (tCons t2 tNil))) (gTup K 2 (gCons (gName j1) (gCons (gName j2) gNil))) tYes te vs) σ H zs := fun H0 e Q q =>
  h1 H0 e _ fun p H1 e1 hp => h2 H1 (e.trans e1) _ fun r H2 e2 hr => ⟨p, r, xs, ys, rfl, ex_l e2 hp, hr, fun D hD =>
    ⟨fun i m H' => m = zs.length - i ∧ i ≤ zs.length ∧ Ex H2 H' ∧ H' D = some (.lst (zs.take i)), ⟨zs.length, rfl, Nat.zero_le _, Ex.new hD, upd_same⟩, by
      rintro i m H' ⟨rfl, hi, ex, hd⟩
      have qx : SqL K H' p xs := ex_l (e2.trans ex) hp
      have qy : SqL K H' r ys := ex_l ex hr
      by_cases hlt : i < zs.length
      · have hx : xs[i]? = some xs[i] := List.getElem?_eq_getElem (by omega)
        have hy : ys[i]? = some ys[i] := List.getElem?_eq_getElem (by omega)
        refine .inr ⟨⟨xs, ys, _, _, qx, qy, hx, hy⟩, fun H3 => i + 1 ≤ zs.length ∧ Ex H2 H3 ∧ H3 D = some (.lst (zs.take (i + 1))), fun H3 h3 => ⟨zs.length - (i + 1), by omega, rfl, h3⟩, fun v H3 hv => ?_⟩
        obtain ⟨T, x, y, rfl, hT, rfl, f1, f2⟩ := hv
        have ex3 : Ex H' (upd H' T (.tup [x, y])) := Ex.new hT
        obtain ⟨z, hz1, hz2⟩ := he i x y (upd H' T (.tup [x, y])) ((((e.trans e1).trans e2).trans ex).trans ex3) (f1 _ qx) (f2 _ qy)
        refine ⟨T, [x, y], rfl, st_of upd_same, rfl, x, [y], rfl, y, [], rfl, rfl, hw x y, ?_⟩
        refine hz2 _ (Ex.refl _) _ fun H4 e4 => ⟨zs.take i, e4 _ _ (ex3 _ _ hd), sz_lt (by rw [List.length_take]; omega), hlt, ?_, ?_⟩
        · exact Ex.mut ((ex.trans ex3).trans e4) hD
        · rw [upd_same, take_snoc hz1]
      · have ei : i = zs.length := by omega
        refine .inl ⟨⟨xs, ys, qx, qy, by omega⟩, ?_⟩
        rw [ei, List.take_length] at hd
        exact q D H' (fresh_back (e1.trans e2) hD) ((e1.trans e2).trans ex) hd⟩⟩
/-- over a list, each item kept -/
theorem el_lcS {j : Nat} (zs : List V) (h1 : EvS K t1 σ H xs) (hz : zs.length = xs.length) (hb : zs.length ≤ 50000) (hw : ∀ x, wipe ((wipe σ vs).set j (some x)) vs = wipe σ vs)
    (he : ∀ (i : Nat) (x : V) H1, Ex H H1 → xs[i]? = some x → ∃ z, zs[i]? = some z ∧ Ev te ((wipe σ vs).set j (some x)) H1 z) :
    EvL (tLc (iList K t1) (gName j) tYes te vs) σ H zs := fun H0 e Q q =>
  h1 H0 e _ fun p H1 e1 hp => ⟨p, rfl, ⟨xs, hp⟩, fun D hD => lc_list (xs := xs) (fun i H' => Ex H1 H' ∧ H' D = some (.lst (zs.take i))) ⟨Ex.new hD, upd_same⟩ (fun i H' _ h => ex_l h.1 hp)
    (fun i x H' hi h => ⟨hw x, by
      obtain ⟨z, hz1, hz2⟩ := he i x H' ((e.trans e1).trans h.1) hi
      have hl : i < xs.length := (List.getElem?_eq_some_iff.mp hi).1
      refine hz2 H' (Ex.refl _) _ fun H4 e4 => ⟨zs.take i, e4 _ _ h.2, sz_lt (by rw [List.length_take]; omega), Ex.mut (h.1.trans e4) hD, ?_⟩
      rw [upd_same, take_snoc hz1]⟩)
    (fun H' h => q D H' (fresh_back e1 hD) (e1.trans h.1) (by rw [h.2, ← hz, List.take_length]))⟩
/-- over range(n) -/
theorem el_lcR {ta : TA} {n : Int} {j : Nat} (zs : List V) (h1 : EvA ta σ H [.int n]) (hn : -100000 ≤ n) (hz : zs.length = n.toNat) (hb : zs.length ≤ 50000) (hw : ∀ x, wipe ((wipe σ vs).set j (some x)) vs = wipe σ vs)
    (he : ∀ (i : Nat) H1, Ex H H1 → i < zs.length → ∃ z, zs[i]? = some z ∧ Ev te ((wipe σ vs).set j (some (.int (i : Int)))) H1 z) :
    EvL (tLc (iRng1 ta) (gName j) tYes te vs) σ H zs := fun H0 e Q q =>
  h1 H0 e _ fun H1 e1 => ⟨n, rfl, by omega, by omega, fun D hD => lc_range (lo := 0) (n := n.toNat) (fun i H' => Ex H1 H' ∧ H' D = some (.lst (zs.take i))) ⟨Ex.new hD, upd_same⟩
    (fun i H' hi h => by
      have e0 : (0 : Int) + (i : Int) = (i : Int) := Int.zero_add _
      rw [e0]
      obtain ⟨z, hz1, hz2⟩ := he i H' ((e.trans e1).trans h.1) (by omega)
      refine ⟨hw _, hz2 H' (Ex.refl _) _ fun H4 e4 => ⟨zs.take i, e4 _ _ h.2, sz_lt (by rw [List.length_take]; omega), Ex.mut (h.1.trans e4) hD, ?_⟩⟩
      rw [upd_same, take_snoc hz1])
    (fun H' h => q D H' (fresh_back e1 hD) (e1.trans h.1) (by rw [h.2, show n.toNat = zs.length by omega, List.take_length]))⟩
/-- y = [.. for x in f(..)], whatever f promises -/
theorem s_asgLC {sp : Sp} {dvs args : List V} {E : XK} {ta : TA} {g : TG} {tt : TT} {D : Ends} {i : Nat} (h : EvA ta σ H args) (k : ∀ H1, Ex H H1 → sp (args ++ dvs) H1 (fun x H2 => tAsg (tLc (iList K (tC x)) g tt te vs) (gName i) D σ H2) E) :
    tAsg (tLc (iList K (tCall sp dvs E ta)) g tt te vs) (gName i) D σ H := h H (Ex.refl H) _ fun H1 e => k H1 e
theorem s_retLC {sp : Sp} {dvs args : List V} {E : XK} {ta : TA} {g : TG} {tt : TT} {D : Ends} (h : EvA ta σ H args) (k : ∀ H1, Ex H H1 → sp (args ++ dvs) H1 (fun x H2 => tRet (tLc (iList K (tC x)) g tt te vs) D σ H2) E) :
    tRet (tLc (iList K (tCall sp dvs E ta)) g tt te vs) D σ H := h H (Ex.refl H) _ fun H1 e => k H1 e
end

/-! ### calls with keywords, defaults -/
theorem kwAllN {K : PySem.W.Frag} {D : Addr} : ∀ p ∈ ([] : List (Str × V)), ∃ u, PySem.W.nsIn K D p.1 = some (some u) ∧ RelV p.2 u := fun p hp => by cases hp
theorem kwAllC {K : PySem.W.Frag} {D : Addr} {q : Str × V} {l : List (Str × V)} (h : ∃ u, PySem.W.nsIn K D q.1 = some (some u) ∧ RelV q.2 u) (hl : ∀ p ∈ l, ∃ u, PySem.W.nsIn K D p.1 = some (some u) ∧ RelV p.2 u) : ∀ p ∈ q :: l, ∃ u, PySem.W.nsIn K D p.1 = some (some u) ∧ RelV p.2 u := fun p hp => by
  rcases List.mem_cons.mp hp with rfl | hp
  · exact h
  · exact hl p hp
section
variable {K : PySem.W.Frag} {x qual : Str} {params : Arguments} {body : List Stmt} {scope : Scope} {dvs : List V} {kws : List (Str × V)} {f : Addr} {fd : FuncData} {ps : List Str}
/-- f(a, .., k = v, ..), nothing left to a default, no defaults of place -/
theorem fund_kb0 {g : List Value → List Value → List Value} {gV : List V → List V → List V} (F : FunD K x qual params body scope [] kws f fd) (n : Nat) (ks : List Str)
    (hrel : ∀ {vs : List V} {us : List Value} {zs : List V} {ws : List Value}, Vals vs us → Vals zs ws → Vals (gV vs zs) (g us ws))
    (h : ∀ (kV doc pm : Value) (an : Option Addr) (cdv ct : Value) (us ws : List Value), us.length = n → ws.length = ks.length → bindArgs (PySem.W.fnOf x qual params body scope .none kV doc pm an cdv ct) ⟨us, ks.zip ws⟩ = pure (ps.zip (g us ws))) :
    KBn K fd ps n ks g gV := by
  obtain ⟨oc, od, dV, kV, doc, pm, an, cdv, ct, osl, rfl, lk, hcd, hD, hK⟩ := F.ex
  rcases hD with ⟨_, rfl⟩ | ⟨e, _⟩
  · exact ⟨fun s us ws X l1 l2 => .of_eq (h kV doc pm an cdv ct us ws l1 l2), hrel⟩
  · exact absurd rfl e
end

/-! ### data at any depth -/
mutual
theorem dp_ex {K : PySem.W.Frag} {H H' : Hp} (e : Ex H H') : ∀ (d : PyData) (v : V), Dp K H v d → Dp K H' v d
  | .none, _, h => by cases h; exact .non
  | .bool b, _, h => by cases h; exact .bl b
  | .int i, _, h => by cases h; exact .int i
  | .str x, _, h => by cases h; exact .str x
  | .list ds, _, h => by cases h with | lst hs ha => exact .lst (ex_l e hs) (dpa_ex e ds _ ha)
  | .tuple ds, _, h => by cases h with | tup hs ha => exact .tup (ex_t e hs) (dpa_ex e ds _ ha)
  | .dict _, _, h => by cases h
theorem dpa_ex {K : PySem.W.Frag} {H H' : Hp} (e : Ex H H') : ∀ (ds : List PyData) (vs : List V), DpAll K H vs ds → DpAll K H' vs ds
  | [], _, h => by cases h; exact .nil
  | d :: ds, _, h => by cases h with | cons h1 h2 => exact .cons (dp_ex e d _ h1) (dpa_ex e ds _ h2)
end
def EvD (K : PySem.W.Frag) (te : TE) (σ : L2.St) (H : Hp) (d : PyData) : Prop := ∀ H1, Ex H H1 → ∀ Q : VK, (∀ v H2, Ex H1 H2 → Dp K H2 v d → Q v H2) → te σ H1 Q
section
variable {K : PySem.W.Frag} {σ : L2.St} {H : Hp} {te ta tb t1 t2 t3 : TE} {d d1 d2 d3 : PyData} {v : V}
theorem ev_eqDD (h1 : EvD K ta σ H d) (h2 : EvD K tb σ H d) (hs : SeqAt.shaped d = true) : Ev (tOp (rEqD K) ta tb) σ H (.bl true) := fun H1 e Q q => h1 H1 e _ fun v H2 e2 hv => h2 H2 (e.trans e2) _ fun u H3 e3 hu =>
  ⟨d, d, dp_ex e3 d v hv, hu, hs, hs, by rw [SeqAt.eqv_refl d (SeqAt.canLay_of_shaped hs)]; exact q H3 (e2.trans e3)⟩
end
/-! ### max(xs, default=d), bit_length -/
def maxI (d : Int) : List Int → Int
  | [] => d
  | n :: r => r.foldl max n
def rMaxDef (K : PySem.W.Frag) : List V → List V → Hp → VK → Prop := fun vs zs H Q => ∃ (a : Addr) (ns : List Int) (d : Int), vs = [.ref a] ∧ zs = [.int d] ∧ SqL K H a (ns.map V.int) ∧ Q (.int (maxI d ns)) H
theorem alike_ints (ns : List Int) : PySem.W.AlikeAll (ns.map PyData.int) := by
  refine ⟨fun x hx y hy => ?_, fun x hx => ?_⟩
  · obtain ⟨n, _, rfl⟩ := List.mem_map.mp hx
    obtain ⟨m, _, rfl⟩ := List.mem_map.mp hy
    rfl
  · obtain ⟨n, _, rfl⟩ := List.mem_map.mp hx
    intro h
    cases h
theorem cr_maxDef {X : Cx} (hu : X.A.units + 64 < cLine) (hc : X.calm = true := by rfl) : CallRK X (.builtin "max") [Str.ofString "default"] (rMaxDef X.K) := by
  intro pins s σ H vs zs us ws Q I r rz h
  obtain ⟨a, ns, d, rfl, rfl, hs, q⟩ := h
  obtain rfl := Vals.ref1 r
  obtain ⟨w1, rfl, e1⟩ := vals1 rz
  obtain ⟨its, rv, hl, _⟩ := I.list hs
  obtain ⟨as, hr⟩ := Dp.readsAll I (ns.map PyData.int) _ its (dp_ints ns) rv
  have hd := depth_ints ns
  refine PySem.W.max_list_default (xs := ns.map PyData.int) (I.ok.hd hc) hl.isList (by simpa using hr) (alike_ints ns) (by omega) (fun h0 h' tk hk => ?_) fun y ys i v h' tk bs he hv hrd hk => ?_
  · cases ns with
    | nil => exact ⟨.int d, H, I.kept hk, e1, q⟩
    | cons x r => cases h0
  · cases ns with
    | nil => cases he
    | cons x r =>
      injection he with h1 h2
      subst h1 h2
      rw [PySem.W.maxD_ints] at hrd
      cases hrd
      exact ⟨.int _, H, I.kept hk, ⟨_, rfl⟩, q⟩
theorem ev_maxD {K : PySem.W.Frag} {σ : L2.St} {H : Hp} {t td : TE} {ns : List Int} {d : Int} (h : EvS K t σ H (ns.map V.int)) (hd : Ev td σ H (.int d)) : Ev (tCKw (rMaxDef K) (tCons t tNil) (tCons td tNil)) σ H (.int (maxI d ns)) := fun H1 e Q q =>
  h H1 e _ fun p H2 e2 hp => hd H2 (e.trans e2) _ fun H3 e3 => ⟨p, ns, d, rfl, rfl, ex_l e3 hp, q H3 (e2.trans e3)⟩
theorem ev_bits {σ : L2.St} {H : Hp} {to : TE} {i : Int} (h : Ev to σ H (.int i)) : Ev (tBits to) σ H (.int ((Builtin.Int.intBits i : Nat) : Int)) := fun H1 e Q q => h H1 e _ fun H2 e2 => ⟨i, rfl, q H2 e2⟩

theorem foldl_max : ∀ (ns : List Int) (d : Int), (ns.foldl max d = d ∨ ns.foldl max d ∈ ns) ∧ d ≤ ns.foldl max d ∧ ∀ n ∈ ns, n ≤ ns.foldl max d
  | [], d => ⟨.inl rfl, Int.le_refl _, fun n hn => by cases hn⟩
  | x :: r, d => by
    obtain ⟨h1, h2, h3⟩ := foldl_max r (max d x)
    show (r.foldl max (max d x) = d ∨ r.foldl max (max d x) ∈ x :: r) ∧ d ≤ r.foldl max (max d x) ∧ ∀ n ∈ x :: r, n ≤ r.foldl max (max d x)
    refine ⟨?_, by omega, fun n hn => ?_⟩
    · rcases h1 with h | h
      · rw [h]
        by_cases hd : d ≤ x
        · exact .inr (by rw [Int.max_eq_right hd]; exact List.mem_cons_self ..)
        · exact .inl (by omega)
      · exact .inr (List.mem_cons_of_mem _ h)
    · rcases List.mem_cons.mp hn with rfl | hn
      · omega
      · exact h3 n hn

/-! ### min of a list of pairs of numbers -/
def pairD (q : Int × Int) : PyData := .tuple [.int q.1, .int q.2]
def minP (p : Int × Int) (ps : List (Int × Int)) : Int × Int := ps.foldl (fun a y => if y.1 < a.1 ∨ (y.1 = a.1 ∧ y.2 < a.2) then y else a) p
theorem minD_pairs (p : Int × Int) (ps : List (Int × Int)) : PySem.W.minD (pairD p) (ps.map pairD) = pairD (minP p ps) := by
  have h := PySem.W.minD_map (α := Int × Int) p ps
  have e : PySem.W.minOf p ps = minP p ps := by
    unfold PySem.W.minOf minP
    congr 1
    funext a y
    show (if (if y.1 = a.1 then decide (y.2 < a.2) else decide (y.1 < a.1)) = true then y else a) = _
    by_cases h : y.1 = a.1
    · rw [if_pos h]
      by_cases h2 : y.2 < a.2
      · rw [if_pos (decide_eq_true h2), if_pos (.inr ⟨h, h2⟩)]
      · rw [if_neg (by rw [decide_eq_false h2]; decide), if_neg (fun z => z.elim (fun z => by omega) fun z => h2 z.2)]
    · rw [if_neg h]
      by_cases h2 : y.1 < a.1
      · rw [if_pos (decide_eq_true h2), if_pos (.inl h2)]
      · rw [if_neg (by rw [decide_eq_false h2]; decide), if_neg (fun z => z.elim h2 fun z => h z.1)]
  rw [e] at h
  exact h
def rMinP (K : PySem.W.Frag) : List V → Hp → VK → Prop := fun vs H Q => ∃ (a : Addr) (xs : List V) (p : Int × Int) (ps : List (Int × Int)), vs = [.ref a] ∧ SqL K H a xs ∧ DpAll K H xs ((p :: ps).map pairD) ∧ ∀ v, Dp K H v (pairD (minP p ps)) → Q v H
theorem depth_pairs : ∀ ps : List (Int × Int), PyData.depthAll (ps.map pairD) ≤ 3
  | [] => by simp [PyData.depthAll]
  | f :: r => by
    show PyData.depthAll (pairD f :: r.map pairD) ≤ 3
    have := depth_pairs r
    simp only [pairD, PyData.depthAll, PyData.depth] at *
    omega
theorem dpAll_at {K : PySem.W.Frag} {H : Hp} : ∀ {xs : List V} {ds : List PyData}, DpAll K H xs ds → ∀ (i : Nat) (x : V), xs[i]? = some x → ∃ d, ds[i]? = some d ∧ Dp K H x d
  | [], _, _, i, x, hx => by simp at hx
  | y :: xs, ds, h, i, x, hx => by
    cases h with
    | cons h1 h2 =>
      cases i with
      | zero => cases hx; exact ⟨_, rfl, h1⟩
      | succ i => exact dpAll_at h2 i x hx
theorem cr_minP {X : Cx} (hu : X.A.units + 64 < cLine) (hc : X.calm = true) : CallR X (.builtin "min") (rMinP X.K) := by
  intro pins s σ H vs us Q I r h
  obtain ⟨a, xs, p, ps, rfl, hs, hd, q⟩ := h
  obtain ⟨its, rv, hl, _⟩ := I.list hs
  rw [Vals.ref1 r]
  obtain ⟨as, hr⟩ := Dp.readsAll I _ _ its hd rv
  have hdep := depth_pairs (p :: ps)
  refine PySem.W.min_list_data (x := pairD p) (xs := ps.map pairD) (I.ok.hd hc) hl.isList (by simpa using hr) (PySem.W.alikeAll_datum (α := Int × Int) (p :: ps)) (by rw [List.map_cons] at hdep; omega) fun i v h' tk bs hv hrd hk => ?_
  have hv2 : its[i]? = some v := by simpa using hv
  have hlen := rv.length
  have hi := (List.getElem?_eq_some_iff.mp hv2).1
  have hx : xs[i]? = some xs[i] := List.getElem?_eq_getElem (by omega)
  obtain ⟨u, hu1, hu2⟩ := Vals.get rv hx
  rw [hv2] at hu1
  cases hu1
  obtain ⟨d, hd1, hd2⟩ := dpAll_at hd i _ hx
  have I2 : Inv X pins σ H { s with heap := h', toks := tk } := I.kept hk
  obtain ⟨bs2, hrd2⟩ := Dp.reads I2 d _ _ hd2 hu2
  have he := (Reads.unique hrd2 _ _ hrd).1
  rw [minD_pairs] at he
  rw [he] at hd2
  exact ⟨_, H, I2, hu2, q _ hd2⟩

/-! ### min of a list of quadruples (bits, method, order, codings) -/
structure Qd where
  b : Int
  m : Nat
  p : Nat
  cs : List (Str × Int)
def codD (c : Str × Int) : PyData := .tuple [.str c.1, .int c.2]
def quadD (x : Qd) : PyData := .tuple [.int x.b, .int (x.m : Int), .int (x.p : Int), .tuple (x.cs.map codD)]
def ltQ (x y : Qd) : Prop := x.b < y.b ∨ (x.b = y.b ∧ (x.m < y.m ∨ (x.m = y.m ∧ x.p < y.p)))
instance (x y : Qd) : Decidable (ltQ x y) := inferInstanceAs (Decidable (_ ∨ _))
def difQ (x y : Qd) : Prop := ¬ (x.m = y.m ∧ x.p = y.p)
theorem toks_q (x : Qd) : PySem.W.keyToks (quadD x) = .inl 1 :: .inl x.b :: .inl 1 :: .inl (x.m : Int) :: .inl 1 :: .inl (x.p : Int) :: .inl 1 :: (PySem.W.keyToks (.tuple (x.cs.map codD)) ++ [.inl 0]) := rfl
theorem lex_eq {a : Int} {r t : List (Int ⊕ List Nat)} : PyProof.Rows.lexLt PyProof.Rows.itemOrd (.inl a :: r) (.inl a :: t) = PyProof.Rows.lexLt PyProof.Rows.itemOrd r t := by
  show (decide (a < a) || !decide (a < a) && PyProof.Rows.lexLt PyProof.Rows.itemOrd r t) = _
  rw [decide_eq_false (by omega)]
  rfl
theorem lex_ne {a b : Int} {r t : List (Int ⊕ List Nat)} (h : a ≠ b) : PyProof.Rows.lexLt PyProof.Rows.itemOrd (.inl a :: r) (.inl b :: t) = decide (a < b) := by
  show (decide (a < b) || !decide (b < a) && PyProof.Rows.lexLt PyProof.Rows.itemOrd r t) = _
  by_cases h1 : a < b
  · rw [decide_eq_true h1]
    rfl
  · rw [decide_eq_false h1, decide_eq_true (show b < a by omega)]
    rfl
theorem lt_q {x y : Qd} (h : difQ x y) : PySem.W.dataLt (quadD x) (quadD y) = decide (ltQ x y) := by
  unfold difQ at h
  unfold PySem.W.dataLt
  rw [toks_q, toks_q, lex_eq]
  by_cases h1 : x.b = y.b
  · rw [h1, lex_eq, lex_eq]
    by_cases h2 : x.m = y.m
    · rw [h2, lex_eq, lex_eq, lex_ne (by omega)]
      unfold ltQ
      exact decide_eq_decide.mpr (by omega)
    · rw [lex_ne (by omega)]
      unfold ltQ
      exact decide_eq_decide.mpr (by omega)
  · rw [lex_ne h1]
    unfold ltQ
    exact decide_eq_decide.mpr (by omega)
theorem minD_q : ∀ (qs : List Qd) (q : Qd), (q :: qs).Pairwise difQ → ∃ z, z ∈ q :: qs ∧ (∀ y ∈ q :: qs, ¬ ltQ y z) ∧ PySem.W.minD (quadD q) (qs.map quadD) = quadD z
  | [], q, _ => ⟨q, List.mem_singleton.mpr rfl, fun y hy => by rw [List.mem_singleton.mp hy]; unfold ltQ; omega, rfl⟩
  | y :: r, q, h => by
    obtain ⟨h1, h2⟩ := List.pairwise_cons.mp h
    obtain ⟨h3, h4⟩ := List.pairwise_cons.mp h2
    have hd : difQ y q := fun z => h1 y (List.mem_cons_self ..) ⟨z.1.symm, z.2.symm⟩
    have hst : PySem.W.minD (quadD q) ((y :: r).map quadD) = PySem.W.minD (if PySem.W.dataLt (quadD y) (quadD q) = true then quadD y else quadD q) (r.map quadD) := rfl
    rw [hst, lt_q hd]
    by_cases hl : ltQ y q
    · rw [if_pos (decide_eq_true hl)]
      obtain ⟨z, hz, hm, he⟩ := minD_q r y h2
      refine ⟨z, List.mem_cons_of_mem _ hz, fun u hu => ?_, he⟩
      rcases List.mem_cons.mp hu with rfl | hu
      · have := hm y (List.mem_cons_self ..)
        unfold ltQ at *
        omega
      · exact hm u hu
    · rw [if_neg (by rw [decide_eq_false hl]; decide)]
      obtain ⟨z, hz, hm, he⟩ := minD_q r q (List.pairwise_cons.mpr ⟨fun u hu => h1 u (List.mem_cons_of_mem _ hu), h4⟩)
      refine ⟨z, ?_, fun u hu => ?_, he⟩
      · rcases List.mem_cons.mp hz with rfl | hz
        · exact List.mem_cons_self ..
        · exact List.mem_cons_of_mem _ (List.mem_cons_of_mem _ hz)
      · rcases List.mem_cons.mp hu with rfl | hu
        · exact hm _ (List.mem_cons_self ..)
        · rcases List.mem_cons.mp hu with rfl | hu
          · have := hm q (List.mem_cons_self ..)
            unfold ltQ at *
            omega
          · exact hm u (List.mem_cons_of_mem _ hu)
theorem alike_cods : ∀ xs ys : List (Str × Int), PySem.W.alikeAll (xs.map codD) (ys.map codD) = true
  | [], _ => rfl
  | _ :: _, [] => rfl
  | _ :: xs, _ :: ys => by
    show (true && PySem.W.alikeAll (xs.map codD) (ys.map codD)) = true
    rw [alike_cods xs ys]
    rfl
theorem alike_q (x y : Qd) : PySem.W.alike (quadD x) (quadD y) = true := by
  show (true && (true && (true && (PySem.W.alikeAll (x.cs.map codD) (y.cs.map codD) && true)))) = true
  rw [alike_cods]
  rfl
theorem depth_cods : ∀ cs : List (Str × Int), PyData.depthAll (cs.map codD) ≤ 2
  | [] => by simp [PyData.depthAll]
  | c :: r => by
    show PyData.depthAll (codD c :: r.map codD) ≤ 2
    have := depth_cods r
    simp only [codD, PyData.depthAll, PyData.depth] at *
    omega
theorem depth_qs : ∀ qs : List Qd, PyData.depthAll (qs.map quadD) ≤ 5
  | [] => by simp [PyData.depthAll]
  | c :: r => by
    show PyData.depthAll (quadD c :: r.map quadD) ≤ 5
    have := depth_qs r
    have := depth_cods c.cs
    simp only [quadD, PyData.depthAll, PyData.depth] at *
    omega
def rMinQ (K : PySem.W.Frag) : List V → Hp → VK → Prop := fun vs H Q => ∃ (a : Addr) (xs : List V) (q : Qd) (qs : List Qd), vs = [.ref a] ∧ SqL K H a xs ∧ DpAll K H xs ((q :: qs).map quadD) ∧ (q :: qs).Pairwise difQ ∧ ∀ (i : Nat) v y, xs[i]? = some v → (q :: qs)[i]? = some y → (∀ u ∈ q :: qs, ¬ ltQ u y) → Q v H
theorem cr_minQ {X : Cx} (hu : X.A.units + 64 < cLine) (hc : X.calm = true) : CallR X (.builtin "min") (rMinQ X.K) := by
  intro pins s σ H vs us Q I r h
  obtain ⟨a, xs, p, ps, rfl, hs, hd, hp, q⟩ := h
  obtain ⟨its, rv, hl, _⟩ := I.list hs
  rw [Vals.ref1 r]
  obtain ⟨as, hr⟩ := Dp.readsAll I _ _ its hd rv
  have hdep := depth_qs (p :: ps)
  refine PySem.W.min_list_data (x := quadD p) (xs := ps.map quadD) (I.ok.hd hc) hl.isList (by simpa using hr) ⟨fun x hx y hy => ?_, fun x hx => ?_⟩ (by rw [List.map_cons] at hdep; omega) fun i v h' tk bs hv hrd hk => ?_
  · rw [← List.map_cons] at hx hy
    obtain ⟨x', _, rfl⟩ := List.mem_map.mp hx
    obtain ⟨y', _, rfl⟩ := List.mem_map.mp hy
    exact alike_q x' y'
  · rw [← List.map_cons] at hx
    obtain ⟨x', _, rfl⟩ := List.mem_map.mp hx
    intro z
    cases z
  have hv2 : its[i]? = some v := by simpa using hv
  have hlen := rv.length
  have hi := (List.getElem?_eq_some_iff.mp hv2).1
  have hx : xs[i]? = some xs[i] := List.getElem?_eq_getElem (by omega)
  obtain ⟨u, hu1, hu2⟩ := Vals.get rv hx
  rw [hv2] at hu1
  cases hu1
  obtain ⟨d, hd1, hd2⟩ := dpAll_at hd i _ hx
  have I2 : Inv X pins σ H { s with heap := h', toks := tk } := I.kept hk
  obtain ⟨bs2, hrd2⟩ := Dp.reads I2 d _ _ hd2 hu2
  have he := (Reads.unique hrd2 _ _ hrd).1
  obtain ⟨z, hz, hm, hq⟩ := minD_q ps p hp
  rw [hq] at he
  rw [List.getElem?_map] at hd1
  obtain ⟨y, hy, rfl⟩ := Option.map_eq_some_iff.mp hd1
  refine ⟨_, H, I2, hu2, q i _ y hx hy fun u hu => ?_⟩
  have h1 := hm u hu
  unfold quadD at he
  injection he with he
  injection he with e1 he
  injection he with e2 he
  injection he with e3 he
  injection e1 with e1
  injection e2 with e2
  injection e3 with e3
  unfold ltQ at h1 ⊢
  omega

/-! ### the lowest bits of a number, as the model has them -/
theorem and_rec_nat (a b : Nat) : a &&& b = 2 * (a / 2 &&& b / 2) + (a % 2) * (b % 2) := by
  have h1 := Nat.div_add_mod (a &&& b) 2
  have h2 : (a &&& b) / 2 = a / 2 &&& b / 2 := Nat.and_div_two
  have h3 : (a &&& b) % 2 = a % 2 &&& b % 2 := by
    have := Nat.and_mod_two_pow (a := a) (b := b) (n := 1)
    simpa using this
  have h4 : a % 2 &&& b % 2 = (a % 2) * (b % 2) := by
    have ha : a % 2 = 0 ∨ a % 2 = 1 := by omega
    have hb : b % 2 = 0 ∨ b % 2 = 1 := by omega
    rcases ha with e | e <;> rcases hb with f | f <;> rw [e, f] <;> rfl
  omega
theorem or_rec_nat (a b : Nat) : a ||| b = 2 * (a / 2 ||| b / 2) + (a % 2 + b % 2 - (a % 2) * (b % 2)) := by
  have h1 := Nat.div_add_mod (a ||| b) 2
  have h2 : (a ||| b) / 2 = a / 2 ||| b / 2 := Nat.or_div_two
  have h3 : (a ||| b) % 2 = a % 2 ||| b % 2 := by
    have := Nat.or_mod_two_pow (a := a) (b := b) (n := 1)
    simpa using this
  have h4 : a % 2 ||| b % 2 = (a % 2 + b % 2 - (a % 2) * (b % 2)) := by
    have ha : a % 2 = 0 ∨ a % 2 = 1 := by omega
    have hb : b % 2 = 0 ∨ b % 2 = 1 := by omega
    rcases ha with e | e <;> rcases hb with f | f <;> rw [e, f] <;> rfl
  omega
theorem b_pp {x y : Int} (hx : 0 ≤ x) (hy : 0 ≤ y) : Builtin.bitAnd x y = ((x.toNat &&& y.toNat : Nat) : Int) := by
  unfold Builtin.bitAnd; rw [decide_eq_true hx, decide_eq_true hy]
theorem b_pn {x y : Int} (hx : 0 ≤ x) (hy : ¬ 0 ≤ y) : Builtin.bitAnd x y = x - ((x.toNat &&& (-y - 1).toNat : Nat) : Int) := by
  unfold Builtin.bitAnd; rw [decide_eq_true hx, decide_eq_false hy]; rfl
theorem b_np {x y : Int} (hx : ¬ 0 ≤ x) (hy : 0 ≤ y) : Builtin.bitAnd x y = y - ((y.toNat &&& (-x - 1).toNat : Nat) : Int) := by
  unfold Builtin.bitAnd; rw [decide_eq_false hx, decide_eq_true hy]; rfl
theorem b_nn {x y : Int} (hx : ¬ 0 ≤ x) (hy : ¬ 0 ≤ y) : Builtin.bitAnd x y = -(((-x - 1).toNat ||| (-y - 1).toNat : Nat) : Int) - 1 := by
  unfold Builtin.bitAnd; rw [decide_eq_false hx, decide_eq_false hy]; rfl
def m2 (x y : Int) : Int := if x % 2 = 1 ∧ y % 2 = 1 then 1 else 0
theorem mul_m2 (a b : Nat) : (((a % 2) * (b % 2) : Nat) : Int) = if a % 2 = 1 ∧ b % 2 = 1 then 1 else 0 := by
  have ha : a % 2 = 0 ∨ a % 2 = 1 := by omega
  have hb : b % 2 = 0 ∨ b % 2 = 1 := by omega
  rcases ha with e | e <;> rcases hb with f | f <;> rw [e, f] <;> rfl
theorem bitAnd_rec (x y : Int) : Builtin.bitAnd x y = 2 * Builtin.bitAnd (x / 2) (y / 2) + m2 x y := by
  by_cases hx : 0 ≤ x <;> by_cases hy : 0 ≤ y
  · rw [b_pp hx hy, b_pp (by omega) (by omega), and_rec_nat, show x.toNat / 2 = (x / 2).toNat by omega, show y.toNat / 2 = (y / 2).toNat by omega, Int.natCast_add, mul_m2]
    unfold m2
    generalize ((x / 2).toNat &&& (y / 2).toNat) = z
    split <;> split <;> omega
  · rw [b_pn hx hy, b_pn (by omega) (by omega), and_rec_nat, show x.toNat / 2 = (x / 2).toNat by omega, show (-y - 1).toNat / 2 = (-(y / 2) - 1).toNat by omega, Int.natCast_add, mul_m2]
    unfold m2
    generalize ((x / 2).toNat &&& (-(y / 2) - 1).toNat) = z
    split <;> split <;> omega
  · rw [b_np hx hy, b_np (by omega) (by omega), and_rec_nat, show y.toNat / 2 = (y / 2).toNat by omega, show (-x - 1).toNat / 2 = (-(x / 2) - 1).toNat by omega, Int.natCast_add, mul_m2]
    unfold m2
    generalize ((y / 2).toNat &&& (-(x / 2) - 1).toNat) = z
    split <;> split <;> omega
  · rw [b_nn hx hy, b_nn (by omega) (by omega), or_rec_nat, show (-x - 1).toNat / 2 = (-(x / 2) - 1).toNat by omega, show (-y - 1).toNat / 2 = (-(y / 2) - 1).toNat by omega]
    unfold m2
    generalize ((-(x / 2) - 1).toNat ||| (-(y / 2) - 1).toNat) = z
    have ha : (-x - 1).toNat % 2 = 0 ∨ (-x - 1).toNat % 2 = 1 := by omega
    have hb : (-y - 1).toNat % 2 = 0 ∨ (-y - 1).toNat % 2 = 1 := by omega
    rcases ha with e | e <;> rcases hb with f | f <;> rw [e, f] <;> split <;> omega
theorem bitOr_rec (x y : Int) : Builtin.bitOr x y = 2 * Builtin.bitOr (x / 2) (y / 2) + (if x % 2 = 0 ∧ y % 2 = 0 then 0 else 1) := by
  unfold Builtin.bitOr
  rw [bitAnd_rec]
  unfold Builtin.bitNot
  rw [show (-x - 1) / 2 = -(x / 2) - 1 by omega, show (-y - 1) / 2 = -(y / 2) - 1 by omega]
  generalize Builtin.bitAnd (-(x / 2) - 1) (-(y / 2) - 1) = z
  unfold m2
  split <;> split <;> omega
/-- 2^w divides -/
def dv (w : Nat) (x : Int) : Prop := x % 2 ^ w = 0
theorem dv_zero (x : Int) : dv 0 x := by unfold dv; simp [Int.emod_one]
theorem dv_succ (w : Nat) (x : Int) : dv (w + 1) x ↔ x % 2 = 0 ∧ dv w (x / 2) := by
  unfold dv
  rw [Int.pow_succ, Int.mul_comm]
  constructor
  · intro hx
    obtain ⟨k, hk⟩ : ∃ k, x = 2 * 2 ^ w * k := ⟨x / (2 * 2 ^ w), by have := Int.mul_ediv_add_emod x (2 * 2 ^ w); omega⟩
    rw [Int.mul_assoc] at hk
    have : x / 2 = 2 ^ w * k := by rw [hk, Int.mul_ediv_cancel_left _ (by decide)]
    rw [this]
    exact ⟨by omega, Int.mul_emod_right _ _⟩
  · rintro ⟨h2, h3⟩
    obtain ⟨k, hk⟩ : ∃ k, x / 2 = 2 ^ w * k := ⟨(x / 2) / (2 ^ w), by have := Int.mul_ediv_add_emod (x / 2) (2 ^ w); omega⟩
    have : x = 2 * 2 ^ w * k := by rw [Int.mul_assoc, ← hk]; omega
    rw [this]
    exact Int.mul_emod_right _ _
theorem dv_or : ∀ (w : Nat) (x y : Int), dv w (Builtin.bitOr x y) ↔ dv w x ∧ dv w y
  | 0, x, y => ⟨fun _ => ⟨dv_zero x, dv_zero y⟩, fun _ => dv_zero _⟩
  | w + 1, x, y => by
    rw [dv_succ, dv_succ, dv_succ, bitOr_rec]
    have ih := dv_or w (x / 2) (y / 2)
    by_cases h : x % 2 = 0 ∧ y % 2 = 0
    · rw [if_pos h, Int.add_zero, Int.mul_ediv_cancel_left _ (by decide), ih]
      constructor
      · rintro ⟨_, a, b⟩; exact ⟨⟨h.1, a⟩, h.2, b⟩
      · rintro ⟨⟨_, a⟩, _, b⟩; exact ⟨by omega, a, b⟩
    · rw [if_neg h]
      constructor
      · rintro ⟨a, _⟩; omega
      · rintro ⟨⟨a, _⟩, b, _⟩; exact absurd ⟨a, b⟩ h
theorem and_not (k : Int) : Builtin.bitAnd k (-k - 1) = 0 := by
  by_cases h : 0 ≤ k
  · rw [b_pn h (by omega), show -(-k - 1) - 1 = k by omega, Nat.and_self]; omega
  · rw [b_np h (by omega), Nat.and_self]; omega
theorem low_bit : ∀ (v : Nat) (x : Int), dv v x → ¬ dv (v + 1) x → Builtin.bitAnd x (-x) = 2 ^ v
  | 0, x, _, h => by
    rw [dv_succ] at h
    have hx : x % 2 = 1 := by
      by_cases e : x % 2 = 0
      · exact absurd ⟨e, dv_zero _⟩ h
      · omega
    rw [bitAnd_rec, show (-x) / 2 = -(x / 2) - 1 by omega, and_not]
    unfold m2
    rw [if_pos ⟨hx, by omega⟩]; rfl
  | v + 1, x, h1, h2 => by
    rw [dv_succ] at h1 h2
    have h3 : ¬ dv (v + 1) (x / 2) := fun z => h2 ⟨h1.1, z⟩
    rw [bitAnd_rec, show (-x) / 2 = -(x / 2) by omega, low_bit v (x / 2) h1.2 h3]
    unfold m2
    rw [if_neg (by omega), Int.pow_succ]; omega

/-- how often a number can be halved -/
def vl : Nat → Int → Nat
  | 0, _ => 0
  | n + 1, r => if r ≠ 0 ∧ r = r / 2 * 2 then vl n (r / 2) + 1 else 0
theorem vl_le : ∀ (n : Nat) (r : Int), vl n r ≤ n
  | 0, _ => Nat.le_refl _
  | n + 1, r => by
    unfold vl
    have := vl_le n (r / 2)
    split <;> omega
theorem dv_vl : ∀ (n : Nat) (r : Int), r ≠ 0 → -(2 ^ n) < r → r < 2 ^ n → ∀ w, dv w r ↔ w ≤ vl n r
  | 0, r, h0, h1, h2, w => by
    have e : (2 : Int) ^ 0 = 1 := rfl
    omega
  | n + 1, r, h0, h1, h2, w => by
    rw [Int.pow_succ] at h1 h2
    unfold vl
    cases w with
    | zero => exact ⟨fun _ => Nat.zero_le _, fun _ => dv_zero _⟩
    | succ w =>
      rw [dv_succ]
      by_cases h : r = r / 2 * 2
      · rw [if_pos ⟨h0, h⟩, dv_vl n (r / 2) (by omega) (by omega) (by omega) w]
        constructor
        · rintro ⟨_, a⟩; omega
        · intro a; exact ⟨by omega, by omega⟩
      · rw [if_neg (fun z => h z.2)]
        constructor
        · rintro ⟨a, _⟩; omega
        · intro a; omega
theorem dv_neg (w : Nat) (r : Int) : dv w (-r) ↔ dv w r := by
  unfold dv
  rw [← Int.dvd_iff_emod_eq_zero, ← Int.dvd_iff_emod_eq_zero]
  exact Int.dvd_neg
theorem dv_zero' (w : Nat) : dv w 0 := by unfold dv; exact Int.zero_emod _
theorem dv_foldl (w : Nat) : ∀ (ns : List Int) (d : Int), dv w (ns.foldl Builtin.bitOr d) ↔ dv w d ∧ ∀ n ∈ ns, dv w n
  | [], d => by simp
  | x :: r, d => by
    show dv w (r.foldl Builtin.bitOr (Builtin.bitOr d x)) ↔ _
    rw [dv_foldl w r, dv_or]
    simp only [List.mem_cons, forall_eq_or_imp, and_assoc]

/-- [.. for i, x in enumerate(xs)] -/
theorem el_lcE {K : PySem.W.Frag} {σ : L2.St} {H : Hp} {t1 te : TE} {xs : List V} {vs : List Nat} {j1 j2 : Nat} (zs : List V) (h1 : EvS K t1 σ H xs) (hz : zs.length = xs.length) (hb : zs.length ≤ 50000)
    (hw : ∀ x y, wipe (((wipe σ vs).set j1 (some x)).set j2 (some y)) vs = wipe σ vs)
    (he : ∀ (i : Nat) (x : V) H1, Ex H H1 → xs[i]? = some x → ∃ z, zs[i]? = some z ∧ Ev te (((wipe σ vs).set j1 (some (.int (i : Int)))).set j2 (some x)) H1 z) :
    EvL (tLc (iEnum K (tCons t1 tNil)) (gTup K 2 (gCons (gName j1) (gCons (gName j2) gNil))) tYes te vs) σ H zs := fun H0 e Q q =>
  h1 H0 e _ fun p H1 e1 hp => ⟨p, xs, rfl, hp, fun D hD =>
    ⟨fun i m H' => m = zs.length - i ∧ i ≤ zs.length ∧ Ex H1 H' ∧ H' D = some (.lst (zs.take i)), ⟨zs.length, rfl, Nat.zero_le _, Ex.new hD, upd_same⟩, by
      rintro i m H' ⟨rfl, hi, ex, hd⟩
      have qx : SqL K H' p xs := ex_l ex hp
      by_cases hlt : i < zs.length
      · have hx : xs[i]? = some xs[i] := List.getElem?_eq_getElem (by omega)
        refine .inr ⟨⟨xs, _, qx, hx⟩, fun H3 => i + 1 ≤ zs.length ∧ Ex H1 H3 ∧ H3 D = some (.lst (zs.take (i + 1))), fun H3 h3 => ⟨zs.length - (i + 1), by omega, rfl, h3⟩, fun v H3 hv => ?_⟩
        obtain ⟨T, x, rfl, hT, rfl, f1⟩ := hv
        have ex3 : Ex H' (upd H' T (.tup [.int (i : Int), x])) := Ex.new hT
        obtain ⟨z, hz1, hz2⟩ := he i x (upd H' T (.tup [.int (i : Int), x])) (((e.trans e1).trans ex).trans ex3) (f1 _ qx)
        refine ⟨T, [.int (i : Int), x], rfl, st_of upd_same, rfl, .int (i : Int), [x], rfl, x, [], rfl, rfl, hw _ x, ?_⟩
        refine hz2 _ (Ex.refl _) _ fun H4 e4 => ⟨zs.take i, e4 _ _ (ex3 _ _ hd), sz_lt (by rw [List.length_take]; omega), hlt, ?_, ?_⟩
        · exact Ex.mut ((ex.trans ex3).trans e4) hD
        · rw [upd_same, take_snoc hz1]
      · have ei : i = zs.length := by omega
        refine .inl ⟨⟨xs, qx, by omega⟩, ?_⟩
        rw [ei, List.take_length] at hd
        exact q D H' (fresh_back e1 hD) (e1.trans ex) hd⟩⟩

/-! ### list(reversed(a list)) -/
theorem extend_rev {prog : Program} {w : World} {A : Around} {s : Shared} {R : Result → Shared → Prop} {it l S : Addr} {items : Array Value} {c0 : Nat} {res : Value} (hh : A.handled = none) (hit : s.heap.IsRevIter it l ((items.size : Int) - 1)) (hl : s.heap.IsList l items) (hne : l ≠ it) (hn : items.size ≤ sizeLine)
    (hS : s.heap.get? S = some { cls := .type "list", data := .seq #[] c0 }) (hSi : S ≠ it) (hSl : S ≠ l)
    (hR : ∀ (h' : Heap) (tk : Nat) (acc : Array Value) (c' : Nat), (∀ b o, b ≠ S → b ≠ it → s.heap.get? b = some o → h'.get? b = some o) → h'.get? S = some { cls := .type "list", dict := none, data := .seq acc c', slots := #[] } → ItemsOf (fun i v => items[items.size - 1 - i]? = some v) acc items.size → R (.ok (.ret res)) { s with heap := h', toks := tk }) :
    wpAny (model prog w) A.in1 (Builtin.List.listExtendWith (.ref S) (.ref it) res)
      (fun fin s' => match fin with | .done f => R (.ok f) s' | .again c' => c'.quiet = true ∧ codeAny (model prog w) A c' R s') (fun e s' => R (.error e) s') s := by
  have W := (Walks.listRev (prog := prog) (w := w) (A := A.in1) hh it l hne items).toS
  have hSf : S ∉ [it, l] := by simp only [List.mem_cons, List.not_mem_nil, or_false, not_or]; exact ⟨hSi, hSl⟩
  have hT : s.TypeIs (.ref it) "list_reverseiterator" := hit.typeIs
  have h1 : Builtin.List.listSameRef (.ref S) (.ref it) = false := by simp [Builtin.List.listSameRef, hSi]
  unfold Builtin.List.listExtendWith
  refine wpAny_bind (wpAny_typeOf hT ?_)
  rw [if_neg (by rw [h1]; decide)]
  refine wpAny_bind (wpAny_pyIter_revIter hit ?_)
  refine wpAny_bind (wpAny_holding ?_)
  unfold Builtin.List.listLengthHint
  refine wpAny_bind (wpAny_specialOf hT RT.nolen_lri ?_)
  show wpAny _ A.in1 (specialOf (Value.ref it) (Str.ofString "__length_hint__") >>= _) _ _ _
  refine wpAny_bind (wpAny_specialOf hT RT.hint_lri ?_)
  generalize hid : ("list_reverseiterator.__length_hint__" : String) = id0
  wp_delta
  rw [show splitId id0 = some ("list_reverseiterator", "__length_hint__") from by subst hid; decide +kernel]
  subst hid
  refine wpAny_bind (wpAny_isInstance (b := true) hT (by rw [isSubtype_type]; kernel_rfl) ?_)
  refine wpAny_pure ?_
  rw [if_neg (by decide)]
  have e0 : ((items.size : Nat) : Int) - 1 - ((0 : Nat) : Int) = (items.size : Int) - 1 := by omega
  refine wpAny_pure ⟨plainId_quiet F.plain_extend_loop _, codeAny_extend_loopS W hn S hSf _ items.size 0 _ _ _ rfl (Nat.zero_le _) ⟨Nat.zero_le _, by rw [e0]; exact hit, hl⟩ hS (ItemsOf.nil _) fun s' acc' c' hm hS' hacc => ?_⟩
  rw [Moved.eq_with hm]
  refine hR s'.heap s'.toks acc' c' (fun b o hb hb2 e => hm.heap b o (fun hmem => ?_) e) hS' hacc
  rcases List.mem_cons.mp hmem with e' | hmem
  · exact hb e'
  · exact hb2 (List.mem_singleton.mp hmem)
theorem call_list_rev {prog : Program} {w : World} {A : Around} {E : Value → Shared → Prop} {s : Shared} {Q : Value → Shared → Prop} {it l : Addr} {items : Array Value} (hh : A.handled = none) (hit : s.heap.IsRevIter it l ((items.size : Int) - 1)) (hl : s.heap.IsList l items) (hne : l ≠ it) (hn : items.size ≤ sizeLine)
    (hQ : ∀ (h' : Heap) (tk : Nat) (acc : Array Value) (c' : Nat), (∀ b o, b ≠ it → s.heap.get? b = some o → h'.get? b = some o) → h'.get? s.heap.objs.size = some { cls := .type "list", dict := none, data := .seq acc c', slots := #[] } → ItemsOf (fun i v => items[items.size - 1 - i]? = some v) acc items.size → Q (.ref s.heap.objs.size) { s with heap := h', toks := tk }) :
    wpAny (model prog w) A (call (.type "list") [.ref it]) Q E s := by
  refine callType_codes (Q₁ := fun obj s₁ => obj = .ref s.heap.objs.size ∧ s₁ = { s with heap := s.heap.push { cls := .type "list", data := .seq #[] } }) F.called_list (F.typeCall_list_1 _) F.entry_list_init
    (code_list_new _ ⟨rfl, rfl⟩) fun obj s₁ h₁ => ?_
  obtain ⟨rfl, rfl⟩ := h₁
  obtain ⟨S, hSs⟩ : ∃ S, S = s.heap.objs.size := ⟨_, rfl⟩
  rw [← hSs] at hQ ⊢
  have hS : (s.heap.push { cls := .type "list", data := .seq #[] }).get? S = some { cls := .type "list", data := .seq #[] } := by rw [hSs]; exact Heap.get?_push_size _ rfl
  obtain ⟨oi, hoi, _⟩ := id hit
  obtain ⟨ol, hol, _⟩ := id hl
  have hSi : S ≠ it := by rw [hSs]; exact Nat.ne_of_gt (Heap.lt_size hoi)
  have hSl : S ≠ l := by rw [hSs]; exact Nat.ne_of_gt (Heap.lt_size hol)
  refine ⟨⟨_, hS, rfl⟩, F.args_list_init_2 _ _, ?_⟩
  have hit1 : (s.heap.push { cls := .type "list", data := .seq #[] }).IsRevIter it l ((items.size : Int) - 1) := hit.at fun o e => Heap.get?_push_of_some _ e
  have hl1 : (s.heap.push { cls := .type "list", data := .seq #[] }).IsList l items := hl.push _
  have hk1 : ∀ b o, s.heap.get? b = some o → (s.heap.push { cls := .type "list", data := .seq #[] }).get? b = some o := fun b o e => Heap.get?_push_of_some _ e
  generalize s.heap.push { cls := .type "list", data := .seq #[] } = h1 at *
  show wpAny _ _ (do let old ← Builtin.List.listItems (.ref S); Builtin.List.listUpdate (.ref S) (fun _ => #[]); letGo old.toList.reverse; Builtin.List.listExtendWith (.ref S) (.ref it) .none) _ _ _
  refine wpAny_bind ?_
  unfold Builtin.List.listItems
  refine wpAny_bind (wpAny_seqItems hS rfl (wpAny_pure ?_))
  show wpAny _ _ (updateSeq S (fun _ => #[]) >>= fun _ => letGo (#[] : Array Value).toList.reverse >>= fun _ => Builtin.List.listExtendWith (.ref S) (.ref it) .none) _ _ _
  refine wpAny_bind (wpAny_updateSeq hS rfl ?_)
  have hS₂ := Heap.get?_update_self (Obj.mapSeq (fun _ => (#[] : Array Value))) hS rfl
  have oth : ∀ b o, b ≠ S → h1.get? b = some o → (h1.update S (Obj.mapSeq (fun _ => (#[] : Array Value)))).get? b = some o :=
    fun b o hb e => (Heap.get?_update_other _ _ (Ne.symm hb)).trans e
  refine wpAny_bind (wpAny_letGo ?_)
  refine extend_rev (A := A.in1) (s := { s with heap := h1.update S (Obj.mapSeq (fun _ => (#[] : Array Value))) }) hh (hit1.at fun o e => oth _ o (Ne.symm hSi) e) (by
    obtain ⟨o, e, r⟩ := hl1
    exact ⟨o, oth _ o (Ne.symm hSl) e, r⟩) hne hn hS₂ hSi hSl fun h' tk acc c' hk hS' hacc => ?_
  exact ⟨rfl, hQ h' tk acc c' (fun b o hb e => hk b o (by rw [hSs]; exact Nat.ne_of_lt (Heap.lt_size e)) hb (oth b o (by rw [hSs]; exact Nat.ne_of_lt (Heap.lt_size e)) (hk1 b o e))) hS' hacc⟩
/-- list(reversed(x)), x a list: a new list -/
def tListRev (K : PySem.W.Frag) (te : TE) : TE := fun σ H Q => te σ H fun v H1 => ∃ (a : Addr) (xs : List V), v = .ref a ∧ SqL K H1 a xs ∧ ∀ q, H1 q = none → Q (.ref q) (upd H1 q (.lst xs.reverse))
theorem pe_listRev {X : Cx} {e : Expr} {te : TE} {p p2 pos pos2 : Pos} (hc : X.calm = true) (hg : Gl X "list") (hm : X.mg "list" = none) (hg2 : Gl X "reversed") (hm2 : X.mg "reversed" = none) (he : PE X e te)
    (hs : starEach [e] X.env = (false, eval e X.env) :: starEach [] X.env := by rfl)
    (hs2 : starEach [.Call (.Name "reversed" p2) [e] [] pos2] X.env = (false, eval (.Call (.Name "reversed" p2) [e] [] pos2) X.env) :: starEach [] X.env := by rfl) :
    PE X (.Call (.Name "list" p) [.Call (.Name "reversed" p2) [e] [] pos2] [] pos) (tListRev X.K te) := by
  refine ⟨fun pins s σ H Q I h => ?_⟩
  refine Call_ (ld_blt I hg hm boot_list (PyProof.Rows.callWith_type1 (args_cons (Call_ (ld_blt I hg2 hm2 PyProof.Rows.boot_reversed (PyProof.Rows.callWith_type1 (args_cons (thn (he.run pins s σ H _ I h) fun u s1 ⟨v, H1, I1, r1, q1⟩ => args_nil ?_) hs) hs rfl))) hs2) hs2 rfl))
  obtain ⟨a, xs, ev, hq, q⟩ := q1
  subst ev
  obtain rfl : u = Value.ref a := r1
  obtain ⟨its, rv, p', hz⟩ := I1.list hq
  refine call_reversed_list p'.isList (args_nil ?_)
  have k0 : ∀ b o, s1.heap.get? b = some o → (s1.heap.push (revObj a ((its.toArray.size : Int) - 1))).get? b = some o := fun b o e => Heap.get?_push_of_some _ e
  have hl := p'.isList
  obtain ⟨ol, hol, _⟩ := id hl
  have hne : a ≠ s1.heap.objs.size := Nat.ne_of_lt (Heap.lt_size hol)
  have hn : its.toArray.size ≤ sizeLine := by rw [List.size_toArray, ← rv.length]; exact hz
  refine call_list_rev (s := { s1 with heap := s1.heap.push (revObj a ((its.toArray.size : Int) - 1)) }) (I1.ok.hd hc) ⟨_, Heap.get?_push_size _ rfl, rfl, rfl⟩ (hl.push _) hne hn fun h' tk acc c' hk hS' hi => ?_
  have hle : s1.heap.objs.size ≤ (s1.heap.push (revObj a ((its.toArray.size : Int) - 1))).objs.size := by
    show _ ≤ (s1.heap.objs.push _).size
    rw [Array.size_push]
    omega
  refine ⟨.ref (s1.heap.push (revObj a ((its.toArray.size : Int) - 1))).objs.size, upd H1 (s1.heap.push (revObj a ((its.toArray.size : Int) - 1))).objs.size (.lst xs.reverse), I1.laid (t' := tk) (fun b o e => hk b o (Nat.ne_of_lt (Heap.lt_size e)) (k0 b o e)) hle (show ObjOk X.prog X.w _ h' _ (.lst xs.reverse) from ⟨by rw [List.length_reverse]; exact hz, acc.toList, c', RT.vals_rev rv hi, ?_⟩), rfl, q _ (I1.hok.fresh hle)⟩
  rw [Array.toArray_toList]
  exact hS'

/-! ### t[::-1] of a tuple -/
theorem sliceApplied_rev {prog : Program} {w : World} {A : Around} {E : Value → Shared → Prop} {s : Shared} {sl : Addr} {vl vu vs : Value} {n : Nat} {Q : Int × Int × Nat → Shared → Prop} (hs : s.heap.IsSliceOf sl vl vu vs) (pl : IsPart vl none) (pu : IsPart vu none) (ps : IsPart vs (some (-1)))
    (h : Q ((n : Int) - 1, -1, n) s) : wpAny (model prog w) A (Builtin.Slice.sliceApplied (.ref sl) (pure (n : Int))) Q E s := by
  obtain ⟨os, hos, hcs, hds⟩ := id hs
  unfold Builtin.Slice.sliceApplied Builtin.Slice.sliceFields
  refine wpAny_bind (wpAny_bind (wpAny_field hos hds (x := vl) rfl (wpAny_bind (wpAny_field hos hds (x := vu) rfl (wpAny_bind (wpAny_field hos hds (x := vs) rfl (wpAny_pure ?_)))))))
  refine wpAny_bind (HT.slicePart_ ps ?_)
  show wpAny _ _ (if ((-1 : Int) == 0) = true then _ else _) _ _ s
  rw [if_neg (by decide)]
  refine wpAny_bind (HT.slicePart_ pl (wpAny_bind (HT.slicePart_ pu (wpAny_bind (wpAny_pure ?_)))))
  show wpAny _ _ (match Builtin.Slice.sliceAdjust none none (-1) (n : Int) with | (lo, hi) => pure (lo, (-1 : Int), Builtin.Slice.slicePlaces lo hi (-1))) _ _ s
  have e1 : Builtin.Slice.sliceAdjust none none (-1) (n : Int) = ((n : Int) - 1, -1) := by
    unfold Builtin.Slice.sliceAdjust
    simp
  rw [e1]
  show wpAny _ _ (pure ((n : Int) - 1, (-1 : Int), Builtin.Slice.slicePlaces ((n : Int) - 1) (-1) (-1))) _ _ s
  have e2 : Builtin.Slice.slicePlaces ((n : Int) - 1) (-1) (-1) = n := by
    unfold Builtin.Slice.slicePlaces
    rw [if_neg (by decide)]
    split
    · rw [show -(-1 : Int) = 1 by decide, Int.ediv_one]
      omega
    · omega
  rw [e2]
  exact wpAny_pure h
theorem fm_congr {α β : Type} {f g : α → Option β} : ∀ l : List α, (∀ x ∈ l, f x = g x) → l.filterMap f = l.filterMap g
  | [], _ => rfl
  | x :: l, h => by rw [List.filterMap_cons, List.filterMap_cons, h x (List.mem_cons_self ..), fm_congr l fun y hy => h y (List.mem_cons_of_mem _ hy)]
theorem pick_rev (xs : Array Value) : ((List.range xs.size).filterMap fun (m : Nat) => xs[((xs.size : Int) - 1 + (m : Int) * (-1)).toNat]?).toArray = xs.toList.reverse.toArray := by
  have e : (List.range xs.size).filterMap (fun (m : Nat) => xs[((xs.size : Int) - 1 + (m : Int) * (-1)).toNat]?) = ((List.range xs.size).map fun k => xs.size - 1 - k).filterMap fun k => xs[k]? := by
    rw [List.filterMap_map]
    refine fm_congr _ fun m hm => ?_
    have := List.mem_range.mp hm
    show _ = xs[xs.size - 1 - m]?
    rw [show ((xs.size : Int) - 1 + (m : Int) * (-1)).toNat = xs.size - 1 - m by omega]
  rw [e, PySem.W.krv_range, List.filterMap_reverse, PySem.W.krv_all]
theorem getItem_tuple_rev {prog : Program} {w : World} {A : Around} {E : Value → Shared → Prop} {s : Shared} {t sl : Addr} {items : Array Value} {vl vu vs : Value} {Q : Value → Shared → Prop} (ht : IsTup s.heap t items) (hs : s.heap.IsSliceOf sl vl vu vs) (pl : IsPart vl none) (pu : IsPart vu none) (ps : IsPart vs (some (-1)))
    (h : Q (.ref s.heap.objs.size) { s with heap := s.heap.push { cls := .type "tuple", data := .seq items.toList.reverse.toArray } })
    (hsz : items.size ≤ sizeLine) : wpAny (model prog w) A (getItem (.ref t) (.ref sl)) Q E s := by
  have htake : sizeOk (.seq items.toList.reverse.toArray) := by
    show items.toList.reverse.toArray.size ≤ sizeLine
    rw [List.size_toArray, List.length_reverse, Array.length_toList]
    exact hsz
  obtain ⟨os, hos, hcs, hds⟩ := id hs
  have hTs : s.TypeIs (.ref sl) "slice" := ⟨os, hos, hcs⟩
  unfold getItem
  try with_reducible refine wpAny_holding ?_
  first | refine wpAny_bind (wpAny_pure ?_) | skip
  refine wpAny_bind (wpAny_sequenceKey ht.typeIs (by decide) ?_)
  refine wpAny_bind (wpAny_callSpecial?_slot (name := Str.ofString "__getitem__") ht.typeIs PyProof.Rows.slot_tuple_getitem
    (wpAny_call_entry PyProof.Rows.slot_tuple_getitem ht.typeIs entry_tuple_getitem ?_ (args_tuple_getitem _ _)))
  show wpAny _ _ (Builtin.Tuple.tupleItemsOf (.ref t) >>= _) _ _ s
  refine wpAny_bind (tupleItemsOf_ ht ?_)
  refine wpAny_bind (wpAny_typeOf hTs ?_)
  rw [if_pos (by decide)]
  refine wpAny_bind (sliceApplied_rev hs pl pu ps ?_)
  have hno : ¬ ((((items.size : Int) - 1) == 0 && (-1 : Int) == 1 && items.size == items.size) = true) := by
    intro q
    rw [Bool.and_eq_true, Bool.and_eq_true] at q
    exact absurd q.1.2 (by decide)
  show wpAny _ _ (if (((items.size : Int) - 1) == 0 && (-1 : Int) == 1 && items.size == items.size) = true then _ else _) _ _ s
  rw [if_neg hno, pick_rev]
  first
    | exact wpAny_bind (m := Builtin.Tuple.tupleExact _) (wpAny_newObj_type (wpAny_pure ⟨_, rfl, wpAny_pure h⟩) htake)
    | exact wpAny_bind (m := Builtin.Tuple.tupleExact _) (wpAny_newObj_type (wpAny_bind (wpAny_pure (wpAny_pure ⟨_, rfl, wpAny_pure h⟩))) htake)
    | exact wpAny_bind (wpAny_bind (m := Builtin.Tuple.tupleExact _) (wpAny_newObj_type (wpAny_pure (wpAny_pure ⟨_, rfl, wpAny_pure h⟩)) htake))
    | exact wpAny_bind (wpAny_bind (m := Builtin.Tuple.tupleExact _) (wpAny_newObj_type (wpAny_pure ⟨_, rfl, wpAny_pure h⟩) htake))
def tRevT (K : PySem.W.Frag) (te : TE) : TE := fun σ H Q => te σ H fun x H1 => ∃ a xs, x = .ref a ∧ SqT K H1 a xs ∧ ∀ p, H1 p = none → Q (.ref p) (upd H1 p (.tup xs.reverse))
theorem pe_revT {X : Cx} {e : Expr} {te : TE} {k : Nat} {p1 p2 p3 pos : Pos} (he : PE X e te) : PE X (.Subscript e (.Slice none none (some (.UnaryOp .USub (.Constant (.int 1) k p1) p2)) p3) pos) (tRevT X.K te) := by
  refine ⟨fun pins s σ H Q I h => ?_⟩
  refine Subscript_ (thn (he.run pins s σ H _ I h) fun v s1 ⟨x, H1, I1, r1, q1⟩ => ?_)
  obtain ⟨a, xs, ex, hx, q⟩ := q1
  subst ex
  cases r1
  have hst : PO X (some (.UnaryOp .USub (.Constant (.int 1) k p1) p2)) (tPart (tUn (rU fun i => .int (-i)) (tC (.int 1)))) := po_some (pe_un un_neg pe_int)
  refine wpAny_Slice (thn (po_none.run pins s1 σ H1 (fun o H2 => o = none ∧ H2 = H1) I1 ⟨rfl, rfl⟩) fun vl s2 ⟨l, H2, I2, pl, el, e2⟩ => ?_)
  subst el e2
  refine thn (po_none.run pins s2 σ H2 (fun o H3 => o = none ∧ H3 = H2) I2 ⟨rfl, rfl⟩) fun vu s3 ⟨u, H3, I3, pu, eu, e3⟩ => ?_
  subst eu e3
  refine thn (hst.run pins s3 σ H3 (fun o H4 => o = some (-1) ∧ H4 = H3) I3 ⟨1, rfl, -1, rfl, rfl, rfl⟩) fun vs s4 ⟨o, H4, I4, ps, eo, e4⟩ => ?_
  subst eo e4
  have I5 : Inv X pins σ H4 { s4 with heap := s4.heap.push { cls := .type "slice", data := .fields #[vl, vu, vs] } } := I4.kept (t' := s4.toks) fun b ob q => Heap.get?_push_of_some _ q
  obtain ⟨its, r, ht, hz⟩ := I5.tuple hx
  have hlen := r.length
  show wpAny (model X.prog X.w) X.A (subscriptTail e (.Slice none none (some (.UnaryOp .USub (.Constant (.int 1) k p1) p2)) p3) (.ref a) (.ref s4.heap.objs.size)) (EP X pins σ Q) X.xe { s4 with heap := s4.heap.push { cls := .type "slice", data := .fields #[vl, vu, vs] } }
  refine tail_any (ops := [.ref a, .ref s4.heap.objs.size]) ht.typeIs PyProof.Rows.slot_tuple_getitem.lookup ?_ (by with_unfolding_all rfl)
  refine getItem_tuple_rev ht (Heap.IsSliceOf.new _ vl vu vs) pl pu ps ?_ (by rw [List.size_toArray]; omega)
  refine ⟨.ref _, _, I5.laid (t' := s4.toks) (o := .tup xs.reverse) (fun b ob q => Heap.get?_push_of_some _ q) (Nat.le_refl _) ?_, rfl, q _ (I5.hok.fresh (Nat.le_refl _))⟩
  exact ⟨by rw [List.length_reverse]; exact hz, _, r.reverse, IsTup.new _ _⟩

set_option genInjectivity false
set_option genSizeOf false
/-- what the top has left -/
structure TX (K : PySem.W.Frag) (mg : Str → Option Value) where
  a_fixed_residuals : Addr
  d_fixed_residuals : FuncData
  F_fixed_residuals : Fun K "fixed_residuals" "fixed_residuals" s_fixed_residuals a_fixed_residuals d_fixed_residuals
  b_fixed_residuals : Binds K d_fixed_residuals ["samples", "order"] []
  g_fixed_residuals : mg "fixed_residuals" = some (.ref a_fixed_residuals)
  a_fixed_samples : Addr
  d_fixed_samples : FuncData
  F_fixed_samples : FunD K "fixed_samples" "fixed_samples" (defArgs s_fixed_samples) (defBody s_fixed_samples) (defScope s_fixed_samples) [] [("limit", V.non)] a_fixed_samples d_fixed_samples
  k2_limit_fixed_samples : KBn K d_fixed_samples ["warm_up", "residuals", "limit"] 2 ["limit"] (fun us ws => us ++ ws) (fun us ws => us ++ ws)
  g_fixed_samples : mg "fixed_samples" = some (.ref a_fixed_samples)
  a_prediction_fixed : Addr
  d_prediction_fixed : FuncData
  F_prediction_fixed : Fun K "_prediction" "_prediction" s_prediction_fixed a_prediction_fixed d_prediction_fixed
  b_prediction_fixed : Binds K d_prediction_fixed ["samples", "order"] []
  g_prediction_fixed : mg "prediction_fixed" = some (.ref a_prediction_fixed)
  a_linear_residuals : Addr
  d_linear_residuals : FuncData
  F_linear_residuals : Fun K "linear_residuals" "linear_residuals" s_linear_residuals a_linear_residuals d_linear_residuals
  b_linear_residuals : Binds K d_linear_residuals ["samples", "coefficients", "shift"] []
  g_linear_residuals : mg "linear_residuals" = some (.ref a_linear_residuals)
  a_linear_samples : Addr
  d_linear_samples : FuncData
  F_linear_samples : FunD K "linear_samples" "linear_samples" (defArgs s_linear_samples) (defBody s_linear_samples) (defScope s_linear_samples) [] [("limit", V.non)] a_linear_samples d_linear_samples
  k4_limit_linear_samples : KBn K d_linear_samples ["warm_up", "residuals", "coefficients", "shift", "limit"] 4 ["limit"] (fun us ws => us ++ ws) (fun us ws => us ++ ws)
  g_linear_samples : mg "linear_samples" = some (.ref a_linear_samples)
  a_prediction_linear : Addr
  d_prediction_linear : FuncData
  F_prediction_linear : Fun K "_prediction" "_prediction" s_prediction_linear a_prediction_linear d_prediction_linear
  b_prediction_linear : Binds K d_prediction_linear ["latest", "backwards", "shift"] []
  g_prediction_linear : mg "prediction_linear" = some (.ref a_prediction_linear)
  a_fold : Addr
  d_fold : FuncData
  F_fold : Fun K "fold" "fold" s_fold a_fold d_fold
  b_fold : Binds K d_fold ["n"] []
  g_fold : mg "fold" = some (.ref a_fold)
  a_unfold : Addr
  d_unfold : FuncData
  F_unfold : Fun K "unfold" "unfold" s_unfold a_unfold d_unfold
  b_unfold : Binds K d_unfold ["u"] []
  g_unfold : mg "unfold" = some (.ref a_unfold)
  a_code_length : Addr
  d_code_length : FuncData
  F_code_length : Fun K "code_length" "code_length" s_code_length a_code_length d_code_length
  b_code_length : Binds K d_code_length ["k", "n"] []
  g_code_length : mg "code_length" = some (.ref a_code_length)
  a_write_code : Addr
  d_write_code : FuncData
  F_write_code : Fun K "write_code" "write_code" s_write_code a_write_code d_write_code
  b_write_code : Binds K d_write_code ["writer", "k", "n"] []
  g_write_code : mg "write_code" = some (.ref a_write_code)
  a_read_code : Addr
  d_read_code : FuncData
  F_read_code : Fun K "read_code" "read_code" s_read_code a_read_code d_read_code
  b_read_code : Binds K d_read_code ["reader", "k"] []
  g_read_code : mg "read_code" = some (.ref a_read_code)
  a_legal_partition_order : Addr
  d_legal_partition_order : FuncData
  F_legal_partition_order : Fun K "legal_partition_order" "legal_partition_order" s_legal_partition_order a_legal_partition_order d_legal_partition_order
  b_legal_partition_order : Binds K d_legal_partition_order ["size", "order", "partition_order"] []
  g_legal_partition_order : mg "legal_partition_order" = some (.ref a_legal_partition_order)
  a_partition_sizes : Addr
  d_partition_sizes : FuncData
  F_partition_sizes : Fun K "partition_sizes" "partition_sizes" s_partition_sizes a_partition_sizes d_partition_sizes
  b_partition_sizes : Binds K d_partition_sizes ["size", "order", "partition_order"] []
  g_partition_sizes : mg "partition_sizes" = some (.ref a_partition_sizes)
  a_residual_bits : Addr
  d_residual_bits : FuncData
  F_residual_bits : Fun K "residual_bits" "residual_bits" s_residual_bits a_residual_bits d_residual_bits
  b_residual_bits : Binds K d_residual_bits ["plan", "residuals", "order"] []
  g_residual_bits : mg "residual_bits" = some (.ref a_residual_bits)
  a_write_residuals : Addr
  d_write_residuals : FuncData
  F_write_residuals : Fun K "write_residuals" "write_residuals" s_write_residuals a_write_residuals d_write_residuals
  b_write_residuals : Binds K d_write_residuals ["writer", "plan", "residuals", "order"] []
  g_write_residuals : mg "write_residuals" = some (.ref a_write_residuals)
  a_read_residuals : Addr
  d_read_residuals : FuncData
  F_read_residuals : Fun K "read_residuals" "read_residuals" s_read_residuals a_read_residuals d_read_residuals
  b_read_residuals : Binds K d_read_residuals ["reader", "size", "order"] []
  g_read_residuals : mg "read_residuals" = some (.ref a_read_residuals)
  a_parts : Addr
  d_parts : FuncData
  F_parts : Fun K "_parts" "_parts" s_parts a_parts d_parts
  b_parts : Binds K d_parts ["residuals", "order", "partition_order"] []
  g_parts : mg "_parts" = some (.ref a_parts)
  a_coding_width : Addr
  d_coding_width : FuncData
  F_coding_width : Fun K "_coding_width" "_coding_width" s_coding_width a_coding_width d_coding_width
  b_coding_width : Binds K d_coding_width ["method"] []
  g_coding_width : mg "_coding_width" = some (.ref a_coding_width)
  a_raw_mark : Addr
  d_raw_mark : FuncData
  F_raw_mark : Fun K "_raw_mark" "_raw_mark" s_raw_mark a_raw_mark d_raw_mark
  b_raw_mark : Binds K d_raw_mark ["method"] []
  g_raw_mark : mg "_raw_mark" = some (.ref a_raw_mark)
  a_part_bits : Addr
  d_part_bits : FuncData
  F_part_bits : Fun K "_part_bits" "_part_bits" s_part_bits a_part_bits d_part_bits
  b_part_bits : Binds K d_part_bits ["method", "coding", "part"] []
  g_part_bits : mg "_part_bits" = some (.ref a_part_bits)
  a_write_coding : Addr
  d_write_coding : FuncData
  F_write_coding : Fun K "_write_coding" "_write_coding" s_write_coding a_write_coding d_write_coding
  b_write_coding : Binds K d_write_coding ["writer", "method", "coding"] []
  g_write_coding : mg "_write_coding" = some (.ref a_write_coding)
  a_write_part : Addr
  d_write_part : FuncData
  F_write_part : Fun K "_write_part" "_write_part" s_write_part a_write_part d_write_part
  b_write_part : Binds K d_write_part ["writer", "coding", "part"] []
  g_write_part : mg "_write_part" = some (.ref a_write_part)
  a_read_method : Addr
  d_read_method : FuncData
  F_read_method : Fun K "_read_method" "_read_method" s_read_method a_read_method d_read_method
  b_read_method : Binds K d_read_method ["reader"] []
  g_read_method : mg "_read_method" = some (.ref a_read_method)
  a_read_partition_order : Addr
  d_read_partition_order : FuncData
  F_read_partition_order : Fun K "_read_partition_order" "_read_partition_order" s_read_partition_order a_read_partition_order d_read_partition_order
  b_read_partition_order : Binds K d_read_partition_order ["reader", "size", "order"] []
  g_read_partition_order : mg "_read_partition_order" = some (.ref a_read_partition_order)
  a_read_coding : Addr
  d_read_coding : FuncData
  F_read_coding : Fun K "_read_coding" "_read_coding" s_read_coding a_read_coding d_read_coding
  b_read_coding : Binds K d_read_coding ["reader", "method"] []
  g_read_coding : mg "_read_coding" = some (.ref a_read_coding)
  a_read_part : Addr
  d_read_part : FuncData
  F_read_part : Fun K "_read_part" "_read_part" s_read_part a_read_part d_read_part
  b_read_part : Binds K d_read_part ["reader", "coding", "count"] []
  g_read_part : mg "_read_part" = some (.ref a_read_part)
  a_read_residual : Addr
  d_read_residual : FuncData
  F_read_residual : Fun K "_read_residual" "_read_residual" s_read_residual a_read_residual d_read_residual
  b_read_residual : Binds K d_read_residual ["reader", "k"] []
  g_read_residual : mg "_read_residual" = some (.ref a_read_residual)
  a_best_coding : Addr
  d_best_coding : FuncData
  F_best_coding : FunD K "best_coding" "best_coding" (defArgs s_best_coding) (defBody s_best_coding) (defScope s_best_coding) [] [] a_best_coding d_best_coding
  k2_highest_wide_best_coding : KBn K d_best_coding ["residuals", "order", "highest", "wide"] 2 ["highest", "wide"] (fun us ws => us ++ ws) (fun us ws => us ++ ws)
  g_best_coding : mg "best_coding" = some (.ref a_best_coding)
  a_width : Addr
  d_width : FuncData
  F_width : Fun K "_width" "_width" s_width a_width d_width
  b_width : Binds K d_width ["folded"] []
  g_width : mg "_width" = some (.ref a_width)
  a_measured : Addr
  d_measured : FuncData
  F_measured : Fun K "_measured" "_measured" s_measured a_measured d_measured
  b_measured : Binds K d_measured ["residuals"] []
  g_measured : mg "_measured" = some (.ref a_measured)
  a_measured_parts : Addr
  d_measured_parts : FuncData
  F_measured_parts : Fun K "_measured_parts" "_measured_parts" s_measured_parts a_measured_parts d_measured_parts
  b_measured_parts : Binds K d_measured_parts ["residuals", "sizes"] []
  g_measured_parts : mg "_measured_parts" = some (.ref a_measured_parts)
  a_joined_in_pairs : Addr
  d_joined_in_pairs : FuncData
  F_joined_in_pairs : Fun K "_joined_in_pairs" "_joined_in_pairs" s_joined_in_pairs a_joined_in_pairs d_joined_in_pairs
  b_joined_in_pairs : Binds K d_joined_in_pairs ["parts"] []
  g_joined_in_pairs : mg "_joined_in_pairs" = some (.ref a_joined_in_pairs)
  a_joined : Addr
  d_joined : FuncData
  F_joined : Fun K "_joined" "_joined" s_joined a_joined d_joined
  b_joined : Binds K d_joined ["part", "other"] []
  g_joined : mg "_joined" = some (.ref a_joined)
  a_entry : Addr
  d_entry : FuncData
  F_entry : Fun K "_entry" "_entry" s_entry a_entry d_entry
  b_entry : Binds K d_entry ["part", "method"] []
  g_entry : mg "_entry" = some (.ref a_entry)
  a_entries : Addr
  d_entries : FuncData
  F_entries : Fun K "_entries" "_entries" s_entries a_entries d_entries
  b_entries : Binds K d_entries ["parts", "method"] []
  g_entries : mg "_entries" = some (.ref a_entries)
  a_weighted : Addr
  d_weighted : FuncData
  F_weighted : Fun K "weighted" "weighted" s_weighted a_weighted d_weighted
  b_weighted : Binds K d_weighted ["samples"] []
  g_weighted : mg "weighted" = some (.ref a_weighted)
  a_autocorrelation : Addr
  d_autocorrelation : FuncData
  F_autocorrelation : Fun K "autocorrelation" "autocorrelation" s_autocorrelation a_autocorrelation d_autocorrelation
  b_autocorrelation : Binds K d_autocorrelation ["values", "most"] []
  g_autocorrelation : mg "autocorrelation" = some (.ref a_autocorrelation)
  a_exact_predictors : Addr
  d_exact_predictors : FuncData
  F_exact_predictors : Fun K "exact_predictors" "exact_predictors" s_exact_predictors a_exact_predictors d_exact_predictors
  b_exact_predictors : Binds K d_exact_predictors ["correlation"] []
  g_exact_predictors : mg "exact_predictors" = some (.ref a_exact_predictors)
  a_quantize : Addr
  d_quantize : FuncData
  F_quantize : Fun K "quantize" "quantize" s_quantize a_quantize d_quantize
  b_quantize : Binds K d_quantize ["numerators", "denominator", "precision"] []
  g_quantize : mg "quantize" = some (.ref a_quantize)
  a_predictors : Addr
  d_predictors : FuncData
  F_predictors : Fun K "predictors" "predictors" s_predictors a_predictors d_predictors
  b_predictors : Binds K d_predictors ["samples", "most", "precision"] []
  g_predictors : mg "predictors" = some (.ref a_predictors)
  a_last_numerator : Addr
  d_last_numerator : FuncData
  F_last_numerator : Fun K "_last_numerator" "_last_numerator" s_last_numerator a_last_numerator d_last_numerator
  b_last_numerator : Binds K d_last_numerator ["correlation", "numerators", "denominator"] []
  g_last_numerator : mg "_last_numerator" = some (.ref a_last_numerator)
  a_rounded : Addr
  d_rounded : FuncData
  F_rounded : Fun K "_rounded" "_rounded" s_rounded a_rounded d_rounded
  b_rounded : Binds K d_rounded ["a", "b"] []
  g_rounded : mg "_rounded" = some (.ref a_rounded)
  a_Subframe_init : Addr
  d_Subframe_init : FuncData
  e_Subframe_init_coefficients : Addr
  ze_Subframe_init_coefficients : ∀ H, SqT K H e_Subframe_init_coefficients []
  F_Subframe_init : FunD K "__init__" "Subframe.__init__" (defArgs s_Subframe_init) (defBody s_Subframe_init) (defScope s_Subframe_init) [] [("order", V.int 0), ("precision", V.int 0), ("shift", V.int 0), ("coefficients", V.ref e_Subframe_init_coefficients), ("plan", V.non), ("wasted", V.int 0)] a_Subframe_init d_Subframe_init
  k2_order_precision_shift_coefficients_plan_wasted_Subframe_init : KBn K d_Subframe_init ["self", "kind", "order", "precision", "shift", "coefficients", "plan", "wasted"] 2 ["order", "precision", "shift", "coefficients", "plan", "wasted"] (fun us ws => us ++ ws) (fun us ws => us ++ ws)
  mv2_wasted_Subframe_init : List Value
  k2_wasted_Subframe_init : KBn K d_Subframe_init ["self", "kind", "order", "precision", "shift", "coefficients", "plan", "wasted"] 2 ["wasted"] (fun us ws => us ++ ((List.take 5 (List.drop 0 mv2_wasted_Subframe_init)) ++ (List.take 1 (List.drop 0 ws)))) (fun us ws => us ++ ((List.take 5 (List.drop 0 [V.int 0, V.int 0, V.int 0, V.ref e_Subframe_init_coefficients, V.non])) ++ (List.take 1 (List.drop 0 ws))))
  mv2_order_plan_wasted_Subframe_init : List Value
  k2_order_plan_wasted_Subframe_init : KBn K d_Subframe_init ["self", "kind", "order", "precision", "shift", "coefficients", "plan", "wasted"] 2 ["order", "plan", "wasted"] (fun us ws => us ++ ((List.take 1 (List.drop 0 ws)) ++ (List.take 3 (List.drop 0 mv2_order_plan_wasted_Subframe_init)) ++ (List.take 2 (List.drop 1 ws)))) (fun us ws => us ++ ((List.take 1 (List.drop 0 ws)) ++ (List.take 3 (List.drop 0 [V.int 0, V.int 0, V.ref e_Subframe_init_coefficients])) ++ (List.take 2 (List.drop 1 ws))))
  e2_Subframe_init : List Value
  v2_Subframe_init : Vals [V.int 0, V.int 0, V.int 0, V.ref e_Subframe_init_coefficients, V.non, V.int 0] e2_Subframe_init
  b2_Subframe_init : Binds K d_Subframe_init ["self", "kind", "order", "precision", "shift", "coefficients", "plan", "wasted"] e2_Subframe_init
  a_write_subframe : Addr
  d_write_subframe : FuncData
  F_write_subframe : Fun K "write_subframe" "write_subframe" s_write_subframe a_write_subframe d_write_subframe
  b_write_subframe : Binds K d_write_subframe ["writer", "depth", "samples", "subframe"] []
  g_write_subframe : mg "write_subframe" = some (.ref a_write_subframe)
  a_read_subframe : Addr
  d_read_subframe : FuncData
  F_read_subframe : Fun K "read_subframe" "read_subframe" s_read_subframe a_read_subframe d_read_subframe
  b_read_subframe : Binds K d_read_subframe ["reader", "depth", "size"] []
  g_read_subframe : mg "read_subframe" = some (.ref a_read_subframe)
  a_subframe_bits : Addr
  d_subframe_bits : FuncData
  F_subframe_bits : Fun K "subframe_bits" "subframe_bits" s_subframe_bits a_subframe_bits d_subframe_bits
  b_subframe_bits : Binds K d_subframe_bits ["depth", "samples", "subframe"] []
  g_subframe_bits : mg "subframe_bits" = some (.ref a_subframe_bits)
  a_warm_up_length : Addr
  d_warm_up_length : FuncData
  F_warm_up_length : Fun K "_warm_up_length" "_warm_up_length" s_warm_up_length a_warm_up_length d_warm_up_length
  b_warm_up_length : Binds K d_warm_up_length ["subframe"] []
  g_warm_up_length : mg "_warm_up_length" = some (.ref a_warm_up_length)
  a_residuals : Addr
  d_residuals : FuncData
  F_residuals : Fun K "_residuals" "_residuals" s_residuals a_residuals d_residuals
  b_residuals : Binds K d_residuals ["values", "subframe"] []
  g_residuals : mg "_residuals" = some (.ref a_residuals)
  a_kind_code : Addr
  d_kind_code : FuncData
  F_kind_code : Fun K "_kind_code" "_kind_code" s_kind_code a_kind_code d_kind_code
  b_kind_code : Binds K d_kind_code ["subframe"] []
  g_kind_code : mg "_kind_code" = some (.ref a_kind_code)
  a_write_header : Addr
  d_write_header : FuncData
  F_write_header : Fun K "_write_header" "_write_header" s_write_header a_write_header d_write_header
  b_write_header : Binds K d_write_header ["writer", "subframe"] []
  g_write_header : mg "_write_header" = some (.ref a_write_header)
  a_write_values : Addr
  d_write_values : FuncData
  F_write_values : Fun K "_write_values" "_write_values" s_write_values a_write_values d_write_values
  b_write_values : Binds K d_write_values ["writer", "width", "values"] []
  g_write_values : mg "_write_values" = some (.ref a_write_values)
  a_write_predicted : Addr
  d_write_predicted : FuncData
  F_write_predicted : Fun K "_write_predicted" "_write_predicted" s_write_predicted a_write_predicted d_write_predicted
  b_write_predicted : Binds K d_write_predicted ["writer", "width", "values", "subframe"] []
  g_write_predicted : mg "_write_predicted" = some (.ref a_write_predicted)
  a_read_kind : Addr
  d_read_kind : FuncData
  F_read_kind : Fun K "_read_kind" "_read_kind" s_read_kind a_read_kind d_read_kind
  b_read_kind : Binds K d_read_kind ["reader"] []
  g_read_kind : mg "_read_kind" = some (.ref a_read_kind)
  a_read_wasted : Addr
  d_read_wasted : FuncData
  F_read_wasted : Fun K "_read_wasted" "_read_wasted" s_read_wasted a_read_wasted d_read_wasted
  b_read_wasted : Binds K d_read_wasted ["reader", "depth"] []
  g_read_wasted : mg "_read_wasted" = some (.ref a_read_wasted)
  a_read_values : Addr
  d_read_values : FuncData
  F_read_values : Fun K "_read_values" "_read_values" s_read_values a_read_values d_read_values
  b_read_values : Binds K d_read_values ["reader", "width", "count"] []
  g_read_values : mg "_read_values" = some (.ref a_read_values)
  a_read_fixed : Addr
  d_read_fixed : FuncData
  F_read_fixed : Fun K "_read_fixed" "_read_fixed" s_read_fixed a_read_fixed d_read_fixed
  b_read_fixed : Binds K d_read_fixed ["reader", "width", "size", "order", "wasted"] []
  g_read_fixed : mg "_read_fixed" = some (.ref a_read_fixed)
  a_read_linear : Addr
  d_read_linear : FuncData
  F_read_linear : Fun K "_read_linear" "_read_linear" s_read_linear a_read_linear d_read_linear
  b_read_linear : Binds K d_read_linear ["reader", "width", "size", "order", "wasted"] []
  g_read_linear : mg "_read_linear" = some (.ref a_read_linear)
  a_read_precision : Addr
  d_read_precision : FuncData
  F_read_precision : Fun K "_read_precision" "_read_precision" s_read_precision a_read_precision d_read_precision
  b_read_precision : Binds K d_read_precision ["reader"] []
  g_read_precision : mg "_read_precision" = some (.ref a_read_precision)
  a_read_shift : Addr
  d_read_shift : FuncData
  F_read_shift : Fun K "_read_shift" "_read_shift" s_read_shift a_read_shift d_read_shift
  b_read_shift : Binds K d_read_shift ["reader"] []
  g_read_shift : mg "_read_shift" = some (.ref a_read_shift)
  a_limit : Addr
  d_limit : FuncData
  F_limit : Fun K "_limit" "_limit" s_limit a_limit d_limit
  b_limit : Binds K d_limit ["width"] []
  g_limit : mg "_limit" = some (.ref a_limit)
  a_wasted_bits : Addr
  d_wasted_bits : FuncData
  F_wasted_bits : Fun K "wasted_bits" "wasted_bits" s_wasted_bits a_wasted_bits d_wasted_bits
  b_wasted_bits : Binds K d_wasted_bits ["samples"] []
  g_wasted_bits : mg "wasted_bits" = some (.ref a_wasted_bits)
  a_best_subframe : Addr
  d_best_subframe : FuncData
  F_best_subframe : Fun K "best_subframe" "best_subframe" s_best_subframe a_best_subframe d_best_subframe
  b_best_subframe : Binds K d_best_subframe ["samples", "depth", "settings"] []
  g_best_subframe : mg "best_subframe" = some (.ref a_best_subframe)
  a_first_smallest : Addr
  d_first_smallest : FuncData
  F_first_smallest : Fun K "_first_smallest" "_first_smallest" s_first_smallest a_first_smallest d_first_smallest
  b_first_smallest : Binds K d_first_smallest ["candidates"] []
  g_first_smallest : mg "_first_smallest" = some (.ref a_first_smallest)
  a_fixed_candidates : Addr
  d_fixed_candidates : FuncData
  F_fixed_candidates : Fun K "_fixed_candidates" "_fixed_candidates" s_fixed_candidates a_fixed_candidates d_fixed_candidates
  b_fixed_candidates : Binds K d_fixed_candidates ["values", "width", "wasted", "settings"] []
  g_fixed_candidates : mg "_fixed_candidates" = some (.ref a_fixed_candidates)
  a_linear_candidates : Addr
  d_linear_candidates : FuncData
  F_linear_candidates : Fun K "_linear_candidates" "_linear_candidates" s_linear_candidates a_linear_candidates d_linear_candidates
  b_linear_candidates : Binds K d_linear_candidates ["values", "width", "wasted", "settings"] []
  g_linear_candidates : mg "_linear_candidates" = some (.ref a_linear_candidates)
  a_linear_orders : Addr
  d_linear_orders : FuncData
  F_linear_orders : Fun K "_linear_orders" "_linear_orders" s_linear_orders a_linear_orders d_linear_orders
  b_linear_orders : Binds K d_linear_orders ["count", "settings"] []
  g_linear_orders : mg "_linear_orders" = some (.ref a_linear_orders)
  a_in_bounds : Addr
  d_in_bounds : FuncData
  F_in_bounds : Fun K "_in_bounds" "_in_bounds" s_in_bounds a_in_bounds d_in_bounds
  b_in_bounds : Binds K d_in_bounds ["residuals"] []
  g_in_bounds : mg "_in_bounds" = some (.ref a_in_bounds)
  a_best_plan : Addr
  d_best_plan : FuncData
  F_best_plan : Fun K "_best_plan" "_best_plan" s_best_plan a_best_plan d_best_plan
  b_best_plan : Binds K d_best_plan ["residuals", "order", "settings"] []
  g_best_plan : mg "_best_plan" = some (.ref a_best_plan)
  a_BitWriter_init : Addr
  d_BitWriter_init : FuncData
  F_BitWriter_init : Fun K "__init__" "BitWriter.__init__" s_BitWriter_init a_BitWriter_init d_BitWriter_init
  b_BitWriter_init : Binds K d_BitWriter_init ["self"] []
  a_BitWriter_write : Addr
  d_BitWriter_write : FuncData
  F_BitWriter_write : Fun K "write" "BitWriter.write" s_BitWriter_write a_BitWriter_write d_BitWriter_write
  b_BitWriter_write : Binds K d_BitWriter_write ["self", "width", "value"] []
  a_BitWriter_write_signed : Addr
  d_BitWriter_write_signed : FuncData
  F_BitWriter_write_signed : Fun K "write_signed" "BitWriter.write_signed" s_BitWriter_write_signed a_BitWriter_write_signed d_BitWriter_write_signed
  b_BitWriter_write_signed : Binds K d_BitWriter_write_signed ["self", "width", "value"] []
  a_BitWriter_write_unary : Addr
  d_BitWriter_write_unary : FuncData
  F_BitWriter_write_unary : Fun K "write_unary" "BitWriter.write_unary" s_BitWriter_write_unary a_BitWriter_write_unary d_BitWriter_write_unary
  b_BitWriter_write_unary : Binds K d_BitWriter_write_unary ["self", "count"] []
  a_BitWriter_pad : Addr
  d_BitWriter_pad : FuncData
  F_BitWriter_pad : Fun K "pad" "BitWriter.pad" s_BitWriter_pad a_BitWriter_pad d_BitWriter_pad
  b_BitWriter_pad : Binds K d_BitWriter_pad ["self"] []
  a_BitWriter_byte_list : Addr
  d_BitWriter_byte_list : FuncData
  F_BitWriter_byte_list : Fun K "byte_list" "BitWriter.byte_list" s_BitWriter_byte_list a_BitWriter_byte_list d_BitWriter_byte_list
  b_BitWriter_byte_list : Binds K d_BitWriter_byte_list ["self"] []
  a_BitWriter_bits_written : Addr
  d_BitWriter_bits_written : FuncData
  F_BitWriter_bits_written : Fun K "bits_written" "BitWriter.bits_written" s_BitWriter_bits_written a_BitWriter_bits_written d_BitWriter_bits_written
  b_BitWriter_bits_written : Binds K d_BitWriter_bits_written ["self"] []
  a_BitReader_init : Addr
  d_BitReader_init : FuncData
  F_BitReader_init : FunD K "__init__" "BitReader.__init__" (defArgs s_BitReader_init) (defBody s_BitReader_init) (defScope s_BitReader_init) [V.int 0] [] a_BitReader_init d_BitReader_init
  e2_BitReader_init : List Value
  v2_BitReader_init : Vals [V.int 0] e2_BitReader_init
  b2_BitReader_init : Binds K d_BitReader_init ["self", "data", "at"] e2_BitReader_init
  a_BitReader_read : Addr
  d_BitReader_read : FuncData
  F_BitReader_read : Fun K "read" "BitReader.read" s_BitReader_read a_BitReader_read d_BitReader_read
  b_BitReader_read : Binds K d_BitReader_read ["self", "width"] []
  a_BitReader_read_signed : Addr
  d_BitReader_read_signed : FuncData
  F_BitReader_read_signed : Fun K "read_signed" "BitReader.read_signed" s_BitReader_read_signed a_BitReader_read_signed d_BitReader_read_signed
  b_BitReader_read_signed : Binds K d_BitReader_read_signed ["self", "width"] []
  a_BitReader_read_unary : Addr
  d_BitReader_read_unary : FuncData
  F_BitReader_read_unary : Fun K "read_unary" "BitReader.read_unary" s_BitReader_read_unary a_BitReader_read_unary d_BitReader_read_unary
  b_BitReader_read_unary : Binds K d_BitReader_read_unary ["self"] []
  a_BitReader_rest_of_byte : Addr
  d_BitReader_rest_of_byte : FuncData
  F_BitReader_rest_of_byte : Fun K "_rest_of_byte" "BitReader._rest_of_byte" s_BitReader_rest_of_byte a_BitReader_rest_of_byte d_BitReader_rest_of_byte
  b_BitReader_rest_of_byte : Binds K d_BitReader_rest_of_byte ["self"] []
  a_BitReader_byte_place : Addr
  d_BitReader_byte_place : FuncData
  F_BitReader_byte_place : Fun K "byte_place" "BitReader.byte_place" s_BitReader_byte_place a_BitReader_byte_place d_BitReader_byte_place
  b_BitReader_byte_place : Binds K d_BitReader_byte_place ["self"] []
  a_BitReader_bit_place : Addr
  d_BitReader_bit_place : FuncData
  F_BitReader_bit_place : Fun K "bit_place" "BitReader.bit_place" s_BitReader_bit_place a_BitReader_bit_place d_BitReader_bit_place
  b_BitReader_bit_place : Binds K d_BitReader_bit_place ["self"] []
  a_Settings_init : Addr
  d_Settings_init : FuncData
  F_Settings_init : FunD K "__init__" "Settings.__init__" (defArgs s_Settings_init) (defBody s_Settings_init) (defScope s_Settings_init) [] [("block_sizes", V.non), ("fixed_order", V.int 4), ("linear_order", V.int 0), ("search", V.bl false), ("precision", V.int 12), ("partition_order", V.int 4), ("wide", V.bl false), ("stereo", V.bl true), ("wasted", V.bl true), ("seek_interval", V.int 0), ("vendor", V.str "")] a_Settings_init d_Settings_init
  mv2_fixed_order_linear_order_search_precision_partition_order_wide_stereo_wasted_Settings_init : List Value
  k2_fixed_order_linear_order_search_precision_partition_order_wide_stereo_wasted_Settings_init : KBn K d_Settings_init ["self", "block_size", "block_sizes", "fixed_order", "linear_order", "search", "precision", "partition_order", "wide", "stereo", "wasted", "seek_interval", "vendor"] 2 ["fixed_order", "linear_order", "search", "precision", "partition_order", "wide", "stereo", "wasted"] (fun us ws => us ++ ((List.take 1 (List.drop 0 mv2_fixed_order_linear_order_search_precision_partition_order_wide_stereo_wasted_Settings_init)) ++ (List.take 8 (List.drop 0 ws)) ++ (List.take 2 (List.drop 1 mv2_fixed_order_linear_order_search_precision_partition_order_wide_stereo_wasted_Settings_init)))) (fun us ws => us ++ ((List.take 1 (List.drop 0 [V.non, V.int 0, V.str ""])) ++ (List.take 8 (List.drop 0 ws)) ++ (List.take 2 (List.drop 1 [V.non, V.int 0, V.str ""]))))
  a_law_cell : Addr
  d_law_cell : FuncData
  F_law_cell : Fun K "_law_cell" "_law_cell" s_law_cell a_law_cell d_law_cell
  b_law_cell : Binds K d_law_cell ["script", "k"] []
  g_law_cell : mg "_law_cell" = some (.ref a_law_cell)
  a_law_integer : Addr
  d_law_integer : FuncData
  F_law_integer : Fun K "_law_integer" "_law_integer" s_law_integer a_law_integer d_law_integer
  b_law_integer : Binds K d_law_integer ["value"] []
  g_law_integer : mg "_law_integer" = some (.ref a_law_integer)
  a_law_integers : Addr
  d_law_integers : FuncData
  F_law_integers : Fun K "_law_integers" "_law_integers" s_law_integers a_law_integers d_law_integers
  b_law_integers : Binds K d_law_integers ["values"] []
  g_law_integers : mg "_law_integers" = some (.ref a_law_integers)
  a_law_row : Addr
  d_law_row : FuncData
  F_law_row : Fun K "_law_row" "_law_row" s_law_row a_law_row d_law_row
  b_law_row : Binds K d_law_row ["cell", "count", "bound"] []
  g_law_row : mg "_law_row" = some (.ref a_law_row)
  a_law_signal : Addr
  d_law_signal : FuncData
  F_law_signal : Fun K "_law_signal" "_law_signal" s_law_signal a_law_signal d_law_signal
  b_law_signal : Binds K d_law_signal ["cell", "count", "depth", "shape"] []
  g_law_signal : mg "_law_signal" = some (.ref a_law_signal)
  a_law_settings : Addr
  d_law_settings : FuncData
  F_law_settings : Fun K "_law_settings" "_law_settings" s_law_settings a_law_settings d_law_settings
  b_law_settings : Binds K d_law_settings ["cell", "size", "linear"] []
  g_law_settings : mg "_law_settings" = some (.ref a_law_settings)
  a_law_fields : Addr
  d_law_fields : FuncData
  F_law_fields : Fun K "_law_fields" "_law_fields" s_law_fields a_law_fields d_law_fields
  b_law_fields : Binds K d_law_fields ["told"] []
  g_law_fields : mg "_law_fields" = some (.ref a_law_fields)
  a_law_bounded : Addr
  d_law_bounded : FuncData
  F_law_bounded : Fun K "_law_bounded" "_law_bounded" s_law_bounded a_law_bounded d_law_bounded
  b_law_bounded : Binds K d_law_bounded ["samples", "depth", "settings", "degree", "k", "bits"] []
  g_law_bounded : mg "_law_bounded" = some (.ref a_law_bounded)
  a_law : Addr
  d_law : FuncData
  F_law : Fun K "law" "law" s_law a_law d_law
  b_law : Binds K d_law ["script"] []
  g_law : mg "law" = some (.ref a_law)
  C_Subframe : Addr
  cl_Subframe : Cls K C_Subframe
  g_Subframe : mg "Subframe" = some (.ref C_Subframe)
  M_Subframe : Mk K C_Subframe a_Subframe_init
  n_Subframe_kind : NoAttr K C_Subframe "kind"
  n_Subframe_order : NoAttr K C_Subframe "order"
  n_Subframe_precision : NoAttr K C_Subframe "precision"
  n_Subframe_shift : NoAttr K C_Subframe "shift"
  n_Subframe_coefficients : NoAttr K C_Subframe "coefficients"
  n_Subframe_plan : NoAttr K C_Subframe "plan"
  n_Subframe_wasted : NoAttr K C_Subframe "wasted"
  C_BitWriter : Addr
  cl_BitWriter : Cls K C_BitWriter
  g_BitWriter : mg "BitWriter" = some (.ref C_BitWriter)
  M_BitWriter : Mk K C_BitWriter a_BitWriter_init
  me_BitWriter_write : Meth K C_BitWriter "write" a_BitWriter_write
  me_BitWriter_write_signed : Meth K C_BitWriter "write_signed" a_BitWriter_write_signed
  me_BitWriter_write_unary : Meth K C_BitWriter "write_unary" a_BitWriter_write_unary
  me_BitWriter_pad : Meth K C_BitWriter "pad" a_BitWriter_pad
  me_BitWriter_byte_list : Meth K C_BitWriter "byte_list" a_BitWriter_byte_list
  me_BitWriter_bits_written : Meth K C_BitWriter "bits_written" a_BitWriter_bits_written
  n_BitWriter_whole : NoAttr K C_BitWriter "_whole"
  n_BitWriter_held : NoAttr K C_BitWriter "_held"
  n_BitWriter_held_bits : NoAttr K C_BitWriter "_held_bits"
  C_BitReader : Addr
  cl_BitReader : Cls K C_BitReader
  g_BitReader : mg "BitReader" = some (.ref C_BitReader)
  M_BitReader : Mk K C_BitReader a_BitReader_init
  me_BitReader_read : Meth K C_BitReader "read" a_BitReader_read
  me_BitReader_read_signed : Meth K C_BitReader "read_signed" a_BitReader_read_signed
  me_BitReader_read_unary : Meth K C_BitReader "read_unary" a_BitReader_read_unary
  me_BitReader_rest_of_byte : Meth K C_BitReader "_rest_of_byte" a_BitReader_rest_of_byte
  me_BitReader_byte_place : Meth K C_BitReader "byte_place" a_BitReader_byte_place
  me_BitReader_bit_place : Meth K C_BitReader "bit_place" a_BitReader_bit_place
  n_BitReader_data : NoAttr K C_BitReader "_data"
  n_BitReader_position : NoAttr K C_BitReader "_position"
  C_Settings : Addr
  cl_Settings : Cls K C_Settings
  g_Settings : mg "Settings" = some (.ref C_Settings)
  M_Settings : Mk K C_Settings a_Settings_init
  n_Settings_block_size : NoAttr K C_Settings "block_size"
  n_Settings_block_sizes : NoAttr K C_Settings "block_sizes"
  n_Settings_fixed_order : NoAttr K C_Settings "fixed_order"
  n_Settings_linear_order : NoAttr K C_Settings "linear_order"
  n_Settings_search : NoAttr K C_Settings "search"
  n_Settings_precision : NoAttr K C_Settings "precision"
  n_Settings_partition_order : NoAttr K C_Settings "partition_order"
  n_Settings_wide : NoAttr K C_Settings "wide"
  n_Settings_stereo : NoAttr K C_Settings "stereo"
  n_Settings_wasted : NoAttr K C_Settings "wasted"
  n_Settings_seek_interval : NoAttr K C_Settings "seek_interval"
  n_Settings_vendor : NoAttr K C_Settings "vendor"
  m_list : mg "list" = none
  m_range : mg "range" = none
  m_zip : mg "zip" = none
  m_len : mg "len" = none
  m_sum : mg "sum" = none
  m_tuple : mg "tuple" = none
  m_max : mg "max" = none
  m_min : mg "min" = none
  m_enumerate : mg "enumerate" = none
  m_reversed : mg "reversed" = none
  m_abs : mg "abs" = none
  m_isinstance : mg "isinstance" = none
  m_int : mg "int" = none
  m_bool : mg "bool" = none
  m_all : mg "all" = none
  u_BOUND_residual : Value
  c_BOUND_residual : mg "BOUND_residual" = some u_BOUND_residual
  r_BOUND_residual : RelV (.int (2147483648)) u_BOUND_residual
  A_PARAMETERS : Addr
  c_PARAMETERS : mg "_PARAMETERS" = some (.ref A_PARAMETERS)
  s_PARAMETERS : ∀ H, SqT K H A_PARAMETERS [V.int 15, V.int 31]
  y_PARAMETERS : ∃ o, K.lookup A_PARAMETERS = some o ∧ o.cls = .type "tuple" ∧ o.dict = none
  u_MOST_RAW_WIDTH : Value
  c_MOST_RAW_WIDTH : mg "_MOST_RAW_WIDTH" = some u_MOST_RAW_WIDTH
  r_MOST_RAW_WIDTH : RelV (.int (31)) u_MOST_RAW_WIDTH
  u_HEAD_BITS : Value
  c_HEAD_BITS : mg "_HEAD_BITS" = some u_HEAD_BITS
  r_HEAD_BITS : RelV (.int (6)) u_HEAD_BITS
  u_MOST_SHIFT : Value
  c_MOST_SHIFT : mg "_MOST_SHIFT" = some u_MOST_SHIFT
  r_MOST_SHIFT : RelV (.int (15)) u_MOST_SHIFT
  u_BOUND_choice : Value
  c_BOUND_choice : mg "BOUND_choice" = some u_BOUND_choice
  r_BOUND_choice : RelV (.int (2147483648)) u_BOUND_choice
  u_HEADER_BITS : Value
  c_HEADER_BITS : mg "_HEADER_BITS" = some u_HEADER_BITS
  r_HEADER_BITS : RelV (.int (8)) u_HEADER_BITS
  u_PREDICTOR_BITS : Value
  c_PREDICTOR_BITS : mg "_PREDICTOR_BITS" = some u_PREDICTOR_BITS
  r_PREDICTOR_BITS : RelV (.int (9)) u_PREDICTOR_BITS
  u_MOST_ZEROS : Value
  c_MOST_ZEROS : mg "_MOST_ZEROS" = some u_MOST_ZEROS
  r_MOST_ZEROS : RelV (.int (56)) u_MOST_ZEROS
section
variable {P : Program} {w : World} {K : PySem.W.Frag} {mg : Str → Option Value} {base : Heap}
def bits8 (b : Nat) : List Bool := (List.range 8).map fun k => b.testBit (7 - k)
/-! ### zip of a tuple and a list -/
def ItM (K : PySem.W.Frag) (a b : Addr) : It where
  go i H := ∃ (xs ys : List V) (x y : V), SqT K H a xs ∧ SqL K H b ys ∧ xs[i]? = some x ∧ ys[i]? = some y
  yld i H v H' := ∃ T x y, v = .ref T ∧ H T = none ∧ H' = upd H T (.tup [x, y]) ∧ (∀ xs, SqT K H a xs → xs[i]? = some x) ∧ ∀ ys, SqL K H b ys → ys[i]? = some y
  stop i H := ∃ xs ys : List V, SqT K H a xs ∧ SqL K H b ys ∧ i ≤ xs.length ∧ i ≤ ys.length ∧ (i = xs.length ∨ i = ys.length)
structure Mx (z TI TO i1 i2 a b : Addr) : Prop where
  sep : ZipSep2 z TI TO i1 i2 [i1, a] [i2, b]
  ai : a ≠ i1
  bi : b ≠ i2
structure MxAt (z TI TO i1 i2 a b : Addr) (i : Nat) (h : Heap) : Prop where
  hz : PySem.IsZip h z TI TO .none
  hI : IsTupOf2 h TI (.ref i1) (.ref i2)
  hO : ∃ x y, IsTupOf2 h TO x y
  h1 : h.IsTupleIter i1 a i
  h2 : h.IsListIter i2 b i
theorem five {z TI TO i1 i2 c : Addr} (h : c ∈ [z, TI, TO, i1, i2]) : c = z ∨ c = TI ∨ c = TO ∨ c = i1 ∨ c = i2 := by simpa using h
theorem off {z TI TO i1 i2 c : Addr} (h : c ∉ [z, TI, TO, i1, i2]) : c ≠ z ∧ c ≠ TI ∧ c ≠ TO ∧ c ≠ i1 ∧ c ≠ i2 := by simpa using h
theorem MxAt.has {z TI TO i1 i2 a b : Addr} {i : Nat} {h : Heap} (m : MxAt z TI TO i1 i2 a b i h) : ∀ c ∈ [z, TI, TO, i1, i2], ∃ o, h.get? c = some o ∧ ∀ v, o.data ≠ .cell v := fun c hc => by
  obtain ⟨m1, m2, ⟨_, _, m3⟩, ⟨o4, e4, _, d4⟩, ⟨o5, e5, _, d5⟩⟩ := m
  rcases five hc with rfl | rfl | rfl | rfl | rfl
  · exact ⟨_, m1, fun v e => nomatch e⟩
  · exact ⟨_, m2, fun v e => nomatch e⟩
  · exact ⟨_, m3, fun v e => nomatch e⟩
  · exact ⟨o4, e4, fun v e => nomatch (d4.symm.trans e)⟩
  · exact ⟨o5, e5, fun v e => nomatch (d5.symm.trans e)⟩
theorem MxAt.keep {z TI TO i1 i2 a b : Addr} {i : Nat} {h h' : Heap} (m : MxAt z TI TO i1 i2 a b i h) (k : ∀ c ∈ [z, TI, TO, i1, i2], ∀ o, h.get? c = some o → h'.get? c = some o) : MxAt z TI TO i1 i2 a b i h' := by
  obtain ⟨m1, m2, ⟨x, y, m3⟩, m4, m5⟩ := m
  exact ⟨k z (by simp) _ m1, k TI (by simp) _ m2, ⟨x, y, k TO (by simp) _ m3⟩, m4.at (k i1 (by simp)), m5.at (k i2 (by simp))⟩
theorem get_of {α : Type} {l : List α} {i : Nat} {x : α} (h : l[i]? = some x) : i < l.length := (List.getElem?_eq_some_iff.mp h).1
theorem turn_zipM {P : Program} {w : World} {K : PySem.W.Frag} {elts : List Expr} {kk : Nat} {tpos : Pos} {a b z TI TO i1 i2 : Addr} (D : Mx z TI TO i1 i2 a b) :
    Turn P w K (.Tuple elts kk tpos) (ItM K a b) [z, TI, TO, i1, i2] z (MxAt z TI TO i1 i2 a b) where
  mem := List.mem_cons_self
  obj := fun _ _ m => m.has
  keep := fun _ _ _ m k => m.keep k
  item := by
    rintro X rfl rfl rfl calm i pins s σ H E I out m ⟨xs, ys, x, y, qx, qy, hx, hy⟩
    obtain ⟨ta, ra, pa, _⟩ := I.tuple qx
    obtain ⟨tb, rb, pb, _⟩ := I.list qy
    have none1 : X.A.in1.handled = none := I.ok.hd calm
    have old := m.has
    obtain ⟨m1, m2, ⟨u0, v0, m3⟩, m4, m5⟩ := m
    have la := get_of hx
    have lb := get_of hy
    have wa := ra.length
    have wb := rb.length
    refine wpAny_pyNext_zipD2_item D.sep (Draws.tuple none1 i1 a D.ai ta.toArray) (Draws.list none1 i2 b D.bi tb.toArray) m1 m2 m3 ⟨m4, pa⟩ ⟨m5, pb.isList⟩ (by simp; omega) (by simp; omega) fun u v h1 tk gu gv n1 n3 n4 n5 nT nsz far => ⟨_, rfl, ?_⟩
    obtain ⟨u', eu, ru⟩ := ra.get hx
    obtain ⟨v', ev, rv⟩ := rb.get hy
    obtain rfl : u' = u := Option.some.inj (eu.symm.trans (by simpa using gu))
    obtain rfl : v' = v := Option.some.inj (ev.symm.trans (by simpa using gv))
    refine wpAny_letOwnedTupleGo_zip (s := { s with heap := h1, toks := tk }) n1 fun h2 z2 sb => ?_
    have far2 : ∀ c o, c ∉ [z, TI, TO, i1, i2] → s.heap.get? c = some o → h2.get? c = some o := fun c o hc e => by
      obtain ⟨c1, _, c3, c4, c5⟩ := off hc
      exact (sb.2 c c1).trans (far c o c1 c3 c4 c5 e)
    have ne : z ≠ s.heap.objs.size := Nat.ne_of_lt (Heap.lt_size m1)
    have tup : IsTupOf2 h2 s.heap.objs.size u' v' := (sb.2 _ ne.symm).trans nT
    have ok2 : ObjOk X.prog X.w (upd H s.heap.objs.size (.tup [x, y])) h2 s.heap.objs.size (.tup [x, y]) := ⟨sz_of (n := 2) (by decide), [u', v'], .cons ru (.cons rv .nil), ⟨_, tup, rfl, _, rfl⟩⟩
    have free := I.hok.fresh (Nat.le_refl s.heap.objs.size)
    refine ⟨.ref s.heap.objs.size, upd H s.heap.objs.size (.tup [x, y]), I.turnedNew (t' := tk) far2 out (Nat.le_refl _) ok2, rfl, ⟨_, x, y, rfl, free, rfl, fun l q => I.tuple_inj qx q ▸ hx, fun l q => I.list_inj qy q ▸ hy⟩, ?_, fun c hc => ?_⟩
    · exact ⟨z2, (sb.2 _ D.sep.TIz).trans (far _ _ D.sep.TIz D.sep.TITO D.sep.TIi1 D.sep.TIi2 m2), ⟨u', v', (sb.2 _ D.sep.TOz).trans n3⟩, n4.1.at fun o e => (sb.2 _ D.sep.zi1.symm).trans e, n5.1.at fun o e => (sb.2 _ D.sep.zi2.symm).trans e⟩
    · obtain ⟨o, e, _⟩ := old c hc
      rw [upd_ne (Nat.ne_of_lt (Heap.lt_size e))]
      exact (out c hc).1
  done := by
    rintro X rfl rfl rfl calm i pins s σ H E I out m ⟨xs, ys, qx, qy, l1, l2, l3⟩
    obtain ⟨ta, ra, pa, _⟩ := I.tuple qx
    obtain ⟨tb, rb, pb, _⟩ := I.list qy
    have none1 : X.A.in1.handled = none := I.ok.hd calm
    obtain ⟨m1, m2, ⟨u0, v0, m3⟩, m4, m5⟩ := m
    have wa := ra.length
    have wb := rb.length
    refine wpAny_pyNext_zipD2_end D.sep (Draws.tuple none1 i1 a D.ai ta.toArray) (Draws.list none1 i2 b D.bi tb.toArray) m1 m2 m3 ⟨m4, pa⟩ ⟨m5, pb.isList⟩ (by simp; omega) (by simp; omega) (by simp; omega) fun h1 tk far => ⟨rfl, ?_⟩
    refine I.turnedL (t' := tk) (ch := [z, TI, TO, i1, i2]) (fun c o hc e => ?_) out
    obtain ⟨c1, _, c3, c4, c5⟩ := off hc
    exact far c o c1 c3 c4 c5 e
  self := fun _ _ _ _ _ m q => wpAny_pyIter_zip m.hz q
theorem sep_new {n a b : Nat} (ha : a < n) (hb : b < n) : (n + 2 ≠ n + 4) ∧ (n + 3 ≠ n + 4) ∧ (n + 2 ≠ n + 3) ∧ (n + 2 ≠ n) ∧ (n + 4 ∉ [n, a]) ∧ (n + 3 ∉ [n, a]) ∧ (n + 2 ≠ n + 1) ∧ (n + 4 ∉ [n + 1, b]) ∧ (n + 3 ∉ [n + 1, b]) ∧ (n ∉ [n + 1, b]) ∧ (n + 1 ∉ [n, a]) ∧ a ≠ n ∧ b ≠ n + 1 := by
  simp only [List.mem_cons, List.not_mem_nil, or_false, not_or]
  omega
theorem mx_new {n a b : Nat} (ha : a < n) (hb : b < n) : Mx (n + 4) (n + 2) (n + 3) n (n + 1) a b := by
  obtain ⟨h1, h2, h3, h4, h5, h6, h7, h8, h9, h10, h11, h12, h13⟩ := sep_new ha hb
  exact ⟨⟨h1, h2, h3, h4, List.mem_cons_self, h5, h6, h7, List.mem_cons_self, h8, h9, h10, h11⟩, h12, h13⟩
def iZipM (K : PySem.W.Frag) (ta : TA) : TI := fun σ H R => ta σ H fun vs H1 => ∃ a b xs ys, vs = [.ref a, .ref b] ∧ SqT K H1 a xs ∧ SqL K H1 b ys ∧ R (ItM K a b) H1
theorem pi_zipM {X : Cx} {e e2 : Expr} {ta : TA} {p pos tpos : Pos} {elts : List Expr} {kk : Nat} (hg : Gl X "zip") (hm : X.mg "zip" = none) (ha : PA X [e, e2] ta)
    (hs : starEach [e, e2] X.env = (false, eval e X.env) :: starEach [e2] X.env := by rfl) (hpl : (backTo pos (starEach [e2] X.env)).any (·.1) = false := by rfl) : PI X (.Tuple elts kk tpos) (.Call (.Name "zip" p) [e, e2] [] pos) (iZipM X.K ta) := by
  refine ⟨fun pins s0 σ H R I0 h0 => Call_ (ld_blt I0 hg hm PyProof.Rows.boot_zip (PyProof.Rows.callWith_type1 (thn (ha.run pos pins s0 σ H _ I0 h0) ?_) hs hpl))⟩
  rintro us s ⟨vs, H1, I, rel, a, b, xs, ys, rfl, qx, qy, q⟩
  obtain ⟨ta', ra, pa, _⟩ := I.tuple qx
  obtain ⟨tb, rb, pb, _⟩ := I.list qy
  rcases rel with _ | ⟨r1, _ | ⟨r2, _ | _⟩⟩
  cases r1
  cases r2
  have alt : a < s.heap.objs.size := by obtain ⟨o, e, _⟩ := id pa; exact Heap.lt_size e
  have blt : b < s.heap.objs.size := pb.lt
  refine zip_begins2 (begins_tuple a ta'.toArray) (begins_list b tb.toArray) pa pb.isList fun h' hz hI hO g1 g2 hsz hk => wpAny_pyIter_zip hz ?_
  refine ⟨_, [s.heap.objs.size + 4, s.heap.objs.size + 2, s.heap.objs.size + 3, s.heap.objs.size, s.heap.objs.size + 1], _, _, H1, rfl, I.kept (t' := s.toks) hk, turn_zipM (a := a) (b := b) (mx_new alt blt), ⟨hz, hI, ⟨_, _, hO⟩, ⟨_, g1, rfl, rfl⟩, ⟨_, g2, rfl, rfl⟩⟩, fun c hc => ?_, q⟩
  have hle : s.heap.objs.size ≤ c := by
    rcases five hc with rfl | rfl | rfl | rfl | rfl
    · exact Nat.le_add_right _ _
    · exact Nat.le_add_right _ _
    · exact Nat.le_add_right _ _
    · exact Nat.le_refl _
    · exact Nat.le_add_right _ _
  exact I.fpOk hle (I.hok.fresh hle)

/-! ### int(x), bits of a number -/
theorem Ev.is {σ : L2.St} {H : Hp} {te : TE} {x y : V} (h : Ev te σ H x) (e : x = y) : Ev te σ H y := e ▸ h
theorem ev_int1 {σ : L2.St} {H : Hp} {te : TE} {i : Int} (h : Ev te σ H (.int i)) : Ev (tCB (fun xs H Q => (∃ i, xs = [V.int i] ∧ Q (V.int i) H) ∨ ∃ k, xs = [V.bl k] ∧ Q (V.int (if k = true then 1 else 0)) H) (tCons te tNil)) σ H (.int i) :=
  ev_cb (ea_cons h ea_nil) fun H1 _ Q q => .inl ⟨i, rfl, q H1 (Ex.refl H1)⟩
theorem s_augR {σ : L2.St} {H : Hp} {te : TE} {D : Ends} {i : Nat} {g : Int → Int → V} {a b : Int} (h1 : σ[i]? = some (some (.int a))) (h : Ev te σ H (.int b)) (k : ∀ H1, Ex H H1 → D.nx (σ.set i (some (g a b))) H1) : tAug i te (rI0 g) D σ H :=
  ⟨_, h1, h H (Ex.refl H) _ fun H1 e => ⟨a, b, rfl, rfl, k H1 e⟩⟩
theorem ev_atT {K : PySem.W.Frag} {σ : L2.St} {H : Hp} {tl ti : TE} {t : Addr} {xs : List V} {n : Int} {v : V} (h : Ev tl σ H (.ref t)) (hT : SqT K H t xs) (hi : Ev ti σ H (.int n)) (ha : atI xs n = some v) : Ev (tOp (rIxT K) tl ti) σ H v := fun H1 e Q q =>
  h H1 e _ fun H2 e2 => hi H2 (e.trans e2) _ fun H3 e3 => ⟨t, xs, n, v, rfl, rfl, ex_t ((e.trans e2).trans e3) hT, ha, q H3 (e2.trans e3)⟩
local macro_rules | `(tactic| walk_at "side") => `(tactic| first
  | omega
  | (show CDivW _ _; exact ⟨by omega, by decide⟩)
  | (show CDivW _ _; exact wide_div (b := 80) (by omega) (by omega) (by decide) (by decide)))
local macro_rules | `(tactic| walk_at "evown") => `(tactic| (refine' ev_int1 ?h1; (case h1 => walk_at "ev")))
/-- numbers from 0 on, as such -/
def cs (ds : List Nat) : List Int := ds.map fun d : Nat => (d : Int)
theorem cs_len (ds : List Nat) : (cs ds).length = ds.length := List.length_map ..
theorem cs_at {ds : List Nat} {i : Nat} {d : Nat} (h : ds[i]? = some d) : (cs ds)[i]? = some (d : Int) := by unfold cs; rw [List.getElem?_map, h]; rfl
theorem cs_take (ds : List Nat) (i : Nat) : (cs ds).take i = cs (ds.take i) := by unfold cs; rw [List.map_take]
theorem cs_drop (ds : List Nat) (i : Nat) : (cs ds).drop i = cs (ds.drop i) := by unfold cs; rw [List.map_drop]
theorem cs_append (ds es : List Nat) : cs (ds ++ es) = cs ds ++ cs es := List.map_append ..

def sp_cell (K : PySem.W.Frag) : Sp := fun vs H Q _ => ∃ (a : Addr) (ns : List Int) (k : Int), vs = [.ref a, .int k] ∧ SqL K H a (ns.map V.int) ∧ 0 ≤ k ∧ RetV (.int (cellI ns k)) H Q
theorem ok_law_cell (T : TX K mg) : FnOk P w K mg base CX0 1 T.a_law_cell T.d_law_cell ["script", "k"] (sp_cell K) := by
  refine T.F_law_cell.ok sc_law_cell (fun vs H Q E h => by obtain ⟨a, ns, k, rfl, _⟩ := h; rfl) (fun cdv A outer s H vs Q E hr h => ?_)
  obtain ⟨a, ns, k, rfl, hS, hk, q⟩ := h
  refine ⟨_, (pss_cons (ps_if (pt_cmpR op_lt (pv 1) (pe_callB (r := rLenS K) call_len_seq (by rfl) T.m_len PySem.boot_len (pa_cons (pv 0) pa_nil)) (nomark _)) (pss_one (ps_ret (pe_ix (r := rIxL K) ix_list (pv 0) (pv 1) (fun _ _ => rfl)))) pss_nil)
      (pss_one (ps_ret pe_int))), ?_⟩
  have hl := (ev_lenS (K := K) (Ev.s (te := tVar 0) (σ := start ["script", "k"] [.ref a, .int k]) (ev_var rfl) hS))
  refine q_when (et_test (ev_I0 (ev_var rfl) hl)) ?_ ?_
  · intro hb H1 e1
    have hb : k < ns.length := by
      have := of_decide_eq_true hb
      rwa [List.length_map] at this
    refine s_ret (v := .int (cellI ns k)) (ev_ixS (i := 0) (n := k) (Ev.s (ev_var rfl) (ex_l e1 hS)) (ev_var rfl) ?_) fun H2 e2 => q H2 (e1.trans e2)
    exact at_of (j := k.toNat) (by omega) (at_int (cellI_in hk hb))
  · intro hb H1 e1
    have hb : ¬ k < ns.length := by
      have := of_decide_eq_false hb
      rwa [List.length_map] at this
    walk_at "ret"
    intro H2 e2
    exact ret_eq q (e1.trans e2) (by rw [cellI_out hb])
theorem ev_cell {σ : L2.St} {H : Hp} {ta tk : TE} {E : XK} {ns : List Int} {k : Int} {a : Addr} (ha : Ev ta σ H (.ref a)) (hS : SqL K H a (ns.map V.int)) (hk : Ev tk σ H (.int k)) (h0 : 0 ≤ k) : Ev (tCall (sp_cell K) [] E (tCons ta (tCons tk tNil))) σ H (.int (cellI ns k)) :=
  ev_call (ea_cons ha (ea_cons hk ea_nil)) fun H1 e Q q _ => ⟨a, ns, k, rfl, ex_l e hS, h0, q⟩
local macro_rules | `(tactic| walk_at "evown") => `(tactic| (refine' ev_cell ?h1 ?h2 ?h3 ?h4; (case h1 => exact ev_var rfl); (case h2 => walk_at "sq"); (case h3 => walk_at "ev"); (case h4 => walk_at "side")))

/-! ### objects: fields, methods, making -/
section
variable {K : PySem.W.Frag} {σ : L2.St} {H : Hp} {to te tv : TE} {a C : Addr} {dx : Addr} {fs : List (Str × V)} {f m : Str} {v : V} {D : Ends} {tz : TS} {sp : Sp} {dvs vs : List V} {E : XK} {t : TA}
theorem ev_fld (c : Cls K C) (hn : NoAttr K C f) (h : Ev to σ H (.ref a)) (hx : H a = some (.ins C dx fs)) (hl : fs.lookup f = some v) : Ev (tFld K to f) σ H v := fun H1 e Q q => h H1 e _ fun H2 e2 => ⟨a, C, dx, fs, v, rfl, (e.trans e2) _ _ hx, c, hn, hl, q H2 e2⟩
theorem q_fld (c : Cls K C) (hn : NoAttr K C f) (hv : Ev tv σ H v) (h : Ev to σ H (.ref a)) (hx : H a = some (.ins C dx fs)) (hl : fs.length < 1000) (k : ∀ H1, Ex H H1 → tz D σ (upd H1 a (.ins C dx (putF f v fs)))) : tSeq (sFld K to tv f) tz D σ H :=
  hv H (Ex.refl H) _ fun H1 e1 => h H1 e1 _ fun H2 e2 => ⟨a, C, dx, fs, rfl, (e1.trans e2) _ _ hx, c, hn, hl, k H2 (e1.trans e2)⟩
theorem s_fld (c : Cls K C) (hn : NoAttr K C f) (hv : Ev tv σ H v) (h : Ev to σ H (.ref a)) (hx : H a = some (.ins C dx fs)) (hl : fs.length < 1000) (k : ∀ H1, Ex H H1 → D.nx σ (upd H1 a (.ins C dx (putF f v fs)))) : sFld K to tv f D σ H :=
  hv H (Ex.refl H) _ fun H1 e1 => h H1 e1 _ fun H2 e2 => ⟨a, C, dx, fs, rfl, (e1.trans e2) _ _ hx, c, hn, hl, k H2 (e1.trans e2)⟩
theorem q_fldL {xs : List V} (c : Cls K C) (hn : NoAttr K C f) (hv : EvL tv σ H xs) (h : ∀ H1, Ex H H1 → Ev to σ H1 (.ref a)) (hx : H a = some (.ins C dx fs)) (hl : fs.length < 1000) (k : ∀ p H1, H p = none → Ex H H1 → H1 p = some (.lst xs) → tz D σ (upd H1 a (.ins C dx (putF f (.ref p) fs)))) : tSeq (sFld K to tv f) tz D σ H :=
  hv H (Ex.refl H) _ fun p H1 hp e1 g1 => h H1 e1 H1 (Ex.refl H1) _ fun H2 e2 => ⟨a, C, dx, fs, rfl, (e1.trans e2) _ _ hx, c, hn, hl, k p H2 hp (e1.trans e2) (e2 _ _ g1)⟩
/-- o.m(..), whatever m promises -/
theorem mth (h : Ev to σ H (.ref a)) (hx : H a = some (.ins C dx fs)) (hm : fs.lookup m = none) (ha : EvA t σ H vs) {Q : VK} (k : ∀ H1, Ex H H1 → sp (.ref a :: (vs ++ dvs)) H1 Q E) : tMeth C m sp dvs E to t σ H Q :=
  h H (Ex.refl H) _ fun H1 e1 => ⟨a, dx, fs, rfl, e1 _ _ hx, hm, ha H1 e1 _ fun H2 e2 => k H2 (e1.trans e2)⟩
theorem q_dropM (h : Ev to σ H (.ref a)) (hx : H a = some (.ins C dx fs)) (hm : fs.lookup m = none) (ha : EvA t σ H vs) (k : ∀ H1, Ex H H1 → sp (.ref a :: (vs ++ dvs)) H1 (fun _ H2 => tz D σ H2) E) : tSeq (tDrop (tMeth C m sp dvs E to t)) tz D σ H := mth h hx hm ha k
theorem s_dropM (h : Ev to σ H (.ref a)) (hx : H a = some (.ins C dx fs)) (hm : fs.lookup m = none) (ha : EvA t σ H vs) (k : ∀ H1, Ex H H1 → sp (.ref a :: (vs ++ dvs)) H1 (fun _ H2 => D.nx σ H2) E) : tDrop (tMeth C m sp dvs E to t) D σ H := mth h hx hm ha k
theorem q_asgM {i : Nat} (h : Ev to σ H (.ref a)) (hx : H a = some (.ins C dx fs)) (hm : fs.lookup m = none) (ha : EvA t σ H vs) (k : ∀ H1, Ex H H1 → sp (.ref a :: (vs ++ dvs)) H1 (fun x H2 => tz D (σ.set i (some x)) H2) E) : tSeq (tAsg (tMeth C m sp dvs E to t) (gName i)) tz D σ H := mth h hx hm ha k
theorem s_retM (h : Ev to σ H (.ref a)) (hx : H a = some (.ins C dx fs)) (hm : fs.lookup m = none) (ha : EvA t σ H vs) (k : ∀ H1, Ex H H1 → sp (.ref a :: (vs ++ dvs)) H1 D.rt E) : tRet (tMeth C m sp dvs E to t) D σ H := mth h hx hm ha k
/-- a method that changes nothing and gives a value -/
theorem ev_mth (h : Ev to σ H (.ref a)) (hx : H a = some (.ins C dx fs)) (hm : fs.lookup m = none) (ha : EvA t σ H vs) (k : SpV sp (.ref a :: (vs ++ dvs)) H v) : Ev (tMeth C m sp dvs E to t) σ H v := fun H1 e Q q =>
  h H1 e _ fun H2 e2 => ⟨a, dx, fs, rfl, (e.trans e2) _ _ hx, hm, ha H2 (e.trans e2) _ fun H3 e3 => k H3 ((e.trans e2).trans e3) Q (fun H4 e4 => q H4 ((e2.trans e3).trans e4)) E⟩
end
theorem fresh_ne {H : Hp} {p q : Addr} {o : HO} (hp : H p = none) (hq : H q = some o) : q ≠ p := ne_of_none hq hp
theorem bitNot_eq (x : Int) : Builtin.bitNot x = -x - 1 := rfl
theorem bitAnd_maskZ (x : Int) (k : Nat) : Builtin.bitAnd x (2 ^ k - 1) = x % 2 ^ k := by
  by_cases h : 0 ≤ x
  · exact _root_.Bits.bitAnd_mask k h
  · have hp : (1 : Int) ≤ 2 ^ k := by
      have : 0 < 2 ^ k := Nat.two_pow_pos k
      have h2 : ((2 : Int) ^ k) = ((2 ^ k : Nat) : Int) := by rw [Int.natCast_pow]; rfl
      omega
    rw [PyProof.Rows.bitAnd_np h (by omega), Nat.and_comm]
    have h2 : ((2 : Int) ^ k) = ((2 ^ k : Nat) : Int) := by rw [Int.natCast_pow]; rfl
    have h3 : ((2 : Int) ^ k - 1).toNat = 2 ^ k - 1 := by omega
    rw [h3, Nat.and_two_pow_sub_one_eq_mod, bitNot_eq]
    have h4 : ((-x - 1).toNat : Int) = -x - 1 := by omega
    rw [h2, Int.natCast_emod, h4]
    generalize 2 ^ k = m at *
    have hm : (0 : Int) < (m : Int) := by omega
    have e1 := Int.emod_add_mul_ediv x m
    have e2 := Int.emod_add_mul_ediv (-x - 1) m
    have a1 := Int.emod_nonneg x (by omega : (m : Int) ≠ 0)
    have a2 := Int.emod_lt_of_pos x hm
    have b1 := Int.emod_nonneg (-x - 1) (by omega : (m : Int) ≠ 0)
    have b2 := Int.emod_lt_of_pos (-x - 1) hm
    generalize x % (m : Int) = r at *
    generalize (-x - 1) % (m : Int) = s at *
    generalize x / (m : Int) = p at *
    generalize (-x - 1) / (m : Int) = q at *
    -- r + s + 1 is a multiple of m between 1 and 2m - 1
    have e3 : r + s + 1 = m * (-(p + q)) := by
      rw [Int.mul_neg, Int.mul_add]
      omega
    have h5 : -(p + q) = 1 := by
      have c1 : 0 < (m : Int) * (-(p + q)) := by omega
      have c2 : (m : Int) * (-(p + q)) < m * 2 := by omega
      have c3 := Int.pos_of_mul_pos_right (a := (m : Int)) (b := -(p + q)) (by exact c1) hm
      have c4 : -(p + q) < 2 := Int.lt_of_mul_lt_mul_left c2 (by omega)
      omega
    rw [h5, Int.mul_one] at e3
    omega
/-- [e for j in range(n)] whose element changes objects -/
theorem tlc_rngM {ta : TA} {te : TE} {vs : List Nat} {n : Int} {j : Nat} {σ : L2.St} {H : Hp} {Q : VK} (h : EvA ta σ H [.int n]) (hn : -100000 ≤ n ∧ n ≤ 100000)
    (k : ∀ H1, Ex H H1 → ∀ Dl, H1 Dl = none → ∃ Pv : Nat → Hp → Prop, Pv 0 (upd H1 Dl (.lst [])) ∧ (∀ (i : Nat) H', i < n.toNat → Pv i H' → wipe ((wipe σ vs).set j (some (.int (i : Int)))) vs = wipe σ vs ∧ te ((wipe σ vs).set j (some (.int (i : Int)))) H' fun y H4 => ∃ acc, H4 Dl = some (.lst acc) ∧ acc.length < sizeLine ∧ Pv (i + 1) (upd H4 Dl (.lst (acc ++ [y])))) ∧ (∀ H', Pv n.toNat H' → Q (.ref Dl) H')) :
    tLc (iRng1 ta) (gName j) tYes te vs σ H Q := h H (Ex.refl H) _ fun H1 e1 => ⟨n, rfl, by omega, by omega, fun Dl hD => by
  obtain ⟨Pv, h0, hs, hd⟩ := k H1 e1 Dl hD
  refine lc_range (lo := 0) (n := n.toNat) Pv h0 (fun i H' hi p => ?_) hd
  rw [Int.zero_add]
  exact hs i H' hi p⟩

theorem pow_cast (k : Nat) : ((2 : Int) ^ k) = ((2 ^ k : Nat) : Int) := by rw [Int.natCast_pow]; rfl
theorem pow_pos2 (i : Nat) : (0 : Int) < 2 ^ i := Int.pow_pos (by decide)
theorem pow_le16 {m : Nat} (h : m ≤ 16) : (2 : Int) ^ m ≤ 65536 := by
  have h1 : 2 ^ m ≤ 2 ^ 16 := Nat.pow_le_pow_right (by decide) h
  have h2 : ((2 : Int) ^ m) = ((2 ^ m : Nat) : Int) := by rw [Int.natCast_pow]; rfl
  omega
/-! ### the program -/
def sp_legal : Sp := fun vs H Q _ => ∃ (s o : Int) (m : Nat), vs = [.int s, .int o, .int m] ∧ m ≤ 16 ∧ RetV (.bl (decide (s % 2 ^ m = 0) && decide (o < s / 2 ^ m))) H Q
theorem ok_legal_partition_order (T : TX K mg) : FnOk P w K mg base CX0 1 T.a_legal_partition_order T.d_legal_partition_order ["size", "order", "partition_order"] sp_legal := by
  refine T.F_legal_partition_order.ok sc_legal_partition_order (fun vs H Q E h => by obtain ⟨s, o, m, rfl, _⟩ := h; rfl) (fun cdv A outer s H vs Q E hr h => ?_)
  obtain ⟨s, o, m, rfl, hm, k⟩ := h
  have h1 := pow_pos2 m
  have h2 := pow_le16 hm
  refine ⟨_, (pss_cons (ps_set (i := 3) sc_legal_partition_order.nd rfl (Or.inl rfl) (pe_op op_shl pe_int (pv 2)))
      (pss_one (ps_ret (pe_and (pe_cmpR op_eq (pe_op op_mod (pv 0) (pv 3)) pe_int (nomark _)) (pe_one (pe_cmpR op_gt (pe_op op_fdiv (pv 0) (pv 3)) (pv 1) (nomark _))))))), ?_⟩
  refine q_asg (v := .int (2 ^ m)) (ev_is (v := .int (1 * 2 ^ (m : Int).toNat)) (by walk_at "ev") (by rw [Int.toNat_natCast, Int.one_mul])) fun H1 e1 => ?_
  walk_at "ret"
  intro H2 e2
  refine ret_eq k (e1.trans e2) ?_
  have e0 : decide (V.int (s % 2 ^ m) = V.int 0) = decide (s % 2 ^ m = 0) := by simp
  rw [e0]
def sp_sizes : Sp := fun vs H Q _ => ∃ (s o : Int) (m : Nat), vs = [.int s, .int o, .int m] ∧ m ≤ 16 ∧ RetL (((s / 2 ^ m - o) :: List.replicate (2 ^ m - 1) (s / 2 ^ m)).map V.int) H Q
theorem ok_partition_sizes (T : TX K mg) : FnOk P w K mg base CX0 1 T.a_partition_sizes T.d_partition_sizes ["size", "order", "partition_order"] sp_sizes := by
  refine T.F_partition_sizes.ok sc_partition_sizes (fun vs H Q E h => by obtain ⟨s, o, m, rfl, _⟩ := h; rfl) (fun cdv A outer s H vs Q E hr h => ?_)
  obtain ⟨s, o, m, rfl, hm, k⟩ := h
  have h1 := pow_pos2 m
  have h2 := pow_le16 hm
  have h3 : ((2 : Int) ^ m - 1).toNat = 2 ^ m - 1 := by
    have : ((2 : Int) ^ m) = ((2 ^ m : Nat) : Int) := by rw [Int.natCast_pow]; rfl
    omega
  have h4 : 2 ^ m ≤ 65536 := by
    have : ((2 : Int) ^ m) = ((2 ^ m : Nat) : Int) := by rw [Int.natCast_pow]; rfl
    omega
  refine ⟨_, (pss_cons (ps_set (i := 3) sc_partition_sizes.nd rfl (Or.inl rfl) (pe_op op_shr (pv 0) (pv 2)))
      (pss_one (ps_ret (pe_op op_cat (pe_lst (pa_cons (pe_op op_sub (pv 3) (pv 1)) pa_nil)) (pe_op op_rep (pe_lst (pa_cons (pv 3) pa_nil)) (pe_op op_sub (pe_op op_shl pe_int (pv 2)) pe_int)))))), ?_⟩
  refine q_asg (v := .int (s / 2 ^ m)) (ev_is (v := .int (s / 2 ^ (m : Int).toNat)) (by walk_at "ev") (by rw [Int.toNat_natCast])) fun H1 e1 => ?_
  refine s_retL (EvL.is (el_cat (xs := [.int (s / 2 ^ m - o)]) (ys := List.replicate (2 ^ m - 1) (.int (s / 2 ^ m))) (EvL.r (el_lst (by walk_at "ea") (Nat.le_of_ble_eq_true rfl))) (EvL.r (EvL.is (el_rep (xs := [.int (s / 2 ^ m)]) (k := 2 ^ m - 1) (EvL.r (el_lst (by walk_at "ea") (Nat.le_of_ble_eq_true rfl))) (ev_is (v := .int (1 * 2 ^ (m : Int).toNat - 1)) (by walk_at "ev") (by rw [Int.toNat_natCast, Int.one_mul])) (by omega) (by rw [h3]; show 1 * (2 ^ m - 1) ≤ 100000; omega)) (by rw [h3, rep_one]))) (by rw [List.length_replicate]; show 1 + _ ≤ 100000; omega)) (by simp)) fun p H2 hp e2 h2 => k.go e1 hp e2 h2
theorem el_sizes {σ : L2.St} {H : Hp} {t1 t2 t3 : TE} {E : XK} {s o : Int} {m : Nat} (h1 : Ev t1 σ H (.int s)) (h2 : Ev t2 σ H (.int o)) (h3 : Ev t3 σ H (.int m)) (hm : m ≤ 16) :
    EvL (tCall sp_sizes [] E (tCons t1 (tCons t2 (tCons t3 tNil)))) σ H (((s / 2 ^ m - o) :: List.replicate (2 ^ m - 1) (s / 2 ^ m)).map V.int) :=
  el_call (ea_cons h1 (ea_cons h2 (ea_cons h3 ea_nil))) fun H1 e Q q _ => ⟨s, o, m, rfl, hm, q⟩
theorem ev_legal {σ : L2.St} {H : Hp} {t1 t2 t3 : TE} {E : XK} {s o : Int} {m : Nat} (h1 : Ev t1 σ H (.int s)) (h2 : Ev t2 σ H (.int o)) (h3 : Ev t3 σ H (.int m)) (hm : m ≤ 16) :
    Ev (tCall sp_legal [] E (tCons t1 (tCons t2 (tCons t3 tNil)))) σ H (.bl (decide (s % 2 ^ m = 0) && decide (o < s / 2 ^ m))) :=
  ev_call (ea_cons h1 (ea_cons h2 (ea_cons h3 ea_nil))) fun H1 e Q q _ => ⟨s, o, m, rfl, hm, q⟩

/-! ### fields of bits -/
def bitsN (n v : Nat) : List Bool := (List.range n).map fun k => v.testBit (n - 1 - k)
theorem bitsN_len (n v : Nat) : (bitsN n v).length = n := by unfold bitsN; rw [List.length_map, List.length_range]
theorem bitsN_at {n v i : Nat} (h : i < n) : (bitsN n v)[i]? = some (v.testBit (n - 1 - i)) := by
  unfold bitsN
  rw [List.getElem?_map, List.getElem?_range h]
  rfl
theorem bitsN_congr {n v u : Nat} (h : ∀ i, i < n → v.testBit i = u.testBit i) : bitsN n v = bitsN n u := by
  unfold bitsN
  exact List.map_congr_left fun k hk => h _ (by have := List.mem_range.mp hk; omega)
theorem bitsN_mod (n v : Nat) : bitsN n (v % 2 ^ n) = bitsN n v := bitsN_congr fun i hi => by rw [Nat.testBit_mod_two_pow, decide_eq_true hi, Bool.true_and]
theorem bitsN_add (n w x : Nat) : bitsN (n + w) x = bitsN n (x / 2 ^ w) ++ bitsN w x := by
  refine List.ext_getElem? fun i => ?_
  by_cases h : i < n
  · rw [List.getElem?_append_left (by rw [bitsN_len]; exact h), bitsN_at h, bitsN_at (by omega), Nat.testBit_div_two_pow, show n - 1 - i + w = n + w - 1 - i by omega]
  · rw [List.getElem?_append_right (by rw [bitsN_len]; omega), bitsN_len]
    by_cases h2 : i - n < w
    · rw [bitsN_at h2, bitsN_at (by omega), show w - 1 - (i - n) = n + w - 1 - i by omega]
    · rw [List.getElem?_eq_none (by rw [bitsN_len]; omega), List.getElem?_eq_none (by rw [bitsN_len]; omega)]
theorem bitsN_cat {n w h v : Nat} (hv : v < 2 ^ w) : bitsN (n + w) (h * 2 ^ w + v) = bitsN n h ++ bitsN w v := by
  rw [bitsN_add]
  congr 1
  · rw [Nat.add_comm, Nat.add_mul_div_right _ _ (Nat.two_pow_pos w), Nat.div_eq_of_lt hv, Nat.zero_add]
  · rw [← bitsN_mod, Nat.add_comm, Nat.add_mul_mod_self_right, bitsN_mod]
theorem bits8_N (b : Nat) : bits8 b = bitsN 8 b := rfl
theorem bitsN_zero (n : Nat) : bitsN n 0 = List.replicate n false := by
  unfold bitsN
  refine List.ext_getElem? fun i => ?_
  rw [List.getElem?_map]
  by_cases h : i < n
  · rw [List.getElem?_range h, List.getElem?_replicate, if_pos h]
    show some (Nat.testBit 0 _) = _
    rw [Nat.zero_testBit]
  · rw [List.getElem?_eq_none (by rw [List.length_range]; omega), List.getElem?_eq_none (by rw [List.length_replicate]; omega)]
    rfl
theorem bits_flat_len (ws : List Nat) : (ws.flatMap bits8).length = 8 * ws.length := by
  induction ws with
  | nil => rfl
  | cons d r ih =>
    rw [List.flatMap_cons, List.length_append, ih, List.length_cons]
    show 8 + _ = _
    omega

/-! ### lists of bits, as numbers -/
def valL (ms : List Bool) : Nat := ms.foldl (fun a b => 2 * a + b.toNat) 0
theorem valL_snoc (ms : List Bool) (b : Bool) : valL (ms ++ [b]) = 2 * valL ms + b.toNat := by unfold valL; rw [List.foldl_append]; rfl
theorem valL_8 : ∀ d, d < 256 → valL (bits8 d) = d := by decide +kernel
def padN (n : Nat) : Nat := (8 - n % 8) % 8
/-! ### BitReader -/
theorem flat_drop : ∀ (ds : List Nat) (a : Nat), (ds.flatMap bits8).drop (8 * a) = (ds.drop a).flatMap bits8
  | [], a => by rw [List.flatMap_nil, List.drop_nil, List.drop_nil, List.flatMap_nil]
  | d :: r, 0 => rfl
  | d :: r, a + 1 => by
    rw [List.flatMap_cons, show 8 * (a + 1) = (bits8 d).length + 8 * a by show _ = 8 + 8 * a; omega, List.drop_append, List.drop_of_length_le (by omega), List.nil_append, show (bits8 d).length + 8 * a - (bits8 d).length = 8 * a by omega]
    exact flat_drop r a
theorem flat_take : ∀ (ds : List Nat) (m : Nat), (ds.flatMap bits8).take (8 * m) = (ds.take m).flatMap bits8
  | [], m => by rw [List.flatMap_nil, List.take_nil, List.take_nil, List.flatMap_nil]
  | d :: r, 0 => rfl
  | d :: r, m + 1 => by
    rw [List.flatMap_cons, show 8 * (m + 1) = (bits8 d).length + 8 * m by show _ = 8 + 8 * m; omega, List.take_append, List.take_of_length_le (by omega), show (bits8 d).length + 8 * m - (bits8 d).length = 8 * m by omega, flat_take r m]
    rfl
def numB (bs : List Nat) : Nat := bs.foldl (fun a b => a * 2 ^ 8 + b) 0
theorem numB_snoc (bs : List Nat) (b : Nat) : numB (bs ++ [b]) = numB bs * 2 ^ 8 + b := by unfold numB; rw [List.foldl_append]; rfl
theorem numB_bits (bs : List Nat) (h : ∀ b ∈ bs, b < 256) : ∀ k, k ≤ bs.length → bitsN (8 * k) (numB (bs.take k)) = (bs.take k).flatMap bits8 ∧ numB (bs.take k) < 2 ^ (8 * k)
  | 0, _ => ⟨rfl, by rw [List.take_zero]; decide⟩
  | k + 1, hk => by
    obtain ⟨h1, h2⟩ := numB_bits bs h k (by omega)
    have hb : bs[k]? = some bs[k] := List.getElem?_eq_getElem (by omega)
    have hlt : bs[k] < 2 ^ 8 := h _ (List.getElem_mem (by omega))
    rw [show bs.take (k + 1) = bs.take k ++ [bs[k]] from by rw [List.take_add_one, hb]; rfl, numB_snoc, show 8 * (k + 1) = 8 * k + 8 by omega, bitsN_cat hlt, h1, List.flatMap_append, List.flatMap_cons, List.flatMap_nil, List.append_nil]
    refine ⟨rfl, ?_⟩
    rw [Nat.pow_add]
    have : (numB (bs.take k) + 1) * 2 ^ 8 ≤ 2 ^ (8 * k) * 2 ^ 8 := Nat.mul_le_mul_right _ h2
    rw [Nat.add_mul, Nat.one_mul] at this
    omega
theorem valL_bitsN : ∀ (w v : Nat), valL (bitsN w v) = v % 2 ^ w
  | 0, v => by rw [Nat.pow_zero, Nat.mod_one]; rfl
  | w + 1, v => by
    rw [bitsN_add w 1 v]
    show valL (bitsN w (v / 2 ^ 1) ++ [v.testBit 0]) = _
    have e : v % 2 ^ (w + 1) = v % 2 + 2 * (v / 2 % 2 ^ w) := by rw [Nat.pow_succ, Nat.mul_comm, Nat.mod_mul]
    rw [valL_snoc, valL_bitsN w (v / 2 ^ 1), Nat.pow_one, e, Nat.testBit_zero]
    have := Nat.mod_two_eq_zero_or_one v
    rcases this with h | h
    · rw [h]
      show _ + 0 = _
      omega
    · rw [h]
      show _ + 1 = _
      omega
theorem slice_bits {ds : List Nat} (hd : ∀ d ∈ ds, d < 256) {pos w : Nat} (h : pos + w ≤ 8 * ds.length) : valL (((ds.flatMap bits8).drop pos).take w) = numB ((ds.drop (pos / 8)).take ((pos + w + 7) / 8 - pos / 8)) / 2 ^ (8 * ((pos + w + 7) / 8) - (pos + w)) % 2 ^ w := by
  generalize hm : (pos + w + 7) / 8 - pos / 8 = m
  generalize hk : 8 * ((pos + w + 7) / 8) - (pos + w) = k
  have hsl : ((ds.drop (pos / 8)).take m).length = m := by rw [List.length_take, List.length_drop]; omega
  have hb := (numB_bits ((ds.drop (pos / 8)).take m) (fun b hb => hd b (List.mem_of_mem_drop (List.mem_of_mem_take hb))) m (by omega)).1
  rw [List.take_of_length_le (by omega)] at hb
  rw [← flat_take, ← flat_drop] at hb
  generalize numB ((ds.drop (pos / 8)).take m) = x at *
  have h8 : 8 * m = pos % 8 + (w + k) := by omega
  have hdrop : ((ds.flatMap bits8).drop pos).take w = ((((ds.flatMap bits8).drop (8 * (pos / 8))).take (8 * m)).drop (pos % 8)).take w := by
    rw [List.drop_take, List.take_take, List.drop_drop, show 8 * (pos / 8) + pos % 8 = pos by omega, Nat.min_eq_left (by omega)]
  rw [hdrop, ← hb, h8, bitsN_add, bitsN_add, List.drop_left' (bitsN_len _ _), List.take_left' (bitsN_len _ _), valL_bitsN]
def rF (d : Addr) (pos : Nat) : List (Str × V) := [("_data", .ref d), ("_position", .int (pos : Int))]
def RdAt (C : Addr) (H : Hp) (a d : Addr) (pos : Nat) : Prop := ∃ dx, H a = some (.ins C dx (rF d pos))
def FrA (a : Addr) (H H' : Hp) : Prop := ∀ b o, b ≠ a → H b = some o → H' b = some o
theorem FrA.ex {a : Addr} {H H1 : Hp} (h : Ex H H1) : FrA a H H1 := fun b o _ e => h b o e
theorem FrA.trans {a : Addr} {H H1 H2 : Hp} (h : FrA a H H1) (g : FrA a H1 H2) : FrA a H H2 := fun b o n e => g b o n (h b o n e)
theorem FrA.upd {a : Addr} {H H1 : Hp} {o : HO} (h : FrA a H H1) : FrA a H (upd H1 a o) := fun b p n e => by rw [upd_ne n]; exact h b p n e
theorem RdAt.ex {C a d : Addr} {H H1 : Hp} {pos : Nat} (e : Ex H H1) (h : RdAt C H a d pos) : RdAt C H1 a d pos := by
  obtain ⟨dx, h⟩ := h
  exact ⟨dx, e _ _ h⟩
theorem RdAt.ne {C a d : Addr} {H : Hp} {pos : Nat} {p : Addr} {xs : List V} (h : RdAt C H a d pos) (hp : H p = some (.lst xs)) : p ≠ a := by
  obtain ⟨dx, h⟩ := h
  intro e
  rw [e, h] at hp
  cases hp
def sp_rinit (C : Addr) : Sp := fun vs H Q _ => ∃ (a dx d : Addr) (at_ : Nat), vs = [.ref a, .ref d, .int (at_ : Int)] ∧ H a = some (.ins C dx []) ∧ at_ ≤ 1000000 ∧ ∀ H', FrA a H H' → RdAt C H' a d (8 * at_) → Q .non H'
theorem ok_BitReader_init (T : TX K mg) : FnOk P w K mg base CX0 1 T.a_BitReader_init T.d_BitReader_init ["self", "data", "at"] (sp_rinit T.C_BitReader) := by
  refine T.F_BitReader_init.ok sc_BitReader_init (fun vs H Q E h => by obtain ⟨a, dx, d, t, rfl, _⟩ := h; rfl) (fun cdv A outer s H vs Q E hr h => ?_)
  obtain ⟨a, dx, d, t, rfl, ha, ht, k⟩ := h
  refine ⟨_, PSs.nox (pss_cons (ps_fld (pv 0) (pv 1) rfl)
      (pss_one (ps_fld (pv 0) (pe_op op_mul (pv 2) pe_int) rfl))), ?_⟩
  refine q_fld T.cl_BitReader T.n_BitReader_data (v := .ref d) (ev_var rfl) (ev_var rfl) ha (by decide) fun H1 e1 => ?_
  refine s_fld T.cl_BitReader T.n_BitReader_position (v := .int ((8 * t : Nat) : Int)) (Ev.is (ev_I (ev_var rfl) ev_c (.inr (by decide))) (congrArg V.int (by omega))) (ev_var rfl) upd_same (Nat.le_of_ble_eq_true rfl) fun H2 e2 => ?_
  exact k _ ((FrA.ex e1).upd.trans (FrA.ex e2)).upd ⟨dx, upd_same⟩

def sp_place (C : Addr) (f : Nat → Int) : Sp := fun vs H Q _ => ∃ (a d : Addr) (pos : Nat), vs = [.ref a] ∧ RdAt C H a d pos ∧ RetV (.int (f pos)) H Q
theorem ok_BitReader_byte_place (T : TX K mg) : FnOk P w K mg base CX0 1 T.a_BitReader_byte_place T.d_BitReader_byte_place ["self"] (sp_place T.C_BitReader fun pos => (pos / 8 : Nat)) := by
  refine T.F_BitReader_byte_place.ok sc_BitReader_byte_place (fun vs H Q E h => by obtain ⟨a, d, pos, rfl, _⟩ := h; rfl) (fun cdv A outer s H vs Q E hr h => ?_)
  obtain ⟨a, d, pos, rfl, ⟨dx, ha⟩, k⟩ := h
  refine ⟨_, (pss_one (ps_ret (pe_op op_fdiv (pe_fld (pv 0) rfl) pe_int))), ?_⟩
  exact s_ret (Ev.is (ev_I (ev_fld T.cl_BitReader T.n_BitReader_position (v := .int (pos : Int)) (ev_var rfl) ha rfl) ev_c ⟨by decide, by decide⟩) (congrArg V.int (by show _ = ((pos / 8 : Nat) : Int); omega))) fun H1 e1 => k H1 e1

theorem ok_BitReader_bit_place (T : TX K mg) : FnOk P w K mg base CX0 1 T.a_BitReader_bit_place T.d_BitReader_bit_place ["self"] (sp_place T.C_BitReader fun pos => (pos : Nat)) := by
  refine T.F_BitReader_bit_place.ok sc_BitReader_bit_place (fun vs H Q E h => by obtain ⟨a, d, pos, rfl, _⟩ := h; rfl) (fun cdv A outer s H vs Q E hr h => ?_)
  obtain ⟨a, d, pos, rfl, ⟨dx, ha⟩, k⟩ := h
  refine ⟨_, (pss_one (ps_ret (pe_fld (pv 0) rfl))), ?_⟩
  exact s_ret (ev_fld T.cl_BitReader T.n_BitReader_position (v := .int (pos : Int)) (ev_var rfl) ha rfl) fun H1 e1 => k H1 e1
theorem ev_place {σ : L2.St} {H : Hp} {to : TE} {E : XK} {C a d : Addr} {pos : Nat} {m : Str} {f : Nat → Int} (h : Ev to σ H (.ref a)) (hR : RdAt C H a d pos) (hm : (rF d pos).lookup m = none) : Ev (tMeth C m (sp_place C f) [] E to tNil) σ H (.int (f pos)) := by
  obtain ⟨dx, ha⟩ := id hR
  exact ev_mth h ha hm ea_nil fun H1 e Q q _ => ⟨a, d, pos, rfl, hR.ex e, q⟩

def sp_readN (C : Addr) : Sp := fun vs H Q _ => ∃ (a d : Addr) (ds : List Nat) (pos wd : Nat), vs = [.ref a, .int (wd : Int)] ∧ RdAt C H a d pos ∧ H d = some (.lst ((cs ds).map V.int)) ∧ (∀ b ∈ ds, b < 256) ∧ wd ≤ 64 ∧ ds.length ≤ 100000 ∧ pos + wd ≤ 8 * ds.length ∧
  ∀ H', FrA a H H' → RdAt C H' a d (pos + wd) → Q (.int ((valL (((ds.flatMap bits8).drop pos).take wd) : Nat) : Int)) H'
theorem q_forSr {σ : L2.St} {H : Hp} {D : Ends} {tu tz : TS} {tl : TE} {g : TG} {xs : List V} (h : EvS K tl σ H xs) (k : ∀ p H1, Ex H H1 → SqL K H1 p xs → tSeq (tFor (iList K (tC (.ref p))) g tu) tz D σ H1) : tSeq (tFor (iList K tl) g tu) tz D σ H := h H (Ex.refl H) _ fun p H1 e hp => k p H1 e hp
theorem ok_BitReader_read (T : TX K mg) : FnOk P w K mg base CX0 1 T.a_BitReader_read T.d_BitReader_read ["self", "width"] (sp_readN T.C_BitReader) := by
  refine T.F_BitReader_read.ok sc_BitReader_read (fun vs H Q E h => by obtain ⟨a, d, ds, pos, wd, rfl, _⟩ := h; rfl) (fun cdv A outer s H vs Q E hr h => ?_)
  obtain ⟨a, d, ds, pos, wd, rfl, ⟨dx, ha⟩, hd, hds, hw, hlen, hp, k⟩ := h
  refine ⟨_, (pss_cons (ps_set (i := 2) sc_BitReader_read.nd rfl (Or.inl rfl) (pe_fld (pv 0) rfl))
      (pss_cons (ps_set (i := 3) sc_BitReader_read.nd rfl (Or.inl rfl) (pe_fld (pv 0) rfl))
      (pss_cons (ps_set (i := 4) sc_BitReader_read.nd rfl (Or.inl rfl) (pe_op op_add (pv 3) (pv 1)))
      (pss_cons (ps_if (pt_cmpR op_gt (pv 4) (pe_op op_mul (pe_callB (r := rLenS K) call_len_seq (by rfl) T.m_len PySem.boot_len (pa_cons (pv 2) pa_nil)) pe_int) (nomark _)) (pss_one ps_never) pss_nil)
      (pss_cons (ps_set (i := 5) sc_BitReader_read.nd rfl (Or.inl rfl) (pe_op op_fdiv (pe_op op_add (pv 4) pe_int) pe_int))
      (pss_cons (ps_set (i := 6) sc_BitReader_read.nd rfl (Or.inl rfl) pe_int)
      (pss_cons (ps_for PassesOwn.never rfl (pi_list (pe_slice (r := rSlL K) sl_list (pv 2) (po_some (pe_op op_fdiv (pv 3) pe_int)) (po_some (pv 5)))) (pg_name (i := 7) sc_BitReader_read.nd rfl (Or.inl rfl)) (pss_one (ps_set (i := 6) sc_BitReader_read.nd rfl (Or.inl rfl) (pe_op op_or (pe_op op_shl (pv 6) pe_int) (pv 7)))))
      (pss_cons (ps_fld (pv 0) (pv 4) rfl)
      (pss_one (ps_ret (pe_op op_and (pe_op op_shr (pv 6) (pe_op op_sub (pe_op op_mul (pv 5) pe_int) (pv 4))) (pe_op op_sub (pe_op op_shl pe_int (pv 1)) pe_int)))))))))))), ?_⟩
  refine q_asg (ev_fld T.cl_BitReader T.n_BitReader_data (v := .ref d) (ev_var rfl) ha rfl) fun H1 e1 => ?_
  refine q_asg (ev_fld T.cl_BitReader T.n_BitReader_position (v := .int (pos : Int)) (ev_var rfl) (e1 _ _ ha) rfl) fun H2 e2 => ?_
  refine q_asg (v := .int ((pos + wd : Nat) : Int)) (Ev.is (ev_I0 (ev_var rfl) (ev_var rfl)) (congrArg V.int (by omega))) fun H3 e3 => ?_
  have ex3 := (e1.trans e2).trans e3
  have hlv : ∀ {H1 : Hp}, Ex H H1 → Ev (tCB (rLenS K) (tCons (tVar 2) tNil)) [some (.ref a), some (.int (wd : Int)), some (.ref d), some (.int (pos : Int)), some (.int ((pos + wd : Nat) : Int)), none, none, none] H1 (.int (ds.length : Int)) := fun e => Ev.is (ev_lenS (Ev.s (ev_var rfl) (sq_of (e _ _ hd)))) (by rw [List.length_map, cs_len])
  refine q_when (b := decide (8 * ds.length < pos + wd)) (et_test (Ev.is (ev_I0 (ev_var rfl) (ev_I (hlv ex3) ev_c (.inr (by decide)))) (congrArg V.bl (decide_eq_decide.mpr (by show (_ : Int) < _ ↔ _; omega))))) (fun hb H4 e4 => ?_) (fun hb H4 e4 => ?_)
  · exact absurd (of_decide_eq_true hb) (by omega)
  refine q_asg (v := .int (((pos + wd + 7) / 8 : Nat) : Int)) (Ev.is (ev_I (ev_I0 (ev_var rfl) ev_c) ev_c ⟨by decide, by decide⟩) (congrArg V.int (by omega))) fun H5 e5 => ?_
  walk_at "asg"
  intro H6 e6
  have ex6 := ((ex3.trans e4).trans e5).trans e6
  have hsb := slice_bits hds hp
  generalize hbs : (ds.drop (pos / 8)).take ((pos + wd + 7) / 8 - pos / 8) = bs at *
  have hbl : bs.length ≤ 9 := by rw [← hbs, List.length_take]; omega
  have hb256 : ∀ b ∈ bs, b < 256 := fun b hb => hds b (by rw [← hbs] at hb; exact List.mem_of_mem_drop (List.mem_of_mem_take hb))
  refine q_forSr (xs := (cs bs).map V.int) (EvR.s (EvL.r (EvL.is (el_mid (ns := cs ds) (i := pos / 8) (j := (pos + wd + 7) / 8) (Ev.s (ev_var rfl) (sq_of (ex6 _ _ hd))) (Ev.is (ev_I (ev_var rfl) ev_c ⟨by decide, by decide⟩) (congrArg V.int (by omega))) (ev_var rfl)) (by rw [cs_drop, cs_take, hbs])))) fun p H7 e7 hq => ?_
  refine q_forLn (a := p) ev_c hq (fun i σ' H' => ∃ c, σ' = [some (.ref a), some (.int (wd : Int)), some (.ref d), some (.int (pos : Int)), some (.int ((pos + wd : Nat) : Int)), some (.int (((pos + wd + 7) / 8 : Nat) : Int)), some (.int ((numB (bs.take i) : Nat) : Int)), c] ∧ Ex H7 H')
    (fun H8 e8 => ⟨none, rfl, e8⟩) (fun i σ' H' _ h => by obtain ⟨_, _, e⟩ := h; exact ex_l e hq) ?_ ?_
  · rintro i x σ' H8 hx ⟨c, rfl, e8⟩
    obtain ⟨n, hn, hi, rfl⟩ := int_at hx
    rw [cs_len] at hi
    have hbi : bs[i]? = some bs[i] := List.getElem?_eq_getElem hi
    have hn2 := cs_at hbi
    rw [hn] at hn2
    have hn2 := Option.some.inj hn2
    have hlt : bs[i] < 256 := hb256 _ (List.getElem_mem hi)
    have hx64 := (numB_bits bs hb256 i (by omega)).2
    rw [show bs.take (i + 1) = bs.take i ++ [bs[i]] from by rw [List.take_add_one, hbi]; rfl, numB_snoc]
    generalize bs[i] = b at *
    subst hn2
    have hx64 : numB (bs.take i) < 2 ^ 64 := Nat.lt_of_lt_of_le hx64 (Nat.pow_le_pow_right (by decide) (by omega))
    generalize numB (bs.take i) = x at *
    refine s_asg (Ev.is (ev_I0 (ev_I (ev_var rfl) ev_c (show CPow (x : Int) 8 from ⟨by decide, by decide, by rw [Int.natAbs_natCast]; exact hx64⟩)) (ev_var rfl)) (congrArg V.int (a₂ := ((x * 2 ^ 8 + b : Nat) : Int)) ?_)) fun H9 e9 => ⟨_, rfl, e8.trans e9⟩
    show Builtin.bitOr ((x : Int) * 2 ^ 8) (b : Int) = _
    rw [_root_.Bits.bitOr_join' (by omega) (by show (b : Int) < 256; omega) (by omega)]
    show (b : Int) + (x : Int) * 256 = ((x * 256 + b : Nat) : Int)
    omega
  · rintro σ' H8 ⟨c, rfl, e8⟩
    rw [List.length_map, cs_len, List.take_length]
    have ex8 := (ex6.trans e7).trans e8
    refine q_fld T.cl_BitReader T.n_BitReader_position (v := .int ((pos + wd : Nat) : Int)) (ev_var rfl) (ev_var rfl) (ex8 _ _ ha) (Nat.le_of_ble_eq_true rfl) fun H9 e9 => ?_
    refine s_ret (v := .int ((valL (((ds.flatMap bits8).drop pos).take wd) : Nat) : Int)) (Ev.is (ev_I0 (ev_I (j := ((8 * ((pos + wd + 7) / 8) - (pos + wd) : Nat) : Int)) (ev_var rfl) (Ev.is (ev_I0 (ev_I (ev_var rfl) ev_c (.inr (by decide))) (ev_var rfl)) (congrArg V.int (by omega))) (by show (0 : Int) ≤ _; omega)) (ev_I0 (ev_I ev_c (ev_var rfl) (show CPow 1 (wd : Int) from ⟨by omega, by omega, by decide⟩)) ev_c)) (congrArg V.int ?_)) fun H10 e10 => ?_
    · rw [Int.toNat_natCast, Int.toNat_natCast, Int.one_mul, bitAnd_maskZ, pow_cast, pow_cast, hsb, Int.natCast_emod, Int.natCast_ediv]
    · exact k H10 (((FrA.ex ex8).trans (FrA.ex e9)).upd.trans (FrA.ex e10)) (RdAt.ex e10 ⟨dx, upd_same⟩)

/-- the bits from a position to the end of its byte -/
def restN (ds : List Nat) (pos : Nat) : Nat := ds.getD (pos / 8) 0 % 2 ^ (8 - pos % 8)
def sp_rest (C : Addr) : Sp := fun vs H Q _ => ∃ (a d : Addr) (ds : List Nat) (pos : Nat), vs = [.ref a] ∧ RdAt C H a d pos ∧ H d = some (.lst ((cs ds).map V.int)) ∧ ds.length ≤ 100000 ∧ RetV (.int ((restN ds pos : Nat) : Int)) H Q
theorem mask_rest (x p : Nat) : Builtin.bitAnd (x : Int) ((255 : Int) / 2 ^ (((p % 8 : Nat) : Int)).toNat) = ((x % 2 ^ (8 - p % 8) : Nat) : Int) := by
  have h8 : p % 8 < 8 := Nat.mod_lt _ (by decide)
  rw [Int.toNat_natCast, pow_cast]
  have e : (255 : Int) / ((2 ^ (p % 8) : Nat) : Int) = 2 ^ (8 - p % 8) - 1 := by
    generalize p % 8 = m at h8
    match m, h8 with
    | 0, _ => rfl
    | 1, _ => rfl
    | 2, _ => rfl
    | 3, _ => rfl
    | 4, _ => rfl
    | 5, _ => rfl
    | 6, _ => rfl
    | 7, _ => rfl
  rw [e, bitAnd_maskZ, pow_cast, Int.natCast_emod]
theorem ok_BitReader_rest_of_byte (T : TX K mg) : FnOk P w K mg base CX0 2 T.a_BitReader_rest_of_byte T.d_BitReader_rest_of_byte ["self"] (sp_rest T.C_BitReader) := by
  refine T.F_BitReader_rest_of_byte.ok sc_BitReader_rest_of_byte (fun vs H Q E h => by obtain ⟨a, d, ds, pos, rfl, _⟩ := h; rfl) (fun cdv A outer s H vs Q E hr h => ?_)
  obtain ⟨a, d, ds, pos, rfl, hR, hd, hlen, k⟩ := h
  obtain ⟨dx, ha⟩ := id hR
  refine ⟨_, (pss_cons (ps_set (i := 1) sc_BitReader_rest_of_byte.nd rfl (Or.inl rfl) (pe_meth0 (pv 0) T.cl_BitReader T.me_BitReader_byte_place (ok_BitReader_byte_place T) (hr.mono (by decide)) T.b_BitReader_byte_place .nil pass0))
      (pss_cons (ps_if (pt_cmpR op_ge (pv 1) (pe_callB (r := rLenS K) call_len_seq (by rfl) T.m_len PySem.boot_len (pa_cons (pe_fld (pv 0) rfl) pa_nil)) (nomark _)) (pss_one (ps_ret pe_int)) pss_nil)
      (pss_one (ps_ret (pe_op op_and (pe_ix (r := rIxL K) ix_list (pe_fld (pv 0) rfl) (pv 1) (fun _ _ => rfl)) (pe_op op_shr pe_int (pe_op op_mod (pe_fld (pv 0) rfl) pe_int))))))), ?_⟩
  refine q_asg (v := .int ((pos / 8 : Nat) : Int)) (ev_place (f := fun pos => (pos / 8 : Nat)) (ev_var rfl) hR rfl) fun H1 e1 => ?_
  have hD : ∀ {σ : L2.St} {H1 : Hp} {te : TE}, Ex H H1 → Ev te σ H1 (.ref a) → Ev (tFld K te "_data") σ H1 (.ref d) := fun e h => ev_fld T.cl_BitReader T.n_BitReader_data h (e _ _ ha) rfl
  refine q_when (b := decide (ds.length ≤ pos / 8)) (et_test (Ev.is (ev_I0 (ev_var rfl) (Ev.is (ev_lenS (Ev.s (hD e1 (ev_var rfl)) (sq_of (e1 _ _ hd)))) (by rw [List.length_map, cs_len]))) (congrArg V.bl (decide_eq_decide.mpr (by show (ds.length : Int) ≤ ((pos / 8 : Nat) : Int) ↔ _; omega))))) (fun hb H2 e2 => ?_) (fun hb H2 e2 => ?_)
  · have hb := of_decide_eq_true hb
    have hz : restN ds pos = 0 := by
      unfold restN
      rw [List.getD_eq_getElem?_getD, List.getElem?_eq_none (by omega)]
      exact Nat.zero_mod _
    rw [hz] at k
    exact s_ret (Ev.is ev_c rfl) fun H3 e3 => k H3 ((e1.trans e2).trans e3)
  · have hb := of_decide_eq_false hb
    have hat : ds[pos / 8]? = some (ds.getD (pos / 8) 0) := by rw [List.getD_eq_getElem?_getD, List.getElem?_eq_getElem (by omega)]; rfl
    refine s_ret (v := .int ((restN ds pos : Nat) : Int)) (Ev.is (ev_I0 (ev_at (Ev.s (hD (e1.trans e2) (ev_var rfl)) (sq_of ((e1.trans e2) _ _ hd))) (ev_var rfl) (at_of rfl (at_int (cs_at hat)))) (ev_I (j := ((pos % 8 : Nat) : Int)) ev_c (Ev.is (ev_I (ev_fld T.cl_BitReader T.n_BitReader_position (v := .int (pos : Int)) (ev_var rfl) ((e1.trans e2) _ _ ha) rfl) ev_c (by decide)) (congrArg V.int (by omega))) (by show (0 : Int) ≤ _; omega))) (congrArg V.int (mask_rest _ _))) fun H3 e3 => k H3 ((e1.trans e2).trans e3)
theorem ev_rest {σ : L2.St} {H : Hp} {to : TE} {E : XK} {C a d : Addr} {ds : List Nat} {pos : Nat} (h : Ev to σ H (.ref a)) (hR : RdAt C H a d pos) (hd : H d = some (.lst ((cs ds).map V.int))) (hl : ds.length ≤ 100000) : Ev (tMeth C "_rest_of_byte" (sp_rest C) [] E to tNil) σ H (.int ((restN ds pos : Nat) : Int)) := by
  obtain ⟨dx, ha⟩ := id hR
  exact ev_mth h ha rfl ea_nil fun H1 e Q q _ => ⟨a, d, ds, pos, rfl, hR.ex e, e _ _ hd, hl, q⟩

/-! ### bits of bytes by their places -/
theorem flat_at : ∀ (ds : List Nat) (i : Nat), i < 8 * ds.length → (ds.flatMap bits8)[i]? = some ((ds.getD (i / 8) 0).testBit (7 - i % 8))
  | [], i, h => by rw [List.length_nil] at h; omega
  | d :: r, i, h => by
    rw [List.length_cons] at h
    rw [List.flatMap_cons]
    by_cases hi : i < 8
    · rw [List.getElem?_append_left (by show i < 8; exact hi), bits8_N, bitsN_at hi, show i / 8 = 0 by omega, show i % 8 = i by omega]
      rfl
    · rw [List.getElem?_append_right (by show 8 ≤ i; omega)]
      show (r.flatMap bits8)[i - 8]? = _
      rw [flat_at r (i - 8) (by omega), show i / 8 = (i - 8) / 8 + 1 by omega, show i % 8 = (i - 8) % 8 by omega]
      rfl
def zrun (B : List Bool) (pos z : Nat) : Prop := (∀ i, i < z → B[pos + i]? = some false) ∧ B[pos + z]? = some true
def ahd (ds : List Nat) (pos pl : Nat) : Nat := if pl = pos / 8 then restN ds pos else ds.getD pl 0
theorem ahd_bit {ds : List Nat} {pos pl i : Nat} (hp : pl < ds.length) (h1 : 8 * pl ≤ pos + i) (h2 : pos + i < 8 * pl + 8) : (ds.flatMap bits8)[pos + i]? = some ((ahd ds pos pl).testBit (7 - (pos + i) % 8)) := by
  rw [flat_at ds (pos + i) (by omega), show (pos + i) / 8 = pl by omega]
  unfold ahd
  split
  · rename_i h
    unfold restN
    rw [Nat.testBit_mod_two_pow, decide_eq_true (by omega), Bool.true_and, h]
  · rfl
theorem ahd_lt {ds : List Nat} (hds : ∀ b ∈ ds, b < 256) (pos pl : Nat) : ahd ds pos pl < 2 ^ (if pl = pos / 8 then 8 - pos % 8 else 8) := by
  unfold ahd
  split
  · exact Nat.mod_lt _ (Nat.two_pow_pos _)
  · by_cases h : pl < ds.length
    · rw [List.getD_eq_getElem?_getD, List.getElem?_eq_getElem h]
      exact hds _ (List.getElem_mem h)
    · rw [List.getD_eq_getElem?_getD, List.getElem?_eq_none (by omega)]
      exact (by decide : 0 < 256)
def sp_readUN (C : Addr) : Sp := fun vs H Q _ => ∃ (a d : Addr) (ds : List Nat) (pos z : Nat), vs = [.ref a] ∧ RdAt C H a d pos ∧ H d = some (.lst ((cs ds).map V.int)) ∧ (∀ b ∈ ds, b < 256) ∧ ds.length ≤ 100000 ∧ zrun (ds.flatMap bits8) pos z ∧
  ∀ H', FrA a H H' → RdAt C H' a d (pos + z + 1) → Q (.int (z : Int)) H'
theorem zrun_one {B : List Bool} {p y z : Nat} (h : zrun B p y) (g : zrun B p z) : y = z := by
  rcases Nat.lt_trichotomy y z with l | l | l
  · have := g.1 y l
    rw [h.2] at this
    cases this
  · exact l
  · have := h.1 z l
    rw [g.2] at this
    cases this
theorem ev_bitsU {σ : L2.St} {H : Hp} {to : TE} {i : Int} (h : Ev to σ H (.int i)) : Ev (tBits to) σ H (.int ((Builtin.Int.intBits i : Nat) : Int)) := fun H1 e Q q => h H1 e _ fun H2 e2 => ⟨i, rfl, q H2 e2⟩
theorem ok_BitReader_read_unary (T : TX K mg) : FnOk P w K mg base CX0 3 T.a_BitReader_read_unary T.d_BitReader_read_unary ["self"] (sp_readUN T.C_BitReader) := by
  refine T.F_BitReader_read_unary.ok sc_BitReader_read_unary (fun vs H Q E h => by obtain ⟨a, d, ds, pos, z, rfl, _⟩ := h; rfl) (fun cdv A outer s H vs Q E hr h => ?_)
  obtain ⟨a, d, ds, pos, zz, rfl, hR, hd, hds, hlen, hzz, k⟩ := h
  obtain ⟨dx, ha⟩ := id hR
  refine ⟨_, (pss_cons (ps_set (i := 1) sc_BitReader_read_unary.nd rfl (Or.inl rfl) (pe_fld (pv 0) rfl))
      (pss_cons (ps_set (i := 2) sc_BitReader_read_unary.nd rfl (Or.inl rfl) (pe_op op_fdiv (pe_fld (pv 0) rfl) pe_int))
      (pss_cons (ps_set (i := 3) sc_BitReader_read_unary.nd rfl (Or.inl rfl) (pe_meth0 (pv 0) T.cl_BitReader T.me_BitReader_rest_of_byte (ok_BitReader_rest_of_byte T) (hr.mono (by decide)) T.b_BitReader_rest_of_byte .nil pass0))
      (pss_cons (ps_while PassesOwn.never (pt_cmpR op_eq (pv 3) pe_int (nomark _)) (pss_cons (ps_aug (i := 2) sc_BitReader_read_unary.nd rfl (Or.inl rfl) pe_int ip_add)
        (pss_cons (ps_if (pt_cmpR op_ge (pv 2) (pe_callB (r := rLenS K) call_len_seq (by rfl) T.m_len PySem.boot_len (pa_cons (pv 1) pa_nil)) (nomark _)) (pss_one ps_never) pss_nil)
        (pss_one (ps_set (i := 3) sc_BitReader_read_unary.nd rfl (Or.inl rfl) (pe_ix (r := rIxL K) ix_list (pv 1) (pv 2) (fun _ _ => rfl)))))))
      (pss_cons (ps_set (i := 4) sc_BitReader_read_unary.nd rfl (Or.inl rfl) (pe_op op_sub (pe_op op_add (pe_op op_mul (pv 2) pe_int) pe_int) (pe_bits (pv 3))))
      (pss_cons (ps_set (i := 5) sc_BitReader_read_unary.nd rfl (Or.inl rfl) (pe_op op_sub (pv 4) (pe_fld (pv 0) rfl)))
      (pss_cons (ps_fld (pv 0) (pe_op op_add (pv 4) pe_int) rfl)
      (pss_one (ps_ret (pv 5)))))))))), ?_⟩
  refine q_asg (ev_fld T.cl_BitReader T.n_BitReader_data (v := .ref d) (ev_var rfl) ha rfl) fun H1 e1 => ?_
  refine q_asg (v := .int ((pos / 8 : Nat) : Int)) (Ev.is (ev_I (ev_fld T.cl_BitReader T.n_BitReader_position (v := .int (pos : Int)) (ev_var rfl) (e1 _ _ ha) rfl) ev_c ⟨by decide, by decide⟩) (congrArg V.int (by show _ = ((pos / 8 : Nat) : Int); omega))) fun H2 e2 => ?_
  have ex2 := e1.trans e2
  refine q_asg (v := .int ((ahd ds pos (pos / 8) : Nat) : Int)) (Ev.is (ev_rest (ev_var rfl) (hR.ex ex2) (ex2 _ _ hd) hlen) (congrArg V.int (by unfold ahd; rw [if_pos rfl]))) fun H3 e3 => ?_
  have hlv : ∀ {σ : L2.St} {H1 : Hp} {te : TE}, Ex H H1 → Ev te σ H1 (.ref d) → Ev (tCB (rLenS K) (tCons te tNil)) σ H1 (.int (ds.length : Int)) := fun e h => Ev.is (ev_lenS (Ev.s h (sq_of (e _ _ hd)))) (by rw [List.length_map, cs_len])
  refine q_while (fun m σ' H' => ∃ pl : Nat, m = ds.length - pl ∧ σ' = [some (.ref a), some (.ref d), some (.int (pl : Int)), some (.int ((ahd ds pos pl : Nat) : Int)), none, none] ∧ Ex H H' ∧ pos / 8 ≤ pl ∧ (pl = pos / 8 ∨ pl < ds.length) ∧ ∀ i, pos + i < 8 * pl → (ds.flatMap bits8)[pos + i]? = some false) (ds.length - pos / 8) ⟨pos / 8, rfl, rfl, ex2.trans e3, Nat.le_refl _, .inl rfl, fun i hi => by omega⟩ ?_
  rintro m _ H4 ⟨pl, rfl, rfl, ex, hpl, hor, hfal⟩
  refine ⟨decide (ahd ds pos pl = 0), et_test (Ev.is (ev_eq (ev_var rfl) ev_c rfl) (congrArg V.bl (decide_eq_decide.mpr ⟨fun h => by have := V.int.inj h; omega, fun h => by rw [h]; rfl⟩))), fun hb H5 e5 => ?_, fun hb H5 e5 => ?_⟩
  · have hb := of_decide_eq_true hb
    refine ⟨fun σ2 H2 => ∃ m', m' < ds.length - pl ∧ _, fun σ2 H2 h => h, ?_⟩
    refine q_aug (b := 1) rfl ev_c fun H6 e6 => ?_
    rw [show (pl : Int) + 1 = ((pl + 1 : Nat) : Int) by omega]
    have ex6 := (ex.trans e5).trans e6
    have hz : ∀ i, pos + i < 8 * (pl + 1) → pos + i < 8 * ds.length → (ds.flatMap bits8)[pos + i]? = some false := fun i hi hi2 => by
      by_cases h : pos + i < 8 * pl
      · exact hfal i h
      · rw [ahd_bit (pl := pl) (by omega) (by omega) (by omega), hb, Nat.zero_testBit]
    refine q_when (b := decide (ds.length ≤ pl + 1)) (et_test (Ev.is (ev_I0 (ev_var rfl) (hlv ex6 (ev_var rfl))) (congrArg V.bl (decide_eq_decide.mpr (by show (ds.length : Int) ≤ ((pl + 1 : Nat) : Int) ↔ _; omega))))) (fun hc H7 e7 => ?_) (fun hc H7 e7 => ?_)
    · have hc := of_decide_eq_true hc
      have hno : ∀ i : Nat, (ds.flatMap bits8)[pos + i]? ≠ some true := fun i => ?_
      · exact absurd hzz.2 (hno zz)
      by_cases h : pos + i < 8 * ds.length
      · rw [hz i (by omega) h]
        decide
      · rw [List.getElem?_eq_none (by rw [bits_flat_len]; omega)]
        decide
    · have hc := of_decide_eq_false hc
      have hat : ds[pl + 1]? = some (ds.getD (pl + 1) 0) := by rw [List.getD_eq_getElem?_getD, List.getElem?_eq_getElem (by omega)]; rfl
      refine s_asg (v := .int ((ahd ds pos (pl + 1) : Nat) : Int)) (Ev.is (ev_at (Ev.s (ev_var rfl) (sq_of ((ex6.trans e7) _ _ hd))) (ev_var rfl) (at_of rfl (at_int (cs_at hat)))) (congrArg V.int (by unfold ahd; rw [if_neg (by omega)]))) fun H8 e8 => ?_
      exact ⟨ds.length - (pl + 1), by omega, pl + 1, rfl, rfl, (ex6.trans e7).trans e8, by omega, .inr (by omega), fun i hi => hz i hi (by omega)⟩
  · have hb := of_decide_eq_false hb
    have hlt := ahd_lt hds pos pl
    have hpl2 : pl < ds.length := by
      rcases hor with h | h
      · by_cases h2 : pl < ds.length
        · exact h2
        · exfalso
          apply hb
          unfold ahd restN
          rw [if_pos h, List.getD_eq_getElem?_getD, List.getElem?_eq_none (by omega)]
          exact Nat.zero_mod _
      · exact h
    obtain ⟨x, hx⟩ : ∃ x, ahd ds pos pl = x := ⟨_, rfl⟩
    have hbit := fun i h1 h2 => ahd_bit (ds := ds) (pos := pos) (pl := pl) (i := i) hpl2 h1 h2
    rw [hx] at hb hlt hbit
    rw [hx]
    have hL : Builtin.Int.intBits (x : Int) = x.log2 + 1 := by
      unfold Builtin.Int.intBits
      rw [if_neg (by simpa using hb), Int.natAbs_natCast]
    obtain ⟨L, hLe⟩ : ∃ L, x.log2 + 1 = L := ⟨_, rfl⟩
    have hxL : x < 2 ^ L := by rw [← hLe]; exact Nat.lt_log2_self
    have hx1 : x.testBit (L - 1) = true := by rw [← hLe, Nat.add_sub_cancel]; exact Nat.testBit_log2 hb
    have hL8 : L ≤ if pl = pos / 8 then 8 - pos % 8 else 8 := by
      have h3 : 2 ^ (L - 1) ≤ x := by rw [← hLe, Nat.add_sub_cancel]; exact Nat.log2_self_le hb
      have h4 := (Nat.pow_lt_pow_iff_right (by decide : 1 < 2)).mp (Nat.lt_of_le_of_lt h3 hlt)
      omega
    have hone : pos ≤ 8 * pl + 8 - L ∧ 1 ≤ L ∧ L ≤ 8 := by
      split at hL8 <;> omega
    have hz : zrun (ds.flatMap bits8) pos (8 * pl + 8 - L - pos) := by
      refine ⟨fun i hi => ?_, ?_⟩
      · by_cases h : pos + i < 8 * pl
        · exact hfal i h
        · rw [hbit i (by omega) (by omega)]
          have h5 : x < 2 ^ (7 - (pos + i) % 8) := Nat.lt_of_lt_of_le hxL (Nat.pow_le_pow_right (by decide) (by omega))
          rw [Nat.testBit_lt_two_pow h5]
      · rw [hbit _ (by omega) (by omega), show 7 - (pos + (8 * pl + 8 - L - pos)) % 8 = L - 1 by omega, hx1]
    obtain rfl := zrun_one hzz hz
    have ex5 := ex.trans e5
    refine q_asg (v := .int ((8 * pl + 8 - L : Nat) : Int)) (Ev.is (ev_I0 (ev_I0 (ev_I (ev_var rfl) ev_c (.inr (by decide))) ev_c) (ev_bitsU (ev_var rfl))) (congrArg V.int (by rw [hL, hLe]; omega))) fun H6 e6 => ?_
    refine q_asg (v := .int ((8 * pl + 8 - L - pos : Nat) : Int)) (Ev.is (ev_I0 (ev_var rfl) (ev_fld T.cl_BitReader T.n_BitReader_position (v := .int (pos : Int)) (ev_var rfl) ((ex5.trans e6) _ _ ha) rfl)) (congrArg V.int (by omega))) fun H7 e7 => ?_
    have ex7 := (ex5.trans e6).trans e7
    refine q_fld T.cl_BitReader T.n_BitReader_position (v := .int ((pos + (8 * pl + 8 - L - pos) + 1 : Nat) : Int)) (Ev.is (ev_I0 (ev_var rfl) ev_c) (congrArg V.int (by omega))) (ev_var rfl) (ex7 _ _ ha) (Nat.le_of_ble_eq_true rfl) fun H8 e8 => ?_
    exact s_ret (ev_var rfl) fun H9 e9 => k H9 (((FrA.ex ex7).trans (FrA.ex e8)).upd.trans (FrA.ex e9)) (RdAt.ex e9 ⟨dx, upd_same⟩)

def sgN (wd v : Nat) : Int := if 2 * v < 2 ^ wd then (v : Int) else (v : Int) - (2 ^ wd : Nat)
def sp_readSN (C : Addr) : Sp := fun vs H Q _ => ∃ (a d : Addr) (ds : List Nat) (pos wd : Nat), vs = [.ref a, .int (wd : Int)] ∧ RdAt C H a d pos ∧ H d = some (.lst ((cs ds).map V.int)) ∧ (∀ b ∈ ds, b < 256) ∧ wd ≤ 64 ∧ ds.length ≤ 100000 ∧ pos + wd ≤ 8 * ds.length ∧
  ∀ H', FrA a H H' → RdAt C H' a d (pos + wd) → Q (.int (sgN wd (valL (((ds.flatMap bits8).drop pos).take wd)))) H'
theorem ok_BitReader_read_signed (T : TX K mg) : FnOk P w K mg base CX0 2 T.a_BitReader_read_signed T.d_BitReader_read_signed ["self", "width"] (sp_readSN T.C_BitReader) := by
  refine T.F_BitReader_read_signed.ok sc_BitReader_read_signed (fun vs H Q E h => by obtain ⟨a, d, ds, pos, wd, rfl, _⟩ := h; rfl) (fun cdv A outer s H vs Q E hr h => ?_)
  obtain ⟨a, d, ds, pos, wd, rfl, hR, hd, hds, hw, hlen, hp, k⟩ := h
  obtain ⟨dx, ha⟩ := id hR
  refine ⟨_, (pss_cons (ps_set (i := 2) sc_BitReader_read_signed.nd rfl (Or.inl rfl) (pe_meth (pv 0) T.cl_BitReader T.me_BitReader_read (ok_BitReader_read T) (hr.mono (by decide)) T.b_BitReader_read .nil pass0 (pa_cons (pv 1) pa_nil)))
      (pss_cons (ps_if (pt_cmpR op_lt (pe_op op_mul (pv 2) pe_int) (pe_op op_shl pe_int (pv 1)) (nomark _)) (pss_one (ps_ret (pv 2))) pss_nil)
      (pss_one (ps_ret (pe_op op_sub (pv 2) (pe_op op_shl pe_int (pv 1))))))), ?_⟩
  refine q_asgM (sp := sp_readN T.C_BitReader) (m := "read") (dvs := []) (vs := [.int (wd : Int)]) (ev_var rfl) ha rfl (ea_cons (ev_var rfl) ea_nil) fun H1 e1 => ⟨a, d, ds, pos, wd, rfl, hR.ex e1, e1 _ _ hd, hds, hw, hlen, hp, fun H2 hF hR2 => ?_⟩
  generalize valL (((ds.flatMap bits8).drop pos).take wd) = v at *
  have hsh : ∀ {σ : L2.St} {H1 : Hp} {te : TE}, Ev te σ H1 (.int (wd : Int)) → Ev (tOp (rI CPow fun i j => .int (i * 2 ^ j.toNat)) (tC (.int 1)) te) σ H1 (.int ((2 ^ wd : Nat) : Int)) := fun h => Ev.is (ev_I ev_c h (show CPow 1 (wd : Int) from ⟨by omega, by omega, by decide⟩)) (congrArg V.int (by rw [Int.toNat_natCast, Int.one_mul, pow_cast]))
  refine q_when (b := decide (2 * v < 2 ^ wd)) (et_test (Ev.is (ev_I0 (ev_I (ev_var rfl) ev_c (.inr (by decide))) (hsh (ev_var rfl))) (congrArg V.bl (decide_eq_decide.mpr (by show (v : Int) * 2 < ((2 ^ wd : Nat) : Int) ↔ _; generalize 2 ^ wd = q; omega))))) (fun hb H3 e3 => ?_) (fun hb H3 e3 => ?_)
  · have hb := of_decide_eq_true hb
    unfold sgN at k
    rw [if_pos hb] at k
    exact s_ret (ev_var rfl) fun H4 e4 => k H4 (((FrA.ex e1).trans hF).trans (FrA.ex (e3.trans e4))) (hR2.ex (e3.trans e4))
  · have hb := of_decide_eq_false hb
    unfold sgN at k
    rw [if_neg hb] at k
    exact s_ret (ev_I0 (ev_var rfl) (hsh (ev_var rfl))) fun H4 e4 => k H4 (((FrA.ex e1).trans hF).trans (FrA.ex (e3.trans e4))) (hR2.ex (e3.trans e4))

/-! ### BitWriter -/
def wF (L : Addr) (h n : Nat) : List (Str × V) := [("_whole", .ref L), ("_held", .int (h : Int)), ("_held_bits", .int (n : Int))]
def WrAt (C : Addr) (H : Hp) (a L : Addr) (ms : List Bool) : Prop := ∃ (dx : Addr) (ws : List Nat) (h n : Nat), H a = some (.ins C dx (wF L h n)) ∧ H L = some (.lst ((cs ws).map V.int)) ∧ n < 8 ∧ h < 2 ^ n ∧ (∀ b ∈ ws, b < 256) ∧ ws.flatMap bits8 ++ bitsN n h = ms
def Fr (a L : Addr) (H H' : Hp) : Prop := ∀ b o, b ≠ a → b ≠ L → H b = some o → H' b = some o
theorem Fr.trans {a L : Addr} {H H1 H2 : Hp} (h : Fr a L H H1) (g : Fr a L H1 H2) : Fr a L H H2 := fun b o n1 n2 e => g b o n1 n2 (h b o n1 n2 e)
theorem Fr.ex {a L : Addr} {H H1 : Hp} (h : Ex H H1) : Fr a L H H1 := fun b o _ _ e => h b o e
theorem Fr.upd1 {a L : Addr} {H H1 : Hp} {o : HO} (h : Fr a L H H1) : Fr a L H (upd H1 a o) := fun b p n1 n2 e => by rw [upd_ne n1]; exact h b p n1 n2 e
theorem Fr.upd2 {a L : Addr} {H H1 : Hp} {o : HO} (h : Fr a L H H1) : Fr a L H (upd H1 L o) := fun b p n1 n2 e => by rw [upd_ne n2]; exact h b p n1 n2 e
theorem WrAt.ex {C a L : Addr} {H H1 : Hp} {ms : List Bool} (e : Ex H H1) (h : WrAt C H a L ms) : WrAt C H1 a L ms := by
  obtain ⟨dx, ws, hd, n, h1, h2, h3⟩ := h
  exact ⟨dx, ws, hd, n, e _ _ h1, e _ _ h2, h3⟩
theorem WrAt.ne {C a L : Addr} {H : Hp} {ms : List Bool} (h : WrAt C H a L ms) : a ≠ L := by
  obtain ⟨dx, ws, hd, n, h1, h2, h3⟩ := h
  intro e
  rw [e, h2] at h1
  cases h1
theorem WrAt.len {C a L : Addr} {H : Hp} {ms : List Bool} (h : WrAt C H a L ms) : ∃ dx ws hd n, H a = some (.ins C dx (wF L hd n)) ∧ H L = some (.lst ((cs ws).map V.int)) ∧ n < 8 ∧ hd < 2 ^ n ∧ (∀ b ∈ ws, b < 256) ∧ ws.flatMap bits8 ++ bitsN n hd = ms ∧ ms.length = 8 * ws.length + n := by
  obtain ⟨dx, ws, hd, n, h1, h2, h3, h4, h5, h6⟩ := h
  exact ⟨dx, ws, hd, n, h1, h2, h3, h4, h5, h6, by rw [← h6, List.length_append, bits_flat_len, bitsN_len]⟩
def sp_winit (C : Addr) : Sp := fun vs H Q _ => ∃ a dx, vs = [.ref a] ∧ H a = some (.ins C dx []) ∧ ∀ L H', H L = none → (∀ b o, b ≠ a → H b = some o → H' b = some o) → WrAt C H' a L [] → Q .non H'
theorem ok_BitWriter_init (T : TX K mg) : FnOk P w K mg base CX0 1 T.a_BitWriter_init T.d_BitWriter_init ["self"] (sp_winit T.C_BitWriter) := by
  refine T.F_BitWriter_init.ok sc_BitWriter_init (fun vs H Q E h => by obtain ⟨a, dx, rfl, _⟩ := h; rfl) (fun cdv A outer s H vs Q E hr h => ?_)
  obtain ⟨a, dx, rfl, ha, k⟩ := h
  refine ⟨_, (pss_cons (ps_fld (pv 0) (pe_lst pa_nil) rfl)
      (pss_cons (ps_fld (pv 0) pe_int rfl)
      (pss_one (ps_fld (pv 0) pe_int rfl)))), ?_⟩
  refine q_fldL (xs := []) T.cl_BitWriter T.n_BitWriter_whole (el_lst ea_nil (by decide)) (fun _ _ => ev_var rfl) ha (by decide) fun L H2 hL1 e2 g2 => ?_
  have hne : a ≠ L := fresh_ne hL1 ha
  refine q_fld T.cl_BitWriter T.n_BitWriter_held (v := .int 0) ev_c (ev_var rfl) upd_same (Nat.le_of_ble_eq_true rfl) fun H3 e3 => ?_
  refine s_fld T.cl_BitWriter T.n_BitWriter_held_bits (v := .int 0) ev_c (ev_var rfl) upd_same (Nat.le_of_ble_eq_true rfl) fun H4 e4 => ?_
  refine k L _ hL1 (fun b o n e => ?_) ⟨dx, [], 0, 0, upd_same, ?_, by decide, by decide, (fun b hb => by cases hb), rfl⟩
  · rw [upd_ne n]
    refine e4 _ _ ?_
    rw [upd_ne n]
    refine e3 _ _ ?_
    rw [upd_ne n]
    exact e2 _ _ e
  · rw [upd_ne hne.symm]
    refine e4 _ _ ?_
    rw [upd_ne hne.symm]
    refine e3 _ _ ?_
    rw [upd_ne hne.symm]
    exact g2
def sp_wwrite (C : Addr) : Sp := fun vs H Q _ => ∃ (a L : Addr) (ms : List Bool) (wd : Nat) (v : Int), vs = [.ref a, .int (wd : Int), .int v] ∧ WrAt C H a L ms ∧ wd ≤ 1000 ∧ ms.length + wd ≤ 400000 ∧ ∀ H', Fr a L H H' → WrAt C H' a L (ms ++ bitsN wd (v % 2 ^ wd).toNat) → Q .non H'
theorem ok_BitWriter_write (T : TX K mg) : FnOk P w K mg base CX0 1 T.a_BitWriter_write T.d_BitWriter_write ["self", "width", "value"] (sp_wwrite T.C_BitWriter) := by
  refine T.F_BitWriter_write.ok sc_BitWriter_write (fun vs H Q E h => by obtain ⟨a, L, ms, wd, v, rfl, _⟩ := h; rfl) (fun cdv A outer s H vs Q E hr h => ?_)
  obtain ⟨a, L, ms, wd, v, rfl, hW, hw, hlen, k⟩ := h
  obtain ⟨dx, ws, hd, n, ha, hl, hn, hh, hws, hbits, hml⟩ := hW.len
  have hne := hW.ne
  refine ⟨_, (pss_cons (ps_set (i := 3) sc_BitWriter_write.nd rfl (Or.inl rfl) (pe_op op_or (pe_op op_shl (pe_fld (pv 0) rfl) (pv 1)) (pe_op op_and (pv 2) (pe_op op_sub (pe_op op_shl pe_int (pv 1)) pe_int))))
      (pss_cons (ps_set (i := 4) sc_BitWriter_write.nd rfl (Or.inl rfl) (pe_op op_add (pe_fld (pv 0) rfl) (pv 1)))
      (pss_cons (ps_while PassesOwn.never (pt_cmpR op_ge (pv 4) pe_int (nomark _)) (pss_cons (ps_aug (i := 4) sc_BitWriter_write.nd rfl (Or.inl rfl) pe_int ip_sub)
        (pss_cons (ps_expr (pe_bm PySem.F.plainAttrs_list PySem.F.slot_list_append PySem.F.type_list_append mt_append (pe_fld (pv 0) rfl) (pa_cons (pe_op op_shr (pv 3) (pv 4)) pa_nil)))
        (pss_one (ps_aug (i := 3) sc_BitWriter_write.nd rfl (Or.inl rfl) (pe_op op_sub (pe_op op_shl pe_int (pv 4)) pe_int) iop_and)))))
      (pss_cons (ps_fld (pv 0) (pv 3) rfl)
      (pss_one (ps_fld (pv 0) (pv 4) rfl)))))), ?_⟩
  have hm0 := Int.emod_nonneg v (show ((2 ^ wd : Nat) : Int) ≠ 0 by have := Nat.two_pow_pos wd; omega)
  have hm1 := Int.emod_lt_of_pos v (show (0 : Int) < ((2 ^ wd : Nat) : Int) by have := Nat.two_pow_pos wd; omega)
  rw [pow_cast wd] at k
  have hvv : Builtin.bitAnd v (1 * 2 ^ ((wd : Int)).toNat - 1) = (((v % ((2 ^ wd : Nat) : Int)).toNat : Nat) : Int) := by
    rw [Int.toNat_natCast, Int.one_mul, bitAnd_maskZ, pow_cast]
    omega
  have hvl : (v % ((2 ^ wd : Nat) : Int)).toNat < 2 ^ wd := by omega
  generalize hvn : (v % ((2 ^ wd : Nat) : Int)).toNat = vn at *
  have hh7 : hd < 256 := Nat.lt_of_lt_of_le hh (Nat.pow_le_pow_right (n := 2) (by decide) (by omega : n ≤ 8))
  refine q_asg (v := .int ((hd * 2 ^ wd + vn : Nat) : Int)) (Ev.is (ev_I0 (ev_I (ev_fld T.cl_BitWriter T.n_BitWriter_held (v := .int (hd : Int)) (ev_var rfl) ha rfl) (ev_var rfl) (show CPow (hd : Int) (wd : Int) from ⟨by omega, by omega, by rw [Int.natAbs_natCast]; omega⟩)) (ev_I0 (ev_var rfl) (ev_I0 (ev_I ev_c (ev_var rfl) (show CPow 1 (wd : Int) from ⟨by omega, by omega, by decide⟩)) ev_c))) (congrArg V.int ?_)) fun H1 e1 => ?_
  · rw [hvv, Int.toNat_natCast, _root_.Bits.bitOr_join' (by omega) (by rw [pow_cast]; omega) (by omega), Int.natCast_add, Int.natCast_mul, pow_cast]
    omega
  refine q_asg (v := .int ((n + wd : Nat) : Int)) (Ev.is (ev_I0 (ev_fld T.cl_BitWriter T.n_BitWriter_held_bits (v := .int (n : Int)) (ev_var rfl) (e1 _ _ ha) rfl) (ev_var rfl)) (congrArg V.int (by omega))) fun H2 e2 => ?_
  have ex2 := e1.trans e2
  refine q_while (fun m σ' H' => ∃ (x m' : Nat) (us : List Nat), m = m' ∧ m' ≤ n + wd ∧ σ' = [some (.ref a), some (.int (wd : Int)), some (.int v), some (.int (x : Int)), some (.int (m' : Int))] ∧ Fr a L H H' ∧ H' a = some (.ins T.C_BitWriter dx (wF L hd n)) ∧ H' L = some (.lst ((cs us).map V.int)) ∧ x < 2 ^ m' ∧ (∀ b ∈ us, b < 256) ∧ us.flatMap bits8 ++ bitsN m' x = ms ++ bitsN wd vn) (n + wd) ⟨hd * 2 ^ wd + vn, n + wd, ws, rfl, Nat.le_refl _, rfl, Fr.ex ex2, ex2 _ _ ha, ex2 _ _ hl, ?_, hws, ?_⟩ ?_
  · rw [Nat.pow_add]
    have : (hd + 1) * 2 ^ wd ≤ 2 ^ n * 2 ^ wd := Nat.mul_le_mul_right _ hh
    rw [Nat.add_mul, Nat.one_mul] at this
    omega
  · rw [bitsN_cat hvl, ← List.append_assoc, hbits]
  rintro m _ H3 ⟨x, _, us, rfl, hmle, rfl, hF, ha3, hl3, hx, hus, hb⟩
  have hul : 8 * us.length + m = ms.length + wd := by
    have := congrArg List.length hb
    rw [List.length_append, List.length_append, bits_flat_len, bitsN_len, bitsN_len] at this
    exact this
  refine ⟨decide (8 ≤ m), et_test (Ev.is (ev_I0 (ev_var rfl) ev_c) (congrArg V.bl (decide_eq_decide.mpr (by show (8 : Int) ≤ (m : Int) ↔ _; omega)))), fun hb8 H4 e4 => ?_, fun hb8 H4 e4 => ?_⟩
  · have h8 : 8 ≤ m := of_decide_eq_true hb8
    refine ⟨fun σ2 H2 => ∃ m', m' < m ∧ _, fun σ2 H2 h => h, ?_⟩
    refine q_aug (b := 8) rfl ev_c fun H5 e5 => ?_
    have hm8 : (m : Int) - 8 = ((m - 8 : Nat) : Int) := by omega
    rw [hm8]
    refine q_app (v := .int ((x / 2 ^ (m - 8) : Nat) : Int)) ((e4.trans e5) _ _ hl3) (ev_fld T.cl_BitWriter T.n_BitWriter_whole (v := .ref L) (ev_var rfl) ((e4.trans e5) _ _ ha3) rfl) (Ev.is (ev_I (ev_var rfl) (ev_var rfl) (by show (0 : Int) ≤ _; omega)) (congrArg V.int (by rw [Int.toNat_natCast, pow_cast, Int.natCast_ediv]))) (by rw [List.length_map, cs_len]; omega) fun H6 e6 => ?_
    refine s_augR (a := (x : Int)) (b := 1 * 2 ^ (m - 8) - 1) rfl (ev_I0 (ev_I ev_c (ev_var rfl) (show CPow 1 ((m - 8 : Nat) : Int) from ⟨by omega, by omega, by decide⟩)) ev_c) fun H7 e7 => ?_
    rw [Int.one_mul, bitAnd_maskZ, pow_cast, show (x : Int) % ((2 ^ (m - 8) : Nat) : Int) = ((x % 2 ^ (m - 8) : Nat) : Int) from (Int.natCast_emod _ _).symm]
    refine ⟨m - 8, by omega, x % 2 ^ (m - 8), m - 8, us ++ [x / 2 ^ (m - 8)], rfl, by omega, rfl, ?_, ?_, ?_, Nat.mod_lt _ (Nat.two_pow_pos _), ?_, ?_⟩
    · exact ((hF.trans (Fr.ex ((e4.trans e5).trans e6))).upd2).trans (Fr.ex e7)
    · refine e7 _ _ ?_
      rw [upd_ne hne]
      exact e6 _ _ ((e4.trans e5) _ _ ha3)
    · refine e7 _ _ ?_
      rw [upd_same, cs_append, List.map_append]
      rfl
    · intro b hb
      rcases List.mem_append.mp hb with h | h
      · exact hus b h
      · cases List.mem_singleton.mp h
        rw [show m = 8 + (m - 8) by omega, Nat.pow_add] at hx
        exact Nat.div_lt_of_lt_mul (by rw [Nat.mul_comm]; exact hx)
    · rw [← hb, List.flatMap_append, List.flatMap_cons, List.flatMap_nil, List.append_nil, List.append_assoc]
      congr 1
      conv => rhs; rw [show m = 8 + (m - 8) by omega, bitsN_add]
      rw [bitsN_mod]
      congr 1
  · have h8 : m < 8 := by
      have := of_decide_eq_false hb8
      omega
    refine q_fld T.cl_BitWriter T.n_BitWriter_held (v := .int (x : Int)) (ev_var rfl) (ev_var rfl) (e4 _ _ ha3) (Nat.le_of_ble_eq_true rfl) fun H5 e5 => ?_
    refine s_fld T.cl_BitWriter T.n_BitWriter_held_bits (v := .int (m : Int)) (ev_var rfl) (ev_var rfl) upd_same (Nat.le_of_ble_eq_true rfl) fun H6 e6 => ?_
    refine k _ (((((hF.trans (Fr.ex (e4.trans e5))).upd1).trans (Fr.ex e6)).upd1)) ⟨dx, us, x, m, upd_same, ?_, h8, hx, hus, hb⟩
    rw [upd_ne hne.symm]
    refine e6 _ _ ?_
    rw [upd_ne hne.symm]
    exact (e4.trans e5) _ _ hl3

theorem bitsN_one (z : Nat) : bitsN (z + 1) ((1 : Int) % 2 ^ (z + 1)).toNat = List.replicate z false ++ [true] := by
  rw [pow_cast, show ((1 : Int) % ((2 ^ (z + 1) : Nat) : Int)).toNat = 1 % 2 ^ (z + 1) by rw [show ((1 : Int) % ((2 ^ (z + 1) : Nat) : Int)) = ((1 % 2 ^ (z + 1) : Nat) : Int) from (Int.natCast_emod 1 _).symm, Int.toNat_natCast], bitsN_mod, bitsN_add z 1 1, show 1 / 2 ^ 1 = 0 from rfl, bitsN_zero]
  rfl
theorem bitsN_z (z : Nat) : bitsN z ((0 : Int) % 2 ^ z).toNat = List.replicate z false := by
  rw [Int.zero_emod, Int.toNat_zero, bitsN_zero]
def sp_wunary (C : Addr) : Sp := fun vs H Q _ => ∃ (a L : Addr) (ms : List Bool) (c : Nat), vs = [.ref a, .int (c : Int)] ∧ WrAt C H a L ms ∧ ms.length + c ≤ 300000 ∧ ∀ H', Fr a L H H' → WrAt C H' a L (ms ++ (List.replicate c false ++ [true])) → Q .non H'
theorem ok_BitWriter_write_unary (T : TX K mg) : FnOk P w K mg base CX0 2 T.a_BitWriter_write_unary T.d_BitWriter_write_unary ["self", "count"] (sp_wunary T.C_BitWriter) := by
  refine T.F_BitWriter_write_unary.ok sc_BitWriter_write_unary (fun vs H Q E h => by obtain ⟨a, L, ms, c, rfl, _⟩ := h; rfl) (fun cdv A outer s H vs Q E hr h => ?_)
  obtain ⟨a, L, ms, c, rfl, hW, hlen, k⟩ := h
  refine ⟨_, (pss_cons (ps_set (i := 2) sc_BitWriter_write_unary.nd rfl (Or.inl rfl) (pv 1))
      (pss_cons (ps_while PassesOwn.never (pt_cmpR op_gt (pv 2) (pe_glob (by rfl) T.c_MOST_ZEROS T.r_MOST_ZEROS) (nomark _)) (pss_cons (ps_expr (pe_meth (pv 0) T.cl_BitWriter T.me_BitWriter_write (ok_BitWriter_write T) (hr.mono (by decide)) T.b_BitWriter_write .nil pass0 (pa_cons (pe_glob (by rfl) T.c_MOST_ZEROS T.r_MOST_ZEROS) (pa_cons pe_int pa_nil))))
        (pss_one (ps_aug (i := 2) sc_BitWriter_write_unary.nd rfl (Or.inl rfl) (pe_glob (by rfl) T.c_MOST_ZEROS T.r_MOST_ZEROS) ip_sub))))
      (pss_one (ps_expr (pe_meth (pv 0) T.cl_BitWriter T.me_BitWriter_write (ok_BitWriter_write T) (hr.mono (by decide)) T.b_BitWriter_write .nil pass0 (pa_cons (pe_op op_add (pv 2) pe_int) (pa_cons pe_int pa_nil))))))), ?_⟩
  walk_at "asg"
  intro H1 e1
  refine q_while (fun m σ' H' => ∃ z, m = z ∧ z ≤ c ∧ σ' = [some (.ref a), some (.int (c : Int)), some (.int (z : Int))] ∧ Fr a L H H' ∧ WrAt T.C_BitWriter H' a L (ms ++ List.replicate (c - z) false)) c ⟨c, rfl, Nat.le_refl _, rfl, Fr.ex e1, by rw [Nat.sub_self]; show WrAt _ _ _ _ (ms ++ []); rw [List.append_nil]; exact hW.ex e1⟩ ?_
  rintro z _ H2 ⟨_, rfl, hz, rfl, hF, hW2⟩
  refine ⟨decide (56 < z), et_test (Ev.is (ev_I0 (ev_var rfl) ev_c) (congrArg V.bl (decide_eq_decide.mpr (by show (z : Int) > 56 ↔ _; omega)))), fun hb H3 e3 => ?_, fun hb H3 e3 => ?_⟩
  · have h56 : 56 < z := of_decide_eq_true hb
    refine ⟨fun σ2 H2 => ∃ m', m' < z ∧ _, fun σ2 H2 h => h, ?_⟩
    have hW3 := hW2.ex e3
    obtain ⟨dx, ws, hd, n, ha, _⟩ := hW3.len
    refine q_dropM (vs := [.int 56, .int 0]) (ev_var rfl) ha rfl (ea_cons ev_c (ea_cons ev_c ea_nil)) fun H4 e4 => ⟨a, L, _, 56, 0, rfl, hW3.ex e4, by decide, by rw [List.length_append, List.length_replicate]; omega, fun H5 hF5 hW5 => ?_⟩
    refine s_aug (b := 56) rfl ev_c fun H6 e6 => ?_
    rw [bitsN_z, List.append_assoc, List.replicate_append_replicate, show c - z + 56 = c - (z - 56) by omega] at hW5
    refine ⟨z - 56, by omega, z - 56, rfl, by omega, by rw [show (z : Int) - 56 = ((z - 56 : Nat) : Int) by omega]; rfl, ((hF.trans (Fr.ex (e3.trans e4))).trans hF5).trans (Fr.ex e6), hW5.ex e6⟩
  · have hW3 := hW2.ex e3
    obtain ⟨dx, ws, hd, n, ha, _⟩ := hW3.len
    have hz56 : z ≤ 56 := by have := of_decide_eq_false hb; omega
    refine s_dropM (vs := [.int ((z + 1 : Nat) : Int), .int 1]) (ev_var rfl) ha rfl (ea_cons (Ev.is (ev_I0 (ev_var rfl) ev_c) (congrArg V.int (by omega))) (ea_cons ev_c ea_nil)) fun H4 e4 => ⟨a, L, _, z + 1, 1, rfl, hW3.ex e4, by omega, by rw [List.length_append, List.length_replicate]; omega, fun H5 hF5 hW5 => ?_⟩
    rw [bitsN_one, ← List.append_assoc, List.append_assoc ms, List.replicate_append_replicate, show c - z + z = c by omega, List.append_assoc] at hW5
    exact k H5 ((hF.trans (Fr.ex (e3.trans e4))).trans hF5) hW5

theorem ok_BitWriter_write_signed (T : TX K mg) : FnOk P w K mg base CX0 2 T.a_BitWriter_write_signed T.d_BitWriter_write_signed ["self", "width", "value"] (sp_wwrite T.C_BitWriter) := by
  refine T.F_BitWriter_write_signed.ok sc_BitWriter_write_signed (fun vs H Q E h => by obtain ⟨a, L, ms, wd, v, rfl, _⟩ := h; rfl) (fun cdv A outer s H vs Q E hr h => ?_)
  obtain ⟨a, L, ms, wd, v, rfl, hW, hw, hlen, k⟩ := h
  obtain ⟨dx, ws, hd, n, ha, hl, hn, hh, hws, hbits, hml⟩ := hW.len
  refine ⟨_, (pss_one (ps_expr (pe_meth (pv 0) T.cl_BitWriter T.me_BitWriter_write (ok_BitWriter_write T) (hr.mono (by decide)) T.b_BitWriter_write .nil pass0 (pa_cons (pv 1) (pa_cons (pe_op op_and (pv 2) (pe_op op_sub (pe_op op_shl pe_int (pv 1)) pe_int)) pa_nil))))), ?_⟩
  refine s_dropM (vs := [.int (wd : Int), .int (v % 2 ^ wd)]) (ev_var rfl) ha rfl (ea_cons (ev_var rfl) (ea_cons (Ev.is (ev_I0 (ev_var rfl) (ev_I0 (ev_I ev_c (ev_var rfl) (show CPow 1 (wd : Int) from ⟨by omega, by omega, by decide⟩)) ev_c)) (congrArg V.int (by rw [Int.toNat_natCast, Int.one_mul, bitAnd_maskZ]))) ea_nil)) fun H1 e1 => ⟨a, L, ms, wd, _, rfl, hW.ex e1, hw, hlen, fun H2 hF hW2 => ?_⟩
  rw [Int.emod_emod] at hW2
  exact k H2 ((Fr.ex e1).trans hF) hW2

def sp_wpad (C : Addr) : Sp := fun vs H Q _ => ∃ (a L : Addr) (ms : List Bool), vs = [.ref a] ∧ WrAt C H a L ms ∧ ms.length ≤ 300000 ∧ ∀ H', Fr a L H H' → WrAt C H' a L (ms ++ List.replicate (padN ms.length) false) → Q .non H'
theorem ok_BitWriter_pad (T : TX K mg) : FnOk P w K mg base CX0 2 T.a_BitWriter_pad T.d_BitWriter_pad ["self"] (sp_wpad T.C_BitWriter) := by
  refine T.F_BitWriter_pad.ok sc_BitWriter_pad (fun vs H Q E h => by obtain ⟨a, L, ms, rfl, _⟩ := h; rfl) (fun cdv A outer s H vs Q E hr h => ?_)
  obtain ⟨a, L, ms, rfl, hW, hlen, k⟩ := h
  obtain ⟨dx, ws, hd, n, ha, hl, hn, hh, hws, hbits, hml⟩ := hW.len
  have hfld : ∀ {H1 : Hp}, Ex H H1 → Ev (tFld K (tVar 0) "_held_bits") (start ["self"] [.ref a]) H1 (.int (n : Int)) := fun e => ev_fld T.cl_BitWriter T.n_BitWriter_held_bits (ev_var rfl) (e _ _ ha) rfl
  refine ⟨_, (pss_one (ps_if (pt_cmpR op_gt (pe_fld (pv 0) rfl) pe_int (nomark _)) (pss_one (ps_expr (pe_meth (pv 0) T.cl_BitWriter T.me_BitWriter_write (ok_BitWriter_write T) (hr.mono (by decide)) T.b_BitWriter_write .nil pass0 (pa_cons (pe_op op_sub pe_int (pe_fld (pv 0) rfl)) (pa_cons pe_int pa_nil))))) pss_nil)), ?_⟩
  have hp : padN ms.length = if 0 < n then 8 - n else 0 := by
    unfold padN
    split <;> omega
  refine s_when (b := decide (0 < n)) (et_test (Ev.is (ev_I0 (hfld (Ex.refl H)) ev_c) (congrArg V.bl (decide_eq_decide.mpr (by show (n : Int) > 0 ↔ _; omega))))) (fun hb H1 e1 => ?_) (fun hb H1 e1 => ?_)
  · have h0 : 0 < n := of_decide_eq_true hb
    refine s_dropM (vs := [.int ((8 - n : Nat) : Int), .int 0]) (ev_var rfl) (e1 _ _ ha) rfl (ea_cons (Ev.is (ev_I0 ev_c (hfld e1)) (congrArg V.int (by omega))) (ea_cons ev_c ea_nil)) fun H4 e4 => ⟨a, L, _, 8 - n, 0, rfl, hW.ex (e1.trans e4), by omega, by omega, fun H5 hF5 hW5 => ?_⟩
    rw [bitsN_z] at hW5
    rw [hp, if_pos h0] at k
    exact k H5 ((Fr.ex (e1.trans e4)).trans hF5) hW5
  · have h0 : ¬ 0 < n := of_decide_eq_false hb
    rw [hp, if_neg h0] at k
    refine k H1 (Fr.ex e1) ?_
    show WrAt _ _ _ _ (ms ++ [])
    rw [List.append_nil]
    exact hW.ex e1

def sp_wlist (C : Addr) : Sp := fun vs H Q _ => ∃ (a L : Addr) (ms : List Bool), vs = [.ref a] ∧ WrAt C H a L ms ∧ ms.length ≤ 300000 ∧ ∀ p us H', H p = none → Ex H H' → H' p = some (.lst ((cs us).map V.int)) → us.flatMap bits8 = ms ++ List.replicate (padN ms.length) false → (∀ b ∈ us, b < 256) → Q (.ref p) H'
theorem ok_BitWriter_byte_list (T : TX K mg) : FnOk P w K mg base CX0 1 T.a_BitWriter_byte_list T.d_BitWriter_byte_list ["self"] (sp_wlist T.C_BitWriter) := by
  refine T.F_BitWriter_byte_list.ok sc_BitWriter_byte_list (fun vs H Q E h => by obtain ⟨a, L, ms, rfl, _⟩ := h; rfl) (fun cdv A outer s H vs Q E hr h => ?_)
  obtain ⟨a, L, ms, rfl, hW, hlen, k⟩ := h
  obtain ⟨dx, ws, hd, n, ha, hl, hn, hh, hws, hbits, hml⟩ := hW.len
  have f1 : ∀ {H1 : Hp}, Ex H H1 → Ev (tFld K (tVar 0) "_whole") (start ["self"] [.ref a]) H1 (.ref L) := fun e => ev_fld T.cl_BitWriter T.n_BitWriter_whole (ev_var rfl) (e _ _ ha) rfl
  have f2 : ∀ {H1 : Hp}, Ex H H1 → Ev (tFld K (tVar 0) "_held") (start ["self"] [.ref a]) H1 (.int (hd : Int)) := fun e => ev_fld T.cl_BitWriter T.n_BitWriter_held (ev_var rfl) (e _ _ ha) rfl
  have f3 : ∀ {H1 : Hp}, Ex H H1 → Ev (tFld K (tVar 0) "_held_bits") (start ["self"] [.ref a]) H1 (.int (n : Int)) := fun e => ev_fld T.cl_BitWriter T.n_BitWriter_held_bits (ev_var rfl) (e _ _ ha) rfl
  refine ⟨_, (pss_cons (ps_if (pt_cmpR op_eq (pe_fld (pv 0) rfl) pe_int (nomark _)) (pss_one (ps_ret (pe_callTy (r := rListS K) call_list_of (by rfl) T.m_list PyProof.Rows.boot_list (pa_cons (pe_fld (pv 0) rfl) pa_nil)))) pss_nil)
      (pss_one (ps_ret (pe_op op_cat (pe_fld (pv 0) rfl) (pe_lst (pa_cons (pe_op op_shl (pe_fld (pv 0) rfl) (pe_op op_sub pe_int (pe_fld (pv 0) rfl))) pa_nil)))))), ?_⟩
  refine q_when (b := decide (n = 0)) (et_test (Ev.is (ev_eq (f3 (Ex.refl H)) ev_c rfl) (congrArg V.bl (decide_eq_decide.mpr ⟨fun h => by have := V.int.inj h; omega, fun h => by rw [h]; rfl⟩)))) (fun h0 H1 e1 => ?_) (fun h0 H1 e1 => ?_)
  · have h0 : n = 0 := of_decide_eq_true h0
    subst h0
    refine s_retL (el_of (Ev.s (f1 e1) (sq_of (e1 _ _ hl)))) fun p H2 hp e2 g2 => ?_
    refine k p ws H2 (by cases h : H p with | none => rfl | some o => rw [e1 _ _ h] at hp; cases hp) (e1.trans e2) g2 ?_ hws
    have : padN ms.length = 0 := by unfold padN; omega
    rw [this, ← hbits]
    show _ = _ ++ [] ++ []
    rw [List.append_nil, List.append_nil]
  · have h0 : ¬ n = 0 := of_decide_eq_false h0
    have hh8 : hd < 256 := Nat.lt_of_lt_of_le hh (Nat.pow_le_pow_right (n := 2) (by decide) (by omega : n ≤ 8))
    refine s_retL (xs := (cs (ws ++ [hd * 2 ^ (8 - n)])).map V.int) (EvL.is (el_cat (Ev.r (f1 e1) (e1 _ _ hl)) (EvL.r (el_lst (vs := [.int ((hd * 2 ^ (8 - n) : Nat) : Int)]) (ea_cons (Ev.is (ev_I (j := ((8 - n : Nat) : Int)) (f2 e1) (Ev.is (ev_I0 ev_c (f3 e1)) (congrArg V.int (by omega))) (show CPow (hd : Int) ((8 - n : Nat) : Int) from ⟨by omega, by omega, by rw [Int.natAbs_natCast]; omega⟩)) (congrArg V.int (by rw [Int.toNat_natCast, pow_cast, Int.natCast_mul]))) ea_nil) (Nat.le_of_ble_eq_true rfl))) ?_) ?_) fun p H2 hp e2 g2 => ?_
    · rw [List.length_map, cs_len]
      show _ + 1 ≤ _
      omega
    · rw [cs_append, List.map_append]
      rfl
    · refine k p _ H2 (by cases h : H p with | none => rfl | some o => rw [e1 _ _ h] at hp; cases hp) (e1.trans e2) g2 ?_ ?_
      · have : padN ms.length = 8 - n := by unfold padN; omega
        rw [this, ← hbits, List.flatMap_append, List.flatMap_cons, List.flatMap_nil, List.append_nil, List.append_assoc, bits8_N]
        congr 1
        have h8 : 8 = n + (8 - n) := by omega
        conv => lhs; rw [h8]
        rw [show n + (8 - n) - n = 8 - n by omega]
        have h3 := bitsN_cat (n := n) (w := 8 - n) (h := hd) (v := 0) (Nat.two_pow_pos _)
        rw [Nat.add_zero, bitsN_zero] at h3
        exact h3
      · intro d hdm
        rcases List.mem_append.mp hdm with h | h
        · exact hws d h
        · cases List.mem_singleton.mp h
          have h3 : hd * 2 ^ (8 - n) < 2 ^ n * 2 ^ (8 - n) := Nat.mul_lt_mul_of_pos_right hh (Nat.two_pow_pos _)
          rw [← Nat.pow_add, show n + (8 - n) = 8 by omega] at h3
          exact h3

def sp_wmany (C : Addr) : Sp := fun vs H Q _ => ∃ (a L : Addr) (ms : List Bool), vs = [.ref a] ∧ WrAt C H a L ms ∧ RetV (.int (ms.length : Int)) H Q
theorem ok_BitWriter_bits_written (T : TX K mg) : FnOk P w K mg base CX0 1 T.a_BitWriter_bits_written T.d_BitWriter_bits_written ["self"] (sp_wmany T.C_BitWriter) := by
  refine T.F_BitWriter_bits_written.ok sc_BitWriter_bits_written (fun vs H Q E h => by obtain ⟨a, L, ms, rfl, _⟩ := h; rfl) (fun cdv A outer s H vs Q E hr h => ?_)
  obtain ⟨a, L, ms, rfl, hW, k⟩ := h
  obtain ⟨dx, ws, hd, n, ha, hl, hn, hh, hws, hbits, hml⟩ := hW.len
  refine ⟨_, (pss_one (ps_ret (pe_op op_add (pe_op op_mul (pe_callB (r := rLenS K) call_len_seq (by rfl) T.m_len PySem.boot_len (pa_cons (pe_fld (pv 0) rfl) pa_nil)) pe_int) (pe_fld (pv 0) rfl)))), ?_⟩
  refine s_ret (v := .int (ms.length : Int)) (Ev.is (ev_I0 (ev_I (ev_lenS (Ev.s (ev_fld T.cl_BitWriter T.n_BitWriter_whole (v := .ref L) (ev_var rfl) ha rfl) (sq_of hl))) ev_c (.inr (by decide))) (ev_fld T.cl_BitWriter T.n_BitWriter_held_bits (v := .int (n : Int)) (ev_var rfl) ha rfl)) (congrArg V.int (by rw [List.length_map, cs_len]; omega))) fun H1 e1 => k H1 e1

theorem chunk : ∀ (us : List Nat) (k : Nat), k < us.length → ((us.flatMap bits8).drop (8 * k)).take 8 = bits8 (us.getD k 0)
  | u :: r, 0, _ => by
    rw [List.flatMap_cons]
    show ((bits8 u ++ _).drop 0).take 8 = bits8 u
    rw [List.drop_zero]
    exact List.take_left' (l₁ := bits8 u) rfl
  | u :: r, k + 1, h => by
    rw [List.flatMap_cons, show 8 * (k + 1) = (bits8 u).length + 8 * k by show _ = 8 + 8 * k; omega, List.drop_append, List.drop_of_length_le (by omega), List.nil_append, show (bits8 u).length + 8 * k - (bits8 u).length = 8 * k by omega]
    exact chunk r k (by simp at h; omega)
theorem us_one {us vs : List Nat} (hu : ∀ u ∈ us, u < 256) (hv : ∀ u ∈ vs, u < 256) (h : us.flatMap bits8 = vs.flatMap bits8) : us = vs := by
  have hl : us.length = vs.length := by
    have := congrArg List.length h
    rw [bits_flat_len, bits_flat_len] at this
    omega
  refine List.ext_getElem? fun k => ?_
  by_cases hk : k < us.length
  · have h1 : us[k]? = some (us.getD k 0) := by rw [List.getD_eq_getElem?_getD, List.getElem?_eq_getElem hk]; rfl
    have h2 : vs[k]? = some (vs.getD k 0) := by rw [List.getD_eq_getElem?_getD, List.getElem?_eq_getElem (by omega)]; rfl
    have c1 := chunk us k hk
    have c2 := chunk vs k (by omega)
    rw [h, c2] at c1
    have c3 := congrArg valL c1
    rw [valL_8 _ (hu _ (List.mem_of_getElem? h1)), valL_8 _ (hv _ (List.mem_of_getElem? h2))] at c3
    rw [h1, h2, c3]
  · rw [List.getElem?_eq_none (by omega), List.getElem?_eq_none (by omega)]
theorem er_list {σ : L2.St} {H : Hp} {to : TE} {E : XK} {C a L : Addr} {ms : List Bool} {us : List Nat} (h : Ev to σ H (.ref a)) (hW : WrAt C H a L ms) (hl : ms.length ≤ 300000) (hus : us.flatMap bits8 = ms ++ List.replicate (padN ms.length) false) (hu : ∀ u ∈ us, u < 256) : EvL (tMeth C "byte_list" (sp_wlist C) [] E to tNil) σ H ((cs us).map V.int) := fun H1 e Q q => by
  obtain ⟨dx, ws, hd, n, ha, _⟩ := hW.len
  refine h H1 e _ fun H2 e2 => ⟨a, dx, _, rfl, (e.trans e2) _ _ ha, rfl, a, L, ms, rfl, hW.ex (e.trans e2), hl, fun p vs H3 hp e3 g3 hv1 hv2 => ?_⟩
  have := us_one hu hv2 (hus.trans hv1.symm)
  subst this
  exact q p H3 (by cases h : H1 p with | none => rfl | some o => rw [e2 _ _ h] at hp; cases hp) (e2.trans e3) g3
theorem self_mod {v w : Nat} (h : v < 2 ^ w) : ((v : Int) % 2 ^ w).toNat = v := by
  rw [pow_cast, show ((v : Int) % ((2 ^ w : Nat) : Int)) = ((v % 2 ^ w : Nat) : Int) from (Int.natCast_emod _ _).symm, Int.toNat_natCast, Nat.mod_eq_of_lt h]
theorem mk_w {C : Addr} {E : XK} {σ : L2.St} {H : Hp} {Q : VK} (k : ∀ a L H', H a = none → H L = none → Ex H H' → WrAt C H' a L [] → Q (.ref a) H') : tMake C (sp_winit C) [] E tNil σ H Q := fun x dx hx hdx hne => by
  have hex : ∀ b o, H b = some o → upd (upd H dx (HO.own x)) x (HO.ins C dx []) b = some o := fun b o hb => by
    rw [upd_ne (fresh_ne hx hb), upd_ne (fresh_ne hdx hb)]
    exact hb
  refine ⟨x, dx, rfl, upd_same, fun L H' hL hF hW => ⟨rfl, k x L H' hx ?_ (fun b o hb => hF b o (fresh_ne hx hb) (hex b o hb)) hW⟩⟩
  cases h : H L with
  | none => rfl
  | some o => rw [hex L o h] at hL; cases hL

theorem valL_lt : ∀ l : List Bool, valL l < 2 ^ l.length := fun l => by
  have key : ∀ (l : List Bool) (a n : Nat), a < 2 ^ n → l.foldl (fun a b => 2 * a + b.toNat) a < 2 ^ (n + l.length) := by
    intro l
    induction l with
    | nil => exact fun a n h => h
    | cons b r ih =>
      intro a n h
      show r.foldl _ (2 * a + b.toNat) < _
      rw [List.length_cons, show n + (r.length + 1) = (n + 1) + r.length by omega]
      refine ih _ _ ?_
      rw [Nat.pow_succ]
      cases b <;> simp <;> omega
  have := key l 0 0 (by decide)
  rwa [Nat.zero_add] at this
theorem valL_cons (b : Bool) (r : List Bool) : valL (b :: r) = b.toNat * 2 ^ r.length + valL r := by
  have key : ∀ (l : List Bool) (a : Nat), l.foldl (fun a b => 2 * a + b.toNat) a = a * 2 ^ l.length + valL l := by
    intro l
    induction l with
    | nil => intro a; show a = a * 1 + 0; omega
    | cons c t ih =>
      intro a
      show t.foldl _ (2 * a + c.toNat) = a * 2 ^ (t.length + 1) + t.foldl (fun a b => 2 * a + b.toNat) (2 * 0 + c.toNat)
      rw [ih, ih (2 * 0 + c.toNat), Nat.pow_succ, Nat.add_mul, Nat.add_mul, Nat.mul_zero, Nat.zero_mul, Nat.mul_comm 2 a, Nat.mul_assoc, Nat.mul_comm 2]
      omega
  show r.foldl _ (2 * 0 + b.toNat) = _
  rw [key, Nat.mul_zero, Nat.zero_add]

def foldI (n : Int) : Int := if n < 0 then -2 * n - 1 else 2 * n
def unfoldI (u : Int) : Int := if u % 2 = 0 then u / 2 else -(u / 2) - 1
theorem unfold_fold (n : Int) : unfoldI (foldI n) = n := by
  unfold unfoldI foldI
  split <;> split <;> omega
def sp_fold : Sp := fun vs H Q _ => ∃ n : Int, vs = [.int n] ∧ RetV (.int (foldI n)) H Q
theorem ok_fold (T : TX K mg) : FnOk P w K mg base CX0 1 T.a_fold T.d_fold ["n"] sp_fold := by
  refine T.F_fold.ok sc_fold (fun vs H Q E h => by obtain ⟨n, rfl, _⟩ := h; rfl) (fun cdv A outer s H vs Q E hr h => ?_)
  obtain ⟨n, rfl, k⟩ := h
  refine ⟨_, (pss_cons (ps_if (pt_cmpR op_lt (pv 0) pe_int (nomark _)) (pss_one (ps_ret (pe_op op_sub (pe_op op_mul (pe_un un_neg pe_int) (pv 0)) pe_int))) pss_nil)
      (pss_one (ps_ret (pe_op op_mul pe_int (pv 0))))), ?_⟩
  walk_at "when"
  · intro hb H1 e1
    walk_at "ret"
    intro H2 e2
    refine ret_eq k (e1.trans e2) ?_
    have hb : n < 0 := of_decide_eq_true hb
    unfold foldI
    rw [if_pos hb]
  · intro hb H1 e1
    walk_at "ret"
    intro H2 e2
    refine ret_eq k (e1.trans e2) ?_
    have hb : ¬ n < 0 := of_decide_eq_false hb
    unfold foldI
    rw [if_neg hb]
def sp_unfold : Sp := fun vs H Q _ => ∃ n : Int, vs = [.int n] ∧ RetV (.int (unfoldI n)) H Q
theorem ok_unfold (T : TX K mg) : FnOk P w K mg base CX0 1 T.a_unfold T.d_unfold ["u"] sp_unfold := by
  refine T.F_unfold.ok sc_unfold (fun vs H Q E h => by obtain ⟨n, rfl, _⟩ := h; rfl) (fun cdv A outer s H vs Q E hr h => ?_)
  obtain ⟨n, rfl, k⟩ := h
  refine ⟨_, (pss_cons (ps_if (pt_cmpR op_eq (pe_op op_mod (pv 0) pe_int) pe_int (nomark _)) (pss_one (ps_ret (pe_op op_fdiv (pv 0) pe_int))) pss_nil)
      (pss_one (ps_ret (pe_op op_sub (pe_un un_neg (pe_op op_fdiv (pv 0) pe_int)) pe_int)))), ?_⟩
  walk_at "when"
  · intro hb H1 e1
    walk_at "ret"
    intro H2 e2
    refine ret_eq k (e1.trans e2) ?_
    have hb : n % 2 = 0 := V.int.inj (of_decide_eq_true hb)
    unfold unfoldI
    rw [if_pos hb]
  · intro hb H1 e1
    walk_at "ret"
    intro H2 e2
    refine ret_eq k (e1.trans e2) ?_
    have hb : ¬ n % 2 = 0 := fun z => of_decide_eq_false hb (congrArg V.int z)
    unfold unfoldI
    rw [if_neg hb]
theorem ev_fold {σ : L2.St} {H : Hp} {te : TE} {E : XK} {n : Int} (h : Ev te σ H (.int n)) : Ev (tCall sp_fold [] E (tCons te tNil)) σ H (.int (foldI n)) := ev_call (ea_cons h ea_nil) fun H1 _ Q q _ => ⟨n, rfl, q⟩

/-! ### Rice codes -/
def codeB (k u : Nat) : List Bool := List.replicate (u / 2 ^ k) false ++ ([true] ++ bitsN k (u % 2 ^ k))
theorem codeB_len (k u : Nat) : (codeB k u).length = u / 2 ^ k + 1 + k := by
  unfold codeB
  rw [List.length_append, List.length_append, List.length_replicate, bitsN_len]
  show u / 2 ^ k + (1 + k) = _
  omega
theorem foldI_nn (n : Int) : 0 ≤ foldI n := by unfold foldI; split <;> omega
def sp_clen : Sp := fun vs H Q _ => ∃ (k u : Nat) (n : Int), vs = [.int (k : Int), .int n] ∧ foldI n = (u : Int) ∧ RetV (.int ((u / 2 ^ k + 1 + k : Nat) : Int)) H Q

theorem ok_code_length (T : TX K mg) : FnOk P w K mg base CX0 2 T.a_code_length T.d_code_length ["k", "n"] sp_clen := by
  refine T.F_code_length.ok sc_code_length (fun vs H Q E h => by obtain ⟨k, u, n, rfl, _⟩ := h; rfl) (fun cdv A outer s H vs Q E hr h => ?_)
  obtain ⟨k, u, n, rfl, hu, q⟩ := h
  refine ⟨_, (pss_one (ps_ret (pe_op op_add (pe_op op_add (pe_op op_shr (pe_call (ok_fold T) (hr.mono (by decide)) (by rfl) T.g_fold T.F_fold.kp T.b_fold .nil pass0 (pa_cons (pv 1) pa_nil)) (pv 0)) pe_int) (pv 0)))), ?_⟩
  exact s_ret (Ev.is (ev_I0 (ev_I0 (ev_I (Ev.is (ev_fold (ev_var rfl)) (congrArg V.int hu)) (ev_var rfl) (by show (0 : Int) ≤ _; omega)) ev_c) (ev_var rfl)) (congrArg V.int (by rw [Int.toNat_natCast, pow_cast, ← Int.natCast_ediv]; omega))) fun H1 e1 => q H1 e1
theorem ev_clen {σ : L2.St} {H : Hp} {t1 t2 : TE} {E : XK} {k u : Nat} {n : Int} (h1 : Ev t1 σ H (.int (k : Int))) (h2 : Ev t2 σ H (.int n)) (hu : foldI n = (u : Int)) : Ev (tCall sp_clen [] E (tCons t1 (tCons t2 tNil))) σ H (.int ((u / 2 ^ k + 1 + k : Nat) : Int)) := ev_call (ea_cons h1 (ea_cons h2 ea_nil)) fun H1 _ Q q _ => ⟨k, u, n, rfl, hu, q⟩

/-- a tuple that is read -/
def EvP (K : PySem.W.Frag) (te : TE) (σ : L2.St) (H : Hp) (xs : List V) : Prop := ∀ H1, Ex H H1 → ∀ Q : VK, (∀ p H2, Ex H1 H2 → SqT K H2 p xs → Q (.ref p) H2) → te σ H1 Q
theorem Ev.p {te : TE} {σ : L2.St} {H : Hp} {a : Addr} {xs : List V} (h : Ev te σ H (.ref a)) (hx : SqT K H a xs) : EvP K te σ H xs := fun H1 e Q q => h H1 e Q fun H2 e2 => q a H2 e2 (ex_t e2 (ex_t e hx))
/-! ### partitions -/
def startN (o w i : Nat) : Nat := i * w - o
def sizeN (o w i : Nat) : Nat := if i = 0 then w - o else w
def partL (rs : List Int) (o w i : Nat) : List Int := (rs.drop (startN o w i)).take (sizeN o w i)
theorem start_next {o w i : Nat} (h : o ≤ w) : startN o w i + sizeN o w i = startN o w (i + 1) := by
  unfold startN sizeN
  rw [Nat.succ_mul]
  by_cases hi : i = 0
  · rw [if_pos hi, hi]
    omega
  · rw [if_neg hi]
    have : w ≤ i * w := Nat.le_mul_of_pos_left w (by omega)
    omega
theorem size_at {o w n i : Nat} (h : i < 2 ^ n) (hw : o ≤ w) : ((((w : Int) - (o : Int)) :: List.replicate (2 ^ n - 1) (w : Int)))[i]? = some ((sizeN o w i : Nat) : Int) := by
  unfold sizeN
  cases i with
  | zero => rw [if_pos rfl]; show some _ = _; congr 1; omega
  | succ j => rw [if_neg (by omega), List.getElem?_cons_succ, List.getElem?_replicate, if_pos (by omega)]
theorem part_len {rs : List Int} {o w n i : Nat} (hl : rs.length + o = w * 2 ^ n) (hw : o ≤ w) (hi : i < 2 ^ n) : (partL rs o w i).length = sizeN o w i := by
  have h1 : startN o w (i + 1) ≤ rs.length := by
    unfold startN
    have : (i + 1) * w ≤ 2 ^ n * w := Nat.mul_le_mul_right w hi
    rw [Nat.mul_comm (2 ^ n)] at this
    omega
  have h2 := start_next (i := i) hw
  unfold partL
  rw [List.length_take, List.length_drop]
  omega
def PartsAt (H : Hp) (pp : Addr) (ps : List Addr) (rs : List Int) (o w : Nat) : Prop := H pp = some (.lst (ps.map V.ref)) ∧ ∀ (i : Nat) q, ps[i]? = some q → H q = some (.lst ((partL rs o w i).map V.int))
def sp_parts : Sp := fun vs H Q _ => ∃ (r : Addr) (rs : List Int) (o w n : Nat), vs = [.ref r, .int (o : Int), .int (n : Int)] ∧ H r = some (.lst (rs.map V.int)) ∧ n ≤ 16 ∧ rs.length + o = w * 2 ^ n ∧ o ≤ w ∧ rs.length ≤ 90000 ∧ ∀ pp ps H', H pp = none → Ex H H' → ps.length = 2 ^ n → (∀ (i : Nat) q, ps[i]? = some q → H q = none) → PartsAt H' pp ps rs o w → Q (.ref pp) H'
theorem q_forL' {σ : L2.St} {H : Hp} {D : Ends} {tu tz : TS} {tl : TE} {g : TG} {xs : List V} (h : EvL tl σ H xs) (k : ∀ p H1, H p = none → Ex H H1 → H1 p = some (.lst xs) → tSeq (tFor (iList K (tC (.ref p))) g tu) tz D σ H1) : tSeq (tFor (iList K tl) g tu) tz D σ H := h H (Ex.refl H) _ fun p H1 hp e g => k p H1 hp e g
theorem ok_parts (T : TX K mg) : FnOk P w K mg base CX0 2 T.a_parts T.d_parts ["residuals", "order", "partition_order"] sp_parts := by
  refine T.F_parts.ok sc_parts (fun vs H Q E h => by obtain ⟨r, rs, o, w, n, rfl, _⟩ := h; rfl) (fun cdv A outer s0 H vs Q E hr h => ?_)
  obtain ⟨r, rs, o, wd, n, rfl, hr0, hn, hl, hw, hrl, k⟩ := h
  refine ⟨_, (pss_cons (ps_set (i := 3) sc_parts.nd rfl (Or.inl rfl) (pe_lst pa_nil))
      (pss_cons (ps_set (i := 4) sc_parts.nd rfl (Or.inl rfl) pe_int)
      (pss_cons (ps_for PassesOwn.never rfl (pi_list (pe_call (ok_partition_sizes T) (hr.mono (by decide)) (by rfl) T.g_partition_sizes T.F_partition_sizes.kp T.b_partition_sizes .nil pass0 (pa_cons (pe_op op_add (pe_callB (r := rLenS K) call_len_seq (by rfl) T.m_len PySem.boot_len (pa_cons (pv 0) pa_nil)) (pv 1)) (pa_cons (pv 1) (pa_cons (pv 2) pa_nil))))) (pg_name (i := 5) sc_parts.nd rfl (Or.inl rfl)) (pss_cons (ps_expr (pe_bm PySem.F.plainAttrs_list PySem.F.slot_list_append PySem.F.type_list_append mt_append (pv 3) (pa_cons (pe_slice (r := rSlL K) sl_list (pv 0) (po_some (pv 4)) (po_some (pe_op op_add (pv 4) (pv 5)))) pa_nil)))
        (pss_one (ps_aug (i := 4) sc_parts.nd rfl (Or.inl rfl) (pv 5) ip_add))))
      (pss_one (ps_ret (pv 3)))))), ?_⟩
  have hp0 := Nat.two_pow_pos n
  have h16 : 2 ^ n ≤ 65536 := Nat.pow_le_pow_right (by decide) hn
  refine q_asgL (xs := []) (el_lst ea_nil (by decide)) fun pp H1 hpp e1 g1 => ?_
  refine q_asg (v := .int 0) ev_c fun H2 e2 => ?_
  have e12 := e1.trans e2
  have hdiv : (((rs.length + o : Nat) : Int)) / 2 ^ n = (wd : Int) := by rw [pow_cast, hl, ← Int.natCast_ediv, Nat.mul_div_cancel _ hp0]
  refine q_forL' (xs := ((((wd : Int) - (o : Int)) :: List.replicate (2 ^ n - 1) (wd : Int))).map V.int) (EvL.is (el_sizes (s := ((rs.length + o : Nat) : Int)) (Ev.is (ev_I0 (ev_lenS (Ev.s (ev_var rfl) (sq_of (e12 _ _ hr0)))) (ev_var rfl)) (congrArg V.int (by rw [List.length_map]; omega))) (ev_var rfl) (ev_var rfl) hn) (by rw [hdiv])) fun ps H3 hps e3 g3 => ?_
  have e13 := e12.trans e3
  have npp : ps ≠ pp := (fresh_ne hps (e2 _ _ g1)).symm
  refine q_forLn (K := K) (a := ps) ev_c (sq_of g3) (fun i σ' H' => ∃ (qs : List Addr) (z5 : Option V), σ' = [some (.ref r), some (.int (o : Int)), some (.int (n : Int)), some (.ref pp), some (.int ((startN o wd i : Nat) : Int)), z5] ∧ Ex H H' ∧ H' ps = some (.lst (((((wd : Int) - (o : Int)) :: List.replicate (2 ^ n - 1) (wd : Int))).map V.int)) ∧ qs.length = i ∧ H' pp = some (.lst (qs.map V.ref)) ∧ (∀ (j : Nat) q, qs[j]? = some q → q ≠ pp ∧ H' q = some (.lst ((partL rs o wd j).map V.int)) ∧ H q = none))
    (fun H4 e4 => ⟨[], none, by unfold startN; rw [Nat.zero_mul, Nat.zero_sub]; rfl, e13.trans e4, e4 _ _ g3, rfl, e4 _ _ (e3 _ _ (e2 _ _ g1)), fun j q h => by simp at h⟩) (fun i σ' H' _ h => by obtain ⟨_, _, _, _, h, _⟩ := h; exact sq_of h) ?_ ?_
  · rintro i x σ' H4 hx ⟨qs, z5, rfl, ex, gs, hql, gpp, hqs⟩
    obtain ⟨c, hc, hi, rfl⟩ := int_at hx
    rw [List.length_cons, List.length_replicate] at hi
    have hi2 : i < 2 ^ n := by omega
    rw [size_at hi2 hw] at hc
    obtain rfl := Option.some.inj hc
    have hst := start_next (i := i) hw
    refine q_appL (ys := (partL rs o wd i).map V.int) gpp (ev_var rfl) (EvL.is (el_mid (ns := rs) (i := startN o wd i) (j := startN o wd i + sizeN o wd i) (Ev.s (ev_var rfl) (sq_of (ex _ _ hr0))) (ev_var rfl) (Ev.is (ev_I0 (ev_var rfl) (ev_var rfl)) (congrArg V.int (by omega)))) (by unfold partL; rw [show startN o wd i + sizeN o wd i - startN o wd i = sizeN o wd i by omega])) (by rw [List.length_map]; omega) fun q H5 hq e5 g5 => ?_
    have nq : q ≠ pp := (fresh_ne hq gpp).symm
    refine s_augR (a := ((startN o wd i : Nat) : Int)) (b := ((sizeN o wd i : Nat) : Int)) rfl (ev_var rfl) fun H6 e6 => ?_
    have hpp0 : H pp = none := hpp
    refine ⟨qs ++ [q], some (.int ((sizeN o wd i : Nat) : Int)), ?_, Ex.trans (Ex.mut (ex.trans e5) hpp0) e6, e6 _ _ (by rw [upd_ne npp]; exact e5 _ _ gs), by rw [List.length_append, hql]; rfl, e6 _ _ (by rw [upd_same, List.map_append]; rfl), fun j u hu => ?_⟩
    · show [_, _, _, _, some (V.int (((startN o wd i : Nat) : Int) + ((sizeN o wd i : Nat) : Int))), _] = _
      rw [show ((startN o wd i : Nat) : Int) + ((sizeN o wd i : Nat) : Int) = ((startN o wd (i + 1) : Nat) : Int) by omega]
    · by_cases hj : j < i
      · rw [List.getElem?_append_left (by omega)] at hu
        obtain ⟨n1, h1, h2⟩ := hqs j u hu
        exact ⟨n1, e6 _ _ (by rw [upd_ne n1]; exact e5 _ _ h1), h2⟩
      · rw [List.getElem?_append_right (by omega), hql] at hu
        have hj0 : j = i := by
          cases hz : j - i with
          | zero => omega
          | succ m => rw [hz] at hu; simp at hu
        subst hj0
        rw [Nat.sub_self] at hu
        obtain rfl := Option.some.inj hu
        exact ⟨nq, e6 _ _ (by rw [upd_ne nq]; exact g5), fresh_back ex hq⟩
  · rintro σ' H4 ⟨qs, z5, rfl, ex, gs, hql, gpp, hqs⟩
    rw [List.length_map, List.length_cons, List.length_replicate] at hql
    exact s_ret (v := .ref pp) (ev_var rfl) fun H5 e5 => k pp qs H5 hpp (ex.trans e5) (by omega) (fun j q h => (hqs j q h).2.2) ⟨e5 _ _ gpp, fun j q h => e5 _ _ (hqs j q h).2.1⟩
theorem ev_all {σ : L2.St} {H : Hp} {te : TE} {bs : List Bool} {b : Bool} (h : EvS K te σ H (bs.map V.bl)) (hb : bs.all id = b) : Ev (tCB (rAll K) (tCons te tNil)) σ H (.bl b) := fun H1 e Q q => h H1 e _ fun p H2 e2 hp => ⟨p, bs, rfl, hp, by rw [hb]; exact q H2 e2⟩
/-! ### codings -/
structure Cd where
  (raw : Bool) (num : Nat)
def kstr (r : Bool) : Str := if r then "raw" else "rice"
def CdAt (H : Hp) (q : Addr) (c : Cd) : Prop := H q = some (.tup [.str (kstr c.raw), .int (c.num : Int)])
def CdsAt (K : PySem.W.Frag) (H : Hp) (tc : Addr) (qs : List Addr) (cds : List Cd) : Prop := SqT K H tc (qs.map V.ref) ∧ qs.length = cds.length ∧ ∀ (i : Nat) q c, qs[i]? = some q → cds[i]? = some c → CdAt H q c
theorem CdsAt.ex {H H1 : Hp} {tc : Addr} {qs : List Addr} {cds : List Cd} (e : Ex H H1) (h : CdsAt K H tc qs cds) : CdsAt K H1 tc qs cds := ⟨ex_t e h.1, h.2.1, fun i q c a b => e _ _ (h.2.2 i q c a b)⟩
def fitR (wd : Nat) (r : Int) : Bool := if wd = 0 then decide (r = 0) else decide (-((2 ^ (wd - 1) : Nat) : Int) ≤ r) && decide (r < ((2 ^ (wd - 1) : Nat) : Int))
theorem ev_strq {σ : L2.St} {H : Hp} {te : TE} {r : Bool} (z : Str) (b : Bool) (h : Ev te σ H (.str (kstr r))) (hb : decide (V.str (kstr r) = V.str z) = b) : EvT (tTest (tOp rEq te (tC (.str z)))) σ H b := et_test (Ev.is (ev_eq h ev_c rfl) (congrArg V.bl hb))
theorem q_asg2T {σ : L2.St} {H : Hp} {te : TE} {i j : Nat} {t : Addr} {x y : V} {D : Ends} {tz : TS} (h : Ev te σ H (.ref t)) (hT : H t = some (.tup [x, y])) (k : ∀ H1, Ex H H1 → tz D ((σ.set i (some x)).set j (some y)) H1) :
    tSeq (tAsg te (gTup K 2 (gCons (gName i) (gCons (gName j) gNil)))) tz D σ H := h H (Ex.refl H) _ fun H1 e1 => ⟨t, [x, y], rfl, st_of (e1 _ _ hT), rfl, x, [y], rfl, y, [], rfl, rfl, k H1 e1⟩
/-- over zip of a tuple and a list -/
theorem el_lcZM {σ : L2.St} {H : Hp} {t1 t2 te : TE} {xs ys : List V} {vs : List Nat} {j1 j2 : Nat} (zs : List V) (h1 : EvP K t1 σ H xs) (h2 : EvS K t2 σ H ys) (hz1 : zs.length = xs.length) (hz2 : zs.length = ys.length) (hb : zs.length ≤ 50000)
    (hw : ∀ x y, wipe (((wipe σ vs).set j1 (some x)).set j2 (some y)) vs = wipe σ vs)
    (he : ∀ (i : Nat) (x y : V) H1, Ex H H1 → xs[i]? = some x → ys[i]? = some y → ∃ z, zs[i]? = some z ∧ Ev te (((wipe σ vs).set j1 (some x)).set j2 (some y)) H1 z) :
    EvL (tLc (iZipM K (tCons t1 (tCons t2 tNil))) (gTup K 2 (gCons (gName j1) (gCons (gName j2) gNil))) tYes te vs) σ H zs := fun H0 e Q q =>
  h1 H0 e _ fun p H1 e1 hp => h2 H1 (e.trans e1) _ fun r H2 e2 hr => ⟨p, r, xs, ys, rfl, ex_t e2 hp, hr, fun D hD =>
    ⟨fun i m H' => m = zs.length - i ∧ i ≤ zs.length ∧ Ex H2 H' ∧ H' D = some (.lst (zs.take i)), ⟨zs.length, rfl, Nat.zero_le _, Ex.new hD, upd_same⟩, by
      rintro i m H' ⟨rfl, hi, ex, hd⟩
      have qx : SqT K H' p xs := ex_t (e2.trans ex) hp
      have qy : SqL K H' r ys := ex_l ex hr
      by_cases hlt : i < zs.length
      · have hx : xs[i]? = some xs[i] := List.getElem?_eq_getElem (by omega)
        have hy : ys[i]? = some ys[i] := List.getElem?_eq_getElem (by omega)
        refine .inr ⟨⟨xs, ys, _, _, qx, qy, hx, hy⟩, fun H3 => i + 1 ≤ zs.length ∧ Ex H2 H3 ∧ H3 D = some (.lst (zs.take (i + 1))), fun H3 h3 => ⟨zs.length - (i + 1), by omega, rfl, h3⟩, fun v H3 hv => ?_⟩
        obtain ⟨T, x, y, rfl, hT, rfl, f1, f2⟩ := hv
        have ex3 : Ex H' (upd H' T (.tup [x, y])) := Ex.new hT
        obtain ⟨z, hz1, hz2⟩ := he i x y (upd H' T (.tup [x, y])) ((((e.trans e1).trans e2).trans ex).trans ex3) (f1 _ qx) (f2 _ qy)
        refine ⟨T, [x, y], rfl, st_of upd_same, rfl, x, [y], rfl, y, [], rfl, rfl, hw x y, ?_⟩
        refine hz2 _ (Ex.refl _) _ fun H4 e4 => ⟨zs.take i, e4 _ _ (ex3 _ _ hd), sz_lt (by rw [List.length_take]; omega), hlt, ?_, ?_⟩
        · exact Ex.mut ((ex.trans ex3).trans e4) hD
        · rw [upd_same, take_snoc hz1]
      · have ei : i = zs.length := by omega
        refine .inl ⟨⟨xs, ys, qx, qy, by omega, by omega, by omega⟩, ?_⟩
        rw [ei, List.take_length] at hd
        exact q D H' (fresh_back (e1.trans e2) hD) ((e1.trans e2).trans ex) hd⟩⟩
theorem ev_lenT {σ : L2.St} {H : Hp} {te : TE} {xs : List V} (h : EvP K te σ H xs) : Ev (tCB (rLenS K) (tCons te tNil)) σ H (.int (xs.length : Int)) := fun H1 e Q q => h H1 e _ fun p H2 e2 hp => ⟨p, xs, rfl, .inr hp, q H2 e2⟩
theorem q_asg3T {σ : L2.St} {H : Hp} {te : TE} {i j l : Nat} {t : Addr} {x y z : V} {D : Ends} {tz : TS} (h : Ev te σ H (.ref t)) (hT : H t = some (.tup [x, y, z])) (k : ∀ H1, Ex H H1 → tz D (((σ.set i (some x)).set j (some y)).set l (some z)) H1) :
    tSeq (tAsg te (gTup K 3 (gCons (gName i) (gCons (gName j) (gCons (gName l) gNil))))) tz D σ H := h H (Ex.refl H) _ fun H1 e1 => ⟨t, [x, y, z], rfl, st_of (e1 _ _ hT), rfl, x, [y, z], rfl, y, [z], rfl, z, [], rfl, rfl, k H1 e1⟩

def cdOk (m : Nat) (c : Cd) : Prop := c.num ≤ 31 ∧ (c.raw = false → c.num < 15 + 16 * m)
/-! ### the bits of a plan -/
def clenN (k : Nat) (r : Int) : Nat := (foldI r).toNat / 2 ^ k + 1 + k
def pbits (m : Nat) (c : Cd) (part : List Int) : Nat := 4 + m + if c.raw then 5 + c.num * part.length else (part.map (clenN c.num)).sum
def rbits (m : Nat) (cds : List Cd) (rs : List Int) (o w : Nat) : Nat → Nat
  | 0 => 6
  | i + 1 => rbits m cds rs o w i + pbits m (cds.getD i ⟨false, 0⟩) (partL rs o w i)
theorem walk_zipM {a b : Addr} {xs ys : List V} {n : Nat} (h1 : xs.length = n) (h2 : ys.length = n) : Walk (ItM K a b) n (fun H => SqT K H a xs ∧ SqL K H b ys) (YPair (fun i => xs[i]?) (fun i => ys[i]?)) where
  goes := fun i H hi g => ⟨xs, ys, xs[i]'(by omega), ys[i]'(by omega), g.1, g.2, List.getElem?_eq_getElem _, List.getElem?_eq_getElem _⟩
  stops := fun H g => ⟨xs, ys, g.1, g.2, by omega, by omega, .inl h1.symm⟩
  yields := fun i H x H' hi g ⟨T, x, y, e1, e2, e3, f1, f2⟩ => ⟨T, x, y, e1, e2, e3, f1 _ g.1, f2 _ g.2⟩
theorem q_zipC {σ : L2.St} {H : Hp} {t1 : TE} {tA : TA} {a : Addr} {vs dvs : List V} {sp : Sp} {E : XK} {g : TG} {tu tz : TS} {D : Ends} (h1 : Ev t1 σ H (.ref a)) (h2 : EvA tA σ H vs) (k : ∀ H1, Ex H H1 → sp (vs ++ dvs) H1 (fun y H2 => tSeq (tFor (iZipM K (tCons (tC (.ref a)) (tCons (tC y) tNil))) g tu) tz D σ H2) E) :
    tSeq (tFor (iZipM K (tCons t1 (tCons (tCall sp dvs E tA) tNil))) g tu) tz D σ H := h1 H (Ex.refl H) _ fun H1 e1 => h2 H1 e1 _ fun H2 e2 => k H2 (e1.trans e2)
theorem q_forZM {σ : L2.St} {H : Hp} {a b : Addr} {xs ys : List V} {n : Nat} {j1 j2 : Nat} {tu tz : TS} {D : Ends} (hx : SqT K H a xs) (hy : SqL K H b ys) (h1 : xs.length = n) (h2 : ys.length = n) (Pv : Nat → L2.St → Hp → Prop) (h0 : Pv 0 σ H) (hG : ∀ i σ' H', i ≤ n → Pv i σ' H' → SqT K H' a xs ∧ SqL K H' b ys)
    (hs : ∀ i σ' H' x y, xs[i]? = some x → ys[i]? = some y → Pv i σ' H' → ∀ H1, Ex H' H1 → tu { nx := Pv (i + 1), rt := D.rt, bk := tz D, ct := Pv (i + 1) } ((σ'.set j1 (some x)).set j2 (some y)) H1) (hd : ∀ σ' H', Pv n σ' H' → tz D σ' H') :
    tSeq (tFor (iZipM K (tCons (tC (.ref a)) (tCons (tC (.ref b)) tNil))) (gTup K 2 (gCons (gName j1) (gCons (gName j2) gNil))) tu) tz D σ H :=
  ⟨a, b, xs, ys, rfl, hx, hy, for_it (D := { D with nx := tz D }) (walk_zipM h1 h2) Pv h0 hG (fun i x σ' H1 H2 hi p y => by
    obtain ⟨T, u, v, rfl, hT, rfl, g1, g2⟩ := y
    exact ⟨T, [u, v], rfl, st_of upd_same, rfl, u, [v], rfl, v, [], rfl, rfl, hs i σ' H1 u v g1 g2 p _ (Ex.new hT)⟩) hd⟩
def sp_cw : Sp := fun vs H Q _ => ∃ m : Nat, vs = [.int (m : Int)] ∧ RetV (.int ((4 + m : Nat) : Int)) H Q
theorem ok_coding_width (T : TX K mg) : FnOk P w K mg base CX0 1 T.a_coding_width T.d_coding_width ["method"] sp_cw := by
  refine T.F_coding_width.ok sc_coding_width (fun vs H Q E h => by obtain ⟨m, rfl, _⟩ := h; rfl) (fun cdv A outer s0 H vs Q E hr h => ?_)
  obtain ⟨m, rfl, k⟩ := h
  refine ⟨_, (pss_one (ps_ret (pe_op op_add pe_int (pv 0)))), ?_⟩
  exact s_ret (Ev.is (ev_I0 ev_c (ev_var rfl)) (congrArg V.int (by omega))) fun H1 e1 => k H1 e1
theorem ev_cw {σ : L2.St} {H : Hp} {te : TE} {E : XK} {m : Nat} (h : Ev te σ H (.int (m : Int))) : Ev (tCall sp_cw [] E (tCons te tNil)) σ H (.int ((4 + m : Nat) : Int)) := ev_call (ea_cons h ea_nil) fun H1 e Q q _ => ⟨m, rfl, q⟩
def sp_pbits : Sp := fun vs H Q _ => ∃ (m : Nat) (q p : Addr) (c : Cd) (part : List Int), vs = [.int (m : Int), .ref q, .ref p] ∧ CdAt H q c ∧ H p = some (.lst (part.map V.int)) ∧ c.num ≤ 1000 ∧ part.length ≤ 40000 ∧ RetV (.int ((pbits m c part : Nat) : Int)) H Q
theorem sum_nat (f : Int → Nat) : ∀ l : List Int, (l.map fun r => ((f r : Nat) : Int)).sum = (((l.map f).sum : Nat) : Int)
  | [] => rfl
  | a :: r => by rw [List.map_cons, List.sum_cons, sum_nat f r, List.map_cons, List.sum_cons, Int.natCast_add]

theorem ok_part_bits (T : TX K mg) : FnOk P w K mg base CX0 3 T.a_part_bits T.d_part_bits ["method", "coding", "part"] sp_pbits := by
  refine T.F_part_bits.ok sc_part_bits (fun vs H Q E h => by obtain ⟨m, q, p, c, part, rfl, _⟩ := h; rfl) (fun cdv A outer s0 H vs Q E hr h => ?_)
  obtain ⟨m, q, p, ⟨raw, num⟩, part, rfl, hq, hp, hn, hl, k⟩ := h
  have hn : num ≤ 1000 := hn
  refine ⟨_, (pss_cons (ps_asg (pv 1) (pg_tup rfl (pgs_cons (pg_name (i := 3) sc_part_bits.nd rfl (Or.inl rfl)) (pgs_cons (pg_name (i := 4) sc_part_bits.nd rfl (Or.inr rfl)) pgs_nil))))
      (pss_cons (ps_if (pt_cmpR op_eq (pv 3) pe_str (nomark _)) (pss_one (ps_ret (pe_op op_add (pe_op op_add (pe_call (ok_coding_width T) (hr.mono (by decide)) (by rfl) T.g_coding_width T.F_coding_width.kp T.b_coding_width .nil pass0 (pa_cons (pv 0) pa_nil)) pe_int) (pe_op op_mul (pv 4) (pe_callB (r := rLenS K) call_len_seq (by rfl) T.m_len PySem.boot_len (pa_cons (pv 2) pa_nil)))))) pss_nil)
      (pss_one (ps_ret (pe_op op_add (pe_call (ok_coding_width T) (hr.mono (by decide)) (by rfl) T.g_coding_width T.F_coding_width.kp T.b_coding_width .nil pass0 (pa_cons (pv 0) pa_nil)) (pe_callB (r := rSum K) (cr_sum rfl) (by rfl) T.m_sum PyProof.Rows.boot_sum (pa_cons (pe_lc (own := [("residual", 5)]) (g := gName 5) (tt := tYes) rfl sc_part_bits.nd (pi_list (pv 2)) (blkOk_by (N := ["method", "coding", "part", "kind", "number", "residual"]) (sc := defScope s_part_bits) (by decide +kernel)) (fun _ _ _ _ _ => pg_name (i := 5) sc_part_bits.nd rfl (Or.inl rfl)) (fun _ _ _ _ _ => pts_nil) (fun _ _ _ _ _ => (pe_call (ok_code_length T) (hr.mono (by decide)) (by rfl) T.g_code_length T.F_code_length.kp T.b_code_length .nil pass0 (pa_cons (pv 4) (pa_cons (pv 5) pa_nil))))) pa_nil))))))), ?_⟩
  refine q_asg2T (ev_var rfl) hq fun H1 e1 => ?_
  cases raw with
  | true =>
    refine q_when (b := true) (ev_strq "raw" true (ev_var rfl) (show decide (V.str (kstr true) = V.str "raw") = true by decide)) (fun _ H2 e2 => ?_) (fun hb => by cases hb)
    have e12 := e1.trans e2
    refine s_ret (v := .int ((pbits m ⟨true, num⟩ part : Nat) : Int)) (Ev.is (ev_I0 (ev_I0 (ev_cw (ev_var rfl)) ev_c) (ev_I (ev_var rfl) (Ev.is (ev_lenS (Ev.s (ev_var rfl) (sq_of (e12 _ _ hp)))) (by rw [List.length_map])) (show CMul (num : Int) (part.length : Int) from .inl (by omega)))) (congrArg V.int ?_)) fun H3 e3 => k H3 (e12.trans e3)
    show ((4 + m : Nat) : Int) + 5 + (num : Int) * (part.length : Int) = ((4 + m + (5 + num * part.length) : Nat) : Int)
    rw [← Int.natCast_mul]
    omega
  | false =>
    refine q_when (b := false) (ev_strq "raw" false (ev_var rfl) (show decide (V.str (kstr false) = V.str "raw") = false by decide)) (fun hb => by cases hb) fun _ H2 e2 => ?_
    have e12 := e1.trans e2
    refine s_ret (v := .int ((pbits m ⟨false, num⟩ part : Nat) : Int)) (Ev.is (ev_I0 (ev_cw (ev_var rfl)) (ev_sum (ns := part.map fun r => ((clenN num r : Nat) : Int)) (EvR.s (EvL.r (EvL.is (xs := part.map fun r => V.int ((clenN num r : Nat) : Int)) (el_lcS _ (Ev.s (ev_var rfl) (sq_of (e12 _ _ hp))) (by rw [List.length_map, List.length_map]) (by rw [List.length_map]; omega) (fun _ => rfl) fun i x H3 e3 hx => ?_) (by rw [List.map_map]; rfl)))))) (congrArg V.int ?_)) fun H3 e3 => k H3 (e12.trans e3)
    · obtain ⟨r, hr, hi, rfl⟩ := int_at hx
      exact ⟨_, by rw [List.getElem?_map, hr]; rfl, ev_clen (u := (foldI r).toNat) (ev_var rfl) (ev_var rfl) (by have := foldI_nn r; omega)⟩
    · rw [sum_nat]
      show ((4 + m : Nat) : Int) + _ = ((4 + m + (part.map (clenN num)).sum : Nat) : Int)
      omega
def sp_rbits (K : PySem.W.Frag) : Sp := fun vs H Q _ => ∃ (t tc r : Addr) (qs : List Addr) (cds : List Cd) (m n o wd : Nat) (rs : List Int), vs = [.ref t, .ref r, .int (o : Int)] ∧ H t = some (.tup [.int (m : Int), .int (n : Int), .ref tc]) ∧ CdsAt K H tc qs cds ∧ H r = some (.lst (rs.map V.int)) ∧ n ≤ 16 ∧ rs.length ≤ 40000 ∧ (∀ c ∈ cds, c.num ≤ 1000) ∧ cds.length = 2 ^ n ∧ rs.length + o = wd * 2 ^ n ∧ o ≤ wd ∧ RetV (.int ((rbits m cds rs o wd cds.length : Nat) : Int)) H Q

theorem ok_residual_bits (T : TX K mg) : FnOk P w K mg base CX0 4 T.a_residual_bits T.d_residual_bits ["plan", "residuals", "order"] (sp_rbits K) := by
  refine T.F_residual_bits.ok sc_residual_bits (fun vs H Q E h => by obtain ⟨t, tc, r, qs, cds, m, n, o, wd, rs, rfl, _⟩ := h; rfl) (fun cdv A outer s0 H vs Q E hr h => ?_)
  obtain ⟨t, tc, r, qs, cds, m, n, o, wd, rs, rfl, ht, hc, hr0, hn, hrl, hcn, hcl, hl, how, k⟩ := h
  refine ⟨_, (pss_cons (ps_asg (pv 0) (pg_tup rfl (pgs_cons (pg_name (i := 3) sc_residual_bits.nd rfl (Or.inl rfl)) (pgs_cons (pg_name (i := 4) sc_residual_bits.nd rfl (Or.inl rfl)) (pgs_cons (pg_name (i := 5) sc_residual_bits.nd rfl (Or.inl rfl)) pgs_nil)))))
      (pss_cons (ps_set (i := 6) sc_residual_bits.nd rfl (Or.inl rfl) pe_int)
      (pss_cons (ps_for PassesOwn.never rfl (pi_zipM (by rfl) T.m_zip (pa_cons (pv 5) (pa_cons (pe_call (ok_parts T) (hr.mono (by decide)) (by rfl) T.g_parts T.F_parts.kp T.b_parts .nil pass0 (pa_cons (pv 1) (pa_cons (pv 2) (pa_cons (pv 4) pa_nil)))) pa_nil))) (pg_tup rfl (pgs_cons (pg_name (i := 7) sc_residual_bits.nd rfl (Or.inl rfl)) (pgs_cons (pg_name (i := 8) sc_residual_bits.nd rfl (Or.inl rfl)) pgs_nil))) (pss_one (ps_aug (i := 6) sc_residual_bits.nd rfl (Or.inl rfl) (pe_call (ok_part_bits T) (hr.mono (by decide)) (by rfl) T.g_part_bits T.F_part_bits.kp T.b_part_bits .nil pass0 (pa_cons (pv 3) (pa_cons (pv 7) (pa_cons (pv 8) pa_nil)))) ip_add)))
      (pss_one (ps_ret (pv 6)))))), ?_⟩
  refine q_asg3T (ev_var rfl) ht fun H1 e1 => ?_
  refine q_asg (v := .int 6) ev_c fun H2 e2 => ?_
  have e12 := e1.trans e2
  refine q_zipC (a := tc) (vs := [.ref r, .int (o : Int), .int (n : Int)]) (ev_var rfl) (ea_cons (ev_var rfl) (ea_cons (ev_var rfl) (ea_cons (ev_var rfl) ea_nil))) fun H3 e3 => ⟨r, rs, o, wd, n, rfl, (e12.trans e3) _ _ hr0, hn, hl, how, by omega, fun pp ps H4 hpp e4 hpl _ hP => ?_⟩
  have e14 := e12.trans (e3.trans e4)
  have hc4 := hc.ex e14
  refine q_forZM hc4.1 (sq_of hP.1) (n := cds.length) (by rw [List.length_map]; exact hc4.2.1) (by rw [List.length_map]; omega) (fun i σ' H' => ∃ z7 z8 : Option V, σ' = [some (.ref t), some (.ref r), some (.int (o : Int)), some (.int (m : Int)), some (.int (n : Int)), some (.ref tc), some (.int ((rbits m cds rs o wd i : Nat) : Int)), z7, z8] ∧ Ex H4 H') ⟨none, none, rfl, Ex.refl _⟩ (fun i σ' H' _ h => by obtain ⟨_, _, _, ex⟩ := h; exact ⟨ex_t ex hc4.1, ex_l ex (sq_of hP.1)⟩) ?_ ?_
  · rintro i σ' H5 x y hx hy ⟨z7, z8, rfl, ex⟩ H6 e6
    rw [List.getElem?_map] at hx hy
    obtain ⟨qa, hqa, rfl⟩ := Option.map_eq_some_iff.mp hx
    obtain ⟨pa, hpa, rfl⟩ := Option.map_eq_some_iff.mp hy
    have hc42 := hc4.2.1
    have hi : i < cds.length := by have := (List.getElem?_eq_some_iff.mp hqa).1; omega
    have hci : cds[i]? = some cds[i] := List.getElem?_eq_getElem hi
    have hgd : cds.getD i ⟨false, 0⟩ = cds[i] := by rw [List.getD_eq_getElem?_getD, hci]; rfl
    have hpl2 : (partL rs o wd i).length ≤ 40000 := by unfold partL; rw [List.length_take, List.length_drop]; omega
    have ex6 := ex.trans e6
    refine s_augR (a := ((rbits m cds rs o wd i : Nat) : Int)) (b := ((pbits m (cds.getD i ⟨false, 0⟩) (partL rs o wd i) : Nat) : Int)) rfl (ev_call (ea_cons (ev_var rfl) (ea_cons (ev_var rfl) (ea_cons (ev_var rfl) ea_nil))) fun H7 e7 Q2 q2 _ => ⟨m, qa, pa, _, _, rfl, (ex6.trans e7) _ _ (hc4.2.2 i qa _ hqa (by rw [hci, hgd])), (ex6.trans e7) _ _ (hP.2 i pa hpa), by rw [hgd]; exact hcn _ (List.getElem_mem hi), hpl2, q2⟩) fun H7 e7 => ⟨some (.ref qa), some (.ref pa), ?_, ex6.trans e7⟩
    show [_, _, _, _, _, _, some (V.int (((rbits m cds rs o wd i : Nat) : Int) + ((pbits m (cds.getD i ⟨false, 0⟩) (partL rs o wd i) : Nat) : Int))), _, _] = _
    rw [← Int.natCast_add]
    rfl
  · rintro σ' H5 ⟨z7, z8, rfl, ex⟩
    exact s_ret (ev_var rfl) fun H6 e6 => k H6 ((e14.trans ex).trans e6)

def sp_wcode (C : Addr) : Sp := fun vs H Q _ => ∃ (a L : Addr) (ms : List Bool) (k u : Nat) (n : Int), vs = [.ref a, .int (k : Int), .int n] ∧ WrAt C H a L ms ∧ k ≤ 64 ∧ foldI n = (u : Int) ∧ u / 2 ^ k ≤ 20000 ∧ ms.length ≤ 250000 ∧ ∀ H', Fr a L H H' → WrAt C H' a L (ms ++ codeB k u) → Q .non H'
theorem ok_write_code (T : TX K mg) : FnOk P w K mg base CX0 3 T.a_write_code T.d_write_code ["writer", "k", "n"] (sp_wcode T.C_BitWriter) := by
  refine T.F_write_code.ok sc_write_code (fun vs H Q E h => by obtain ⟨a, L, ms, k, u, n, rfl, _⟩ := h; rfl) (fun cdv A outer s H vs Q E hr h => ?_)
  obtain ⟨a, L, ms, k, u, n, rfl, hW, hk, hu, hq, hl, q⟩ := h
  refine ⟨_, (pss_cons (ps_set (i := 3) sc_write_code.nd rfl (Or.inl rfl) (pe_call (ok_fold T) (hr.mono (by decide)) (by rfl) T.g_fold T.F_fold.kp T.b_fold .nil pass0 (pa_cons (pv 2) pa_nil)))
      (pss_cons (ps_expr (pe_meth (pv 0) T.cl_BitWriter T.me_BitWriter_write_unary (ok_BitWriter_write_unary T) (hr.mono (by decide)) T.b_BitWriter_write_unary .nil pass0 (pa_cons (pe_op op_shr (pv 3) (pv 1)) pa_nil)))
      (pss_one (ps_expr (pe_meth (pv 0) T.cl_BitWriter T.me_BitWriter_write (ok_BitWriter_write T) (hr.mono (by decide)) T.b_BitWriter_write .nil pass0 (pa_cons (pv 1) (pa_cons (pe_op op_and (pv 3) (pe_op op_sub (pe_op op_shl pe_int (pv 1)) pe_int)) pa_nil))))))), ?_⟩
  refine q_asg (v := .int (u : Int)) (Ev.is (ev_fold (ev_var rfl)) (congrArg V.int hu)) fun H1 e1 => ?_
  obtain ⟨dx, ws, hd, nn, ha, _⟩ := (hW.ex e1).len
  refine q_dropM (vs := [.int ((u / 2 ^ k : Nat) : Int)]) (ev_var rfl) ha rfl (ea_cons (Ev.is (ev_I (ev_var rfl) (ev_var rfl) (by show (0 : Int) ≤ _; omega)) (congrArg V.int (by rw [Int.toNat_natCast, pow_cast, ← Int.natCast_ediv]))) ea_nil) fun H2 e2 => ⟨a, L, ms, u / 2 ^ k, rfl, hW.ex (e1.trans e2), by omega, fun H3 hF3 hW3 => ?_⟩
  obtain ⟨dx3, ws3, hd3, nn3, ha3, _⟩ := hW3.len
  have hl3 : (ms ++ (List.replicate (u / 2 ^ k) false ++ [true])).length ≤ 280000 := by
    rw [List.length_append, List.length_append, List.length_replicate]
    show _ + (_ + 1) ≤ _
    omega
  refine s_dropM (vs := [.int (k : Int), .int ((u % 2 ^ k : Nat) : Int)]) (ev_var rfl) ha3 rfl (ea_cons (ev_var rfl) (ea_cons (Ev.is (ev_I0 (ev_var rfl) (ev_I0 (ev_I ev_c (ev_var rfl) (show CPow 1 (k : Int) from ⟨by omega, by omega, by decide⟩)) ev_c)) (congrArg V.int (by rw [Int.toNat_natCast, Int.one_mul, bitAnd_maskZ, pow_cast, ← Int.natCast_emod]))) ea_nil)) fun H4 e4 => ⟨a, L, _, k, ((u % 2 ^ k : Nat) : Int), rfl, hW3.ex e4, by omega, by omega, fun H5 hF5 hW5 => ?_⟩
  rw [self_mod (Nat.mod_lt _ (Nat.two_pow_pos k)), List.append_assoc, List.append_assoc] at hW5
  exact q H5 ((((Fr.ex (e1.trans e2)).trans hF3).trans (Fr.ex e4)).trans hF5) hW5

def sp_rcodeN (C : Addr) : Sp := fun vs H Q _ => ∃ (a d : Addr) (ds : List Nat) (pos k z : Nat), vs = [.ref a, .int (k : Int)] ∧ RdAt C H a d pos ∧ H d = some (.lst ((cs ds).map V.int)) ∧ (∀ b ∈ ds, b < 256) ∧ ds.length ≤ 100000 ∧ k ≤ 64 ∧
  zrun (ds.flatMap bits8) pos z ∧ pos + z + 1 + k ≤ 8 * ds.length ∧ ∀ H', FrA a H H' → RdAt C H' a d (pos + z + 1 + k) → Q (.int (unfoldI ((z * 2 ^ k + valL (((ds.flatMap bits8).drop (pos + z + 1)).take k) : Nat) : Int))) H'
theorem ok_read_code (T : TX K mg) : FnOk P w K mg base CX0 4 T.a_read_code T.d_read_code ["reader", "k"] (sp_rcodeN T.C_BitReader) := by
  refine T.F_read_code.ok sc_read_code (fun vs H Q E h => by obtain ⟨a, d, ds, pos, k, z, rfl, _⟩ := h; rfl) (fun cdv A outer s H vs Q E hr h => ?_)
  obtain ⟨a, d, ds, pos, k, z, rfl, hR, hd, hds, hl, hk, hz, hp, q⟩ := h
  obtain ⟨dx, ha⟩ := id hR
  refine ⟨_, (pss_cons (ps_set (i := 2) sc_read_code.nd rfl (Or.inl rfl) (pe_meth0 (pv 0) T.cl_BitReader T.me_BitReader_read_unary (ok_BitReader_read_unary T) (hr.mono (by decide)) T.b_BitReader_read_unary .nil pass0))
      (pss_one (ps_ret (pe_call (ok_unfold T) (hr.mono (by decide)) (by rfl) T.g_unfold T.F_unfold.kp T.b_unfold .nil pass0 (pa_cons (pe_op op_or (pe_op op_shl (pv 2) (pv 1)) (pe_meth (pv 0) T.cl_BitReader T.me_BitReader_read (ok_BitReader_read T) (hr.mono (by decide)) T.b_BitReader_read .nil pass0 (pa_cons (pv 1) pa_nil))) pa_nil))))), ?_⟩
  refine q_asgM (sp := sp_readUN T.C_BitReader) (m := "read_unary") (dvs := []) (vs := []) (ev_var rfl) ha rfl ea_nil fun H1 e1 => ⟨a, d, ds, pos, z, rfl, hR.ex e1, e1 _ _ hd, hds, hl, hz, fun H2 hF hR2 => ?_⟩
  have hF2 := (FrA.ex e1).trans hF
  have hd2 := hF2 _ _ (hR.ne hd) hd
  have hz8 : pos + z < 8 * ds.length := by
    have := (List.getElem?_eq_some_iff.mp hz.2).1
    rwa [bits_flat_len] at this
  obtain ⟨dx2, ha2⟩ := id hR2
  refine (ev_I (ev_var rfl) (ev_var rfl) (show CPow (z : Int) (k : Int) from ⟨by omega, by omega, by rw [Int.natAbs_natCast]; omega⟩) : Ev (tOp (rI CPow fun i j => .int (i * 2 ^ j.toNat)) (tVar 2) (tVar 1)) [some (.ref a), some (.int (k : Int)), some (.int (z : Int))] H2 _) H2 (Ex.refl H2) _ fun H3 e3 => ?_
  refine mth (sp := sp_readN T.C_BitReader) (m := "read") (dvs := []) (vs := [.int (k : Int)]) (ev_var rfl) (e3 _ _ ha2) rfl (ea_cons (ev_var rfl) ea_nil) fun H4 e4 => ⟨a, d, ds, pos + z + 1, k, rfl, hR2.ex (e3.trans e4), (e3.trans e4) _ _ hd2, hds, hk, hl, hp, fun H5 hF5 hR5 => ?_⟩
  have q5 := q
  have hvl : valL (((ds.flatMap bits8).drop (pos + z + 1)).take k) < 2 ^ k := by
    have h1 := valL_lt (((ds.flatMap bits8).drop (pos + z + 1)).take k)
    rwa [List.length_take, List.length_drop, bits_flat_len, Nat.min_eq_left (by omega)] at h1
  generalize valL (((ds.flatMap bits8).drop (pos + z + 1)).take k) = v at *
  refine ⟨_, _, rfl, rfl, _, rfl, fun H6 e6 => ?_⟩
  have e : Builtin.bitOr ((z : Int) * 2 ^ ((k : Int)).toNat) (v : Int) = ((z * 2 ^ k + v : Nat) : Int) := by
    rw [Int.toNat_natCast, _root_.Bits.bitOr_join' (by omega) (by rw [pow_cast]; omega) (by omega), pow_cast, Int.natCast_add, Int.natCast_mul]
    omega
  show Q (.int (unfoldI (Builtin.bitOr ((z : Int) * 2 ^ ((k : Int)).toNat) (v : Int)))) H6
  rw [e]
  exact q5 H6 (((hF2.trans (FrA.ex (e3.trans e4))).trans hF5).trans (FrA.ex e6)) (hR5.ex e6)
/-- a code in its place is read -/
theorem code_at {B pre post : List Bool} {k u : Nat} (h : B = pre ++ (codeB k u ++ post)) : zrun B pre.length (u / 2 ^ k) ∧ valL ((B.drop (pre.length + u / 2 ^ k + 1)).take k) = u % 2 ^ k ∧ pre.length + u / 2 ^ k + 1 + k ≤ B.length := by
  have hl := codeB_len k u
  have h0 := Nat.zero_le (u / 2 ^ k)
  refine ⟨⟨fun i hi => ?_, ?_⟩, ?_, ?_⟩
  · rw [h, List.getElem?_append_right (by omega), List.getElem?_append_left (by omega), show pre.length + i - pre.length = i by omega]
    unfold codeB
    rw [List.getElem?_append_left (by rw [List.length_replicate]; omega), List.getElem?_replicate, if_pos hi]
  · rw [h, List.getElem?_append_right (by omega), List.getElem?_append_left (by omega), show pre.length + u / 2 ^ k - pre.length = u / 2 ^ k by omega]
    unfold codeB
    rw [List.getElem?_append_right (by rw [List.length_replicate]; omega), List.length_replicate, Nat.sub_self]
    rfl
  · have e : B = (pre ++ (List.replicate (u / 2 ^ k) false ++ [true])) ++ (bitsN k (u % 2 ^ k) ++ post) := by
      rw [h]
      unfold codeB
      simp only [List.append_assoc]
    have el : (pre ++ (List.replicate (u / 2 ^ k) false ++ [true])).length = pre.length + u / 2 ^ k + 1 := by
      rw [List.length_append, List.length_append, List.length_replicate]
      show _ + (_ + 1) = _
      omega
    rw [e, List.drop_left' el, List.take_left' (bitsN_len _ _), valL_bitsN, Nat.mod_mod]
  · rw [h, List.length_append, List.length_append, hl]
    omega
theorem unf_code (k u : Nat) : unfoldI ((u / 2 ^ k * 2 ^ k + u % 2 ^ k : Nat) : Int) = unfoldI (u : Int) := by
  rw [Nat.mul_comm, Nat.div_add_mod]

def EvX (te : TE) (σ : L2.St) (H : Hp) (S : V → Hp → Prop) : Prop := ∀ H1, Ex H H1 → ∀ Q : VK, (∀ v H2, Ex H1 H2 → S v H2 → Q v H2) → te σ H1 Q

/-! ### values of which something is told, one of them a tuple -/
theorem s_dropC {σ : L2.St} {H : Hp} {sp : Sp} {dvs vs : List V} {E : XK} {t : TA} {D : Ends} (h : EvA t σ H vs) (k : ∀ H1, Ex H H1 → sp (vs ++ dvs) H1 (fun _ H2 => D.nx σ H2) E) : tDrop (tCall sp dvs E t) D σ H := h H (Ex.refl H) _ fun H1 e => k H1 e

/-! ### bits in their place -/
def Has (B : List Bool) (pos : Nat) (bs : List Bool) : Prop := ∃ pre post, B = pre ++ (bs ++ post) ∧ pre.length = pos
theorem Has.l {B x y : List Bool} {pos : Nat} (h : Has B pos (x ++ y)) : Has B pos x := by
  obtain ⟨pre, post, e, h⟩ := h
  exact ⟨pre, y ++ post, by rw [e, List.append_assoc], h⟩
theorem Has.r {B x y : List Bool} {pos : Nat} (h : Has B pos (x ++ y)) : Has B (pos + x.length) y := by
  obtain ⟨pre, post, e, rfl⟩ := h
  exact ⟨pre ++ x, post, by rw [e]; simp only [List.append_assoc], by rw [List.length_append]⟩
theorem Has.len {B x : List Bool} {pos : Nat} (h : Has B pos x) : pos + x.length ≤ B.length := by
  obtain ⟨pre, post, e, rfl⟩ := h
  rw [e, List.length_append, List.length_append]
  omega
theorem Has.val {B : List Bool} {pos w v : Nat} (h : Has B pos (bitsN w v)) (hv : v < 2 ^ w) : valL ((B.drop pos).take w) = v := by
  obtain ⟨pre, post, e, rfl⟩ := h
  rw [e, List.drop_left, List.take_left' (bitsN_len w v), valL_bitsN, Nat.mod_eq_of_lt hv]
def RdD (C : Addr) (H : Hp) (a d : Addr) (ds : List Nat) (pos : Nat) : Prop := RdAt C H a d pos ∧ H d = some (.lst ((cs ds).map V.int)) ∧ (∀ b ∈ ds, b < 256) ∧ ds.length ≤ 100000
theorem RdD.ex {C a d : Addr} {H H1 : Hp} {ds : List Nat} {pos : Nat} (h : RdD C H a d ds pos) (e : Ex H H1) : RdD C H1 a d ds pos := ⟨h.1.ex e, e _ _ h.2.1, h.2.2⟩
theorem RdD.to {C a d : Addr} {H H1 : Hp} {ds : List Nat} {pos pos1 : Nat} (h : RdD C H a d ds pos) (hF : FrA a H H1) (hR : RdAt C H1 a d pos1) : RdD C H1 a d ds pos1 := ⟨hR, hF _ _ (h.1.ne h.2.1) h.2.1, h.2.2⟩
theorem RdD.neT {C a d : Addr} {H : Hp} {ds : List Nat} {pos : Nat} {p : Addr} {xs : List V} (h : RdD C H a d ds pos) (hp : H p = some (.tup xs)) : p ≠ a := by
  obtain ⟨⟨dx, ha⟩, _⟩ := h
  rintro rfl
  rw [ha] at hp
  cases hp
theorem RdD.mut {C a d : Addr} {H : Hp} {ds : List Nat} {pos : Nat} {l : Addr} {o : HO} (h : RdD C H a d ds pos) (h1 : l ≠ a) (h2 : l ≠ d) : RdD C (upd H l o) a d ds pos := by
  obtain ⟨⟨dx, ha⟩, hd, r⟩ := h
  exact ⟨⟨dx, by rw [upd_ne (Ne.symm h1)]; exact ha⟩, by rw [upd_ne (Ne.symm h2)]; exact hd, r⟩

theorem Has.code {B : List Bool} {pos k u : Nat} (h : Has B pos (codeB k u)) : zrun B pos (u / 2 ^ k) ∧ valL ((B.drop (pos + u / 2 ^ k + 1)).take k) = u % 2 ^ k ∧ pos + u / 2 ^ k + 1 + k ≤ B.length := by
  obtain ⟨pre, post, e, rfl⟩ := h
  exact code_at e

/-! ### the bits of a plan, one by one -/
def cdB (m : Nat) (c : Cd) : List Bool := if c.raw then List.replicate (4 + m) true ++ bitsN 5 c.num else bitsN (4 + m) c.num
def valB (c : Cd) (v : Int) : List Bool := if c.raw then bitsN c.num (v % 2 ^ c.num).toNat else codeB c.num (foldI v).toNat
def planB (m n : Nat) (cds : List Cd) (rs : List Int) (o w : Nat) : Nat → List Bool
  | 0 => bitsN 2 m ++ bitsN 4 n
  | i + 1 => planB m n cds rs o w i ++ (cdB m (cds.getD i ⟨false, 0⟩) ++ (partL rs o w i).flatMap (valB (cds.getD i ⟨false, 0⟩)))
theorem planB_succ {m n : Nat} {cds : List Cd} {rs : List Int} {o w i : Nat} : planB m n cds rs o w (i + 1) = planB m n cds rs o w i ++ (cdB m (cds.getD i ⟨false, 0⟩) ++ (partL rs o w i).flatMap (valB (cds.getD i ⟨false, 0⟩))) := rfl
def valW (c : Cd) (v : Int) : Prop := if c.raw then fitR c.num v = true else (foldI v).toNat / 2 ^ c.num ≤ 20000 ∧ foldI v ≤ 4294967294
theorem bitsN_ones (n : Nat) : bitsN n (2 ^ n - 1) = List.replicate n true := by
  refine List.eq_replicate_iff.mpr ⟨bitsN_len _ _, fun b hb => ?_⟩
  unfold bitsN at hb
  obtain ⟨i, hi, rfl⟩ := List.mem_map.mp hb
  rw [List.mem_range] at hi
  rw [Nat.testBit_two_pow_sub_one]
  exact decide_eq_true (by omega)
theorem cdB_len (m : Nat) (c : Cd) : (cdB m c).length = 4 + m + if c.raw then 5 else 0 := by
  unfold cdB
  split
  · rw [List.length_append, List.length_replicate, bitsN_len]
  · rw [bitsN_len]; rfl
theorem valB_len (c : Cd) (v : Int) : (valB c v).length = if c.raw then c.num else clenN c.num v := by
  unfold valB
  split
  · rw [bitsN_len]
  · rw [codeB_len]; rfl
theorem prt_len (m : Nat) (c : Cd) : ∀ l : List Int, (cdB m c).length + (l.flatMap (valB c)).length = pbits m c l
  | [] => by
    rw [List.flatMap_nil, cdB_len]
    unfold pbits
    split <;> simp
  | x :: l => by
    have ih := prt_len m c l
    rw [List.flatMap_cons, List.length_append, valB_len]
    unfold pbits at *
    split
    · rename_i h
      rw [if_pos h] at ih
      rw [List.length_cons, Nat.mul_succ]
      omega
    · rename_i h
      rw [if_neg h] at ih
      rw [List.map_cons, List.sum_cons]
      omega
theorem planB_len (m n : Nat) (cds : List Cd) (rs : List Int) (o w : Nat) : ∀ k, (planB m n cds rs o w k).length = rbits m cds rs o w k
  | 0 => by unfold planB rbits; rw [List.length_append, bitsN_len, bitsN_len]
  | k + 1 => by
    have ih := planB_len m n cds rs o w k
    have h := prt_len m (cds.getD k ⟨false, 0⟩) (partL rs o w k)
    unfold planB rbits
    rw [List.length_append, List.length_append]
    omega
theorem planB_pre (m n : Nat) (cds : List Cd) (rs : List Int) (o w : Nat) : ∀ j i, i ≤ j → ∃ r, planB m n cds rs o w j = planB m n cds rs o w i ++ r
  | 0, i, h => ⟨[], by rw [Nat.le_zero.mp h, List.append_nil]⟩
  | j + 1, i, h => by
    by_cases e : i = j + 1
    · exact ⟨[], by rw [e, List.append_nil]⟩
    · obtain ⟨r, hr⟩ := planB_pre m n cds rs o w j i (by omega)
      refine ⟨r ++ (cdB m (cds.getD j ⟨false, 0⟩) ++ (partL rs o w j).flatMap (valB (cds.getD j ⟨false, 0⟩))), ?_⟩
      rw [← List.append_assoc, ← hr]
      rfl
theorem planB_at {m n : Nat} {cds : List Cd} {rs : List Int} {o w i j : Nat} {B : List Bool} {pos : Nat} (h : Has B pos (planB m n cds rs o w j)) (hi : i < j) : Has B (pos + (planB m n cds rs o w i).length) (cdB m (cds.getD i ⟨false, 0⟩) ++ (partL rs o w i).flatMap (valB (cds.getD i ⟨false, 0⟩))) := by
  obtain ⟨r, hr⟩ := planB_pre m n cds rs o w j (i + 1) hi
  rw [hr] at h
  exact (h.l : Has B pos (planB m n cds rs o w i ++ _)).r
theorem CdAt.fr {C a L : Addr} {H H1 : Hp} {ms : List Bool} {q : Addr} {c : Cd} (h : CdAt H q c) (hW : WrAt C H a L ms) (hF : Fr a L H H1) : CdAt H1 q c := by
  obtain ⟨dx, ws, hd, nn, ha, hL, _⟩ := hW
  unfold CdAt at *
  refine hF q _ ?_ ?_ h
  · rintro rfl; rw [ha] at h; cases h
  · rintro rfl; rw [hL] at h; cases h
theorem WrAt.frT {C a L : Addr} {H H1 : Hp} {ms : List Bool} {q : Addr} {xs : List V} (hW : WrAt C H a L ms) (hF : Fr a L H H1) (h : H q = some (.tup xs)) : H1 q = some (.tup xs) := by
  obtain ⟨dx, ws, hd, nn, ha, hL, _⟩ := hW
  refine hF q _ ?_ ?_ h
  · rintro rfl; rw [ha] at h; cases h
  · rintro rfl; rw [hL] at h; cases h
theorem WrAt.neL {C a L : Addr} {H : Hp} {ms : List Bool} {q : Addr} {xs : List V} (hW : WrAt C H a L ms) (h : H q = some (.lst xs)) : q ≠ a := by
  obtain ⟨dx, ws, hd, nn, ha, hL, _⟩ := hW
  rintro rfl; rw [ha] at h; cases h

/-! ### residuals written -/
def sp_rmark : Sp := fun vs H Q _ => ∃ m : Nat, vs = [.int (m : Int)] ∧ m ≤ 1 ∧ RetV (.int ((2 ^ (4 + m) - 1 : Nat) : Int)) H Q
theorem ok_raw_mark (T : TX K mg) : FnOk P w K mg base CX0 2 T.a_raw_mark T.d_raw_mark ["method"] sp_rmark := by
  refine T.F_raw_mark.ok sc_raw_mark (fun vs H Q E h => by obtain ⟨m, rfl, _⟩ := h; rfl) (fun cdv A outer s0 H vs Q E hr h => ?_)
  obtain ⟨m, rfl, hm, k⟩ := h
  refine ⟨_, (pss_one (ps_ret (pe_op op_sub (pe_op op_shl pe_int (pe_call (ok_coding_width T) (hr.mono (by decide)) (by rfl) T.g_coding_width T.F_coding_width.kp T.b_coding_width .nil pass0 (pa_cons (pv 0) pa_nil))) pe_int))), ?_⟩
  have := Nat.two_pow_pos (4 + m)
  exact s_ret (Ev.is (ev_I0 (g := fun i j => .int (i - j)) (ev_I (j := ((4 + m : Nat) : Int)) ev_c (ev_cw (ev_var rfl)) (show CPow 1 ((4 + m : Nat) : Int) from ⟨by omega, by omega, by decide⟩)) ev_c) (congrArg V.int (by rw [Int.toNat_natCast, Int.one_mul, pow_cast]; omega))) fun H1 e1 => k H1 e1
theorem ev_rm {σ : L2.St} {H : Hp} {te : TE} {E : XK} {m : Nat} (h : Ev te σ H (.int (m : Int))) (hm : m ≤ 1) : Ev (tCall sp_rmark [] E (tCons te tNil)) σ H (.int ((2 ^ (4 + m) - 1 : Nat) : Int)) := ev_call (ea_cons h ea_nil) fun H1 e Q q _ => ⟨m, rfl, hm, q⟩
def sp_wcd (C : Addr) : Sp := fun vs H Q _ => ∃ (a L q : Addr) (ms : List Bool) (m : Nat) (c : Cd), vs = [.ref a, .int (m : Int), .ref q] ∧ WrAt C H a L ms ∧ CdAt H q c ∧ m ≤ 1 ∧ cdOk m c ∧ ms.length ≤ 250000 ∧ ∀ H', Fr a L H H' → WrAt C H' a L (ms ++ cdB m c) → Q .non H'
theorem ok_write_coding (T : TX K mg) : FnOk P w K mg base CX0 3 T.a_write_coding T.d_write_coding ["writer", "method", "coding"] (sp_wcd T.C_BitWriter) := by
  refine T.F_write_coding.ok sc_write_coding (fun vs H Q E h => by obtain ⟨a, L, q, ms, m, c, rfl, _⟩ := h; rfl) (fun cdv A outer s H vs Q E hr h => ?_)
  obtain ⟨a, L, q, ms, m, c, rfl, hW, hq, hm, hc, hl, k⟩ := h
  refine ⟨_, (pss_cons (ps_asg (pv 2) (pg_tup rfl (pgs_cons (pg_name (i := 3) sc_write_coding.nd rfl (Or.inl rfl)) (pgs_cons (pg_name (i := 4) sc_write_coding.nd rfl (Or.inl rfl)) pgs_nil))))
      (pss_one (ps_if (pt_cmpR op_eq (pv 3) pe_str (nomark _)) (pss_cons (ps_expr (pe_meth (pv 0) T.cl_BitWriter T.me_BitWriter_write (ok_BitWriter_write T) (hr.mono (by decide)) T.b_BitWriter_write .nil pass0 (pa_cons (pe_call (ok_coding_width T) (hr.mono (by decide)) (by rfl) T.g_coding_width T.F_coding_width.kp T.b_coding_width .nil pass0 (pa_cons (pv 1) pa_nil)) (pa_cons (pe_call (ok_raw_mark T) (hr.mono (by decide)) (by rfl) T.g_raw_mark T.F_raw_mark.kp T.b_raw_mark .nil pass0 (pa_cons (pv 1) pa_nil)) pa_nil))))
        (pss_one (ps_expr (pe_meth (pv 0) T.cl_BitWriter T.me_BitWriter_write (ok_BitWriter_write T) (hr.mono (by decide)) T.b_BitWriter_write .nil pass0 (pa_cons pe_int (pa_cons (pv 4) pa_nil)))))) (pss_one (ps_expr (pe_meth (pv 0) T.cl_BitWriter T.me_BitWriter_write (ok_BitWriter_write T) (hr.mono (by decide)) T.b_BitWriter_write .nil pass0 (pa_cons (pe_call (ok_coding_width T) (hr.mono (by decide)) (by rfl) T.g_coding_width T.F_coding_width.kp T.b_coding_width .nil pass0 (pa_cons (pv 1) pa_nil)) (pa_cons (pv 4) pa_nil)))))))), ?_⟩
  refine q_asg2T (ev_var rfl) hq fun H1 e1 => ?_
  have hraw : decide (V.str (kstr c.raw) = V.str "raw") = c.raw := by cases c.raw <;> decide
  have h31 := hc.1
  refine s_if (b := c.raw) (ev_strq "raw" c.raw (ev_var rfl) hraw) (fun hb H2 e2 => ?_) (fun hb H2 e2 => ?_)
  · have e12 := e1.trans e2
    obtain ⟨dx, ws, hd, nn, ha, _⟩ := (hW.ex e12).len
    have hpm := Nat.two_pow_pos (4 + m)
    refine q_dropM (vs := [.int ((4 + m : Nat) : Int), .int ((2 ^ (4 + m) - 1 : Nat) : Int)]) (ev_var rfl) ha rfl (ea_cons (ev_cw (ev_var rfl)) (ea_cons (ev_rm (ev_var rfl) hm) ea_nil)) fun H3 e3 => ⟨a, L, ms, 4 + m, ((2 ^ (4 + m) - 1 : Nat) : Int), rfl, hW.ex (e12.trans e3), by omega, by omega, fun H4 hF4 hW4 => ?_⟩
    rw [self_mod (Nat.sub_lt hpm (by decide)), bitsN_ones] at hW4
    obtain ⟨dx4, ws4, hd4, nn4, ha4, _⟩ := hW4.len
    have hl4 : (ms ++ List.replicate (4 + m) true).length ≤ 250010 := by rw [List.length_append, List.length_replicate]; omega
    refine s_dropM (vs := [.int 5, .int (c.num : Int)]) (ev_var rfl) ha4 rfl (ea_cons ev_c (ea_cons (ev_var rfl) ea_nil)) fun H5 e5 => ⟨a, L, _, 5, (c.num : Int), rfl, hW4.ex e5, by omega, by omega, fun H6 hF6 hW6 => ?_⟩
    rw [self_mod (show c.num < 2 ^ 5 by omega), List.append_assoc] at hW6
    refine k H6 (((Fr.ex (e12.trans e3)).trans hF4).trans ((Fr.ex e5).trans hF6)) ?_
    unfold cdB
    rw [if_pos hb]
    exact hW6
  · have e12 := e1.trans e2
    obtain ⟨dx, ws, hd, nn, ha, _⟩ := (hW.ex e12).len
    have hlt : c.num < 2 ^ (4 + m) := by
      have := hc.2 hb
      have h5 : 15 + 16 * m < 2 ^ (4 + m) := by
        rcases (show m = 0 ∨ m = 1 by omega) with rfl | rfl <;> decide
      omega
    refine s_dropM (vs := [.int ((4 + m : Nat) : Int), .int (c.num : Int)]) (ev_var rfl) ha rfl (ea_cons (ev_cw (ev_var rfl)) (ea_cons (ev_var rfl) ea_nil)) fun H3 e3 => ⟨a, L, ms, 4 + m, (c.num : Int), rfl, hW.ex (e12.trans e3), by omega, by omega, fun H4 hF4 hW4 => ?_⟩
    rw [self_mod hlt] at hW4
    refine k H4 ((Fr.ex (e12.trans e3)).trans hF4) ?_
    unfold cdB
    rw [if_neg (by rw [hb]; decide)]
    exact hW4
def sp_wpart (C : Addr) : Sp := fun vs H Q _ => ∃ (a L q p : Addr) (ms : List Bool) (c : Cd) (part : List Int), vs = [.ref a, .ref q, .ref p] ∧ WrAt C H a L ms ∧ CdAt H q c ∧ H p = some (.lst (part.map V.int)) ∧ p ≠ L ∧ c.num ≤ 31 ∧ (∀ v ∈ part, valW c v) ∧ ms.length + (part.flatMap (valB c)).length ≤ 250000 ∧ ∀ H', Fr a L H H' → WrAt C H' a L (ms ++ part.flatMap (valB c)) → Q .non H'
theorem flat_snoc {α β : Type} {l : List α} {f : α → List β} {j : Nat} {x : α} (h : l[j]? = some x) : (l.take (j + 1)).flatMap f = (l.take j).flatMap f ++ f x := by
  rw [List.take_add_one, h, List.flatMap_append]
  show _ ++ List.flatMap f [x] = _
  rw [List.flatMap_cons, List.flatMap_nil, List.append_nil]
theorem flat_take_le {α β : Type} {l : List α} {f : α → List β} (j : Nat) : ((l.take j).flatMap f).length ≤ (l.flatMap f).length := by
  have h := congrArg (List.flatMap f) (List.take_append_drop j l)
  rw [List.flatMap_append] at h
  rw [← h, List.length_append]
  omega
theorem ok_write_part (T : TX K mg) : FnOk P w K mg base CX0 4 T.a_write_part T.d_write_part ["writer", "coding", "part"] (sp_wpart T.C_BitWriter) := by
  refine T.F_write_part.ok sc_write_part (fun vs H Q E h => by obtain ⟨a, L, q, p, ms, c, part, rfl, _⟩ := h; rfl) (fun cdv A outer s H vs Q E hr h => ?_)
  obtain ⟨a, L, q, p, ms, c, part, rfl, hW, hq, hp, npL, hc, hv, hl, k⟩ := h
  refine ⟨_, (pss_cons (ps_asg (pv 1) (pg_tup rfl (pgs_cons (pg_name (i := 3) sc_write_part.nd rfl (Or.inl rfl)) (pgs_cons (pg_name (i := 4) sc_write_part.nd rfl (Or.inl rfl)) pgs_nil))))
      (pss_one (ps_for PassesOwn.never rfl (pi_list (pv 2)) (pg_name (i := 5) sc_write_part.nd rfl (Or.inl rfl)) (pss_one (ps_if (pt_cmpR op_eq (pv 3) pe_str (nomark _)) (pss_one (ps_expr (pe_call (ok_write_code T) (hr.mono (by decide)) (by rfl) T.g_write_code T.F_write_code.kp T.b_write_code .nil pass0 (pa_cons (pv 0) (pa_cons (pv 4) (pa_cons (pv 5) pa_nil)))))) (pss_one (ps_if (pt_cmpR op_gt (pv 4) pe_int (nomark _)) (pss_one (ps_expr (pe_meth (pv 0) T.cl_BitWriter T.me_BitWriter_write_signed (ok_BitWriter_write_signed T) (hr.mono (by decide)) T.b_BitWriter_write_signed .nil pass0 (pa_cons (pv 4) (pa_cons (pv 5) pa_nil))))) pss_nil))))))), ?_⟩
  refine q_asg2T (ev_var rfl) hq fun H1 e1 => ?_
  have npa := hW.neL hp
  have hrice : decide (V.str (kstr c.raw) = V.str "rice") = !c.raw := by cases c.raw <;> decide
  refine s_forLn (K := K) (a := p) (ev_var rfl) (sq_of (e1 _ _ hp)) (fun j σ' H' => ∃ z : Option V, σ' = [some (.ref a), some (.ref q), some (.ref p), some (.str (kstr c.raw)), some (.int (c.num : Int)), z] ∧ Fr a L H H' ∧ WrAt T.C_BitWriter H' a L (ms ++ (part.take j).flatMap (valB c))) (fun H2 e2 => ⟨none, rfl, Fr.ex (e1.trans e2), by rw [List.take_zero, List.flatMap_nil, List.append_nil]; exact hW.ex (e1.trans e2)⟩) (fun j σ' H' _ h => by obtain ⟨_, _, hF, _⟩ := h; exact sq_of (hF _ _ npa npL hp)) ?_ ?_
  · rintro j x σ' H2 hx ⟨z, rfl, hF, hW2⟩
    obtain ⟨v, hvj, hj, rfl⟩ := int_at hx
    have hvv := hv v (List.mem_of_getElem? hvj)
    have hfl := flat_snoc (f := valB c) hvj
    have hle := flat_take_le (f := valB c) (l := part) (j + 1)
    rw [hfl, List.length_append] at hle
    have hl2 : (ms ++ (part.take j).flatMap (valB c)).length + (valB c v).length ≤ 250000 := by rw [List.length_append]; omega
    rw [valB_len] at hl2
    rw [hfl, ← List.append_assoc]
    refine s_if (b := !c.raw) (ev_strq "rice" (!c.raw) (ev_var rfl) hrice) (fun hb H3 e3 => ?_) (fun hb H3 e3 => ?_)
    · have hb : c.raw = false := (Bool.not_eq_true' _).mp hb
      have hf0 := foldI_nn v
      unfold valW at hvv
      rw [if_neg (by rw [hb]; decide)] at hvv
      refine s_dropC (vs := [.ref a, .int (c.num : Int), .int v]) (ea_cons (ev_var rfl) (ea_cons (ev_var rfl) (ea_cons (ev_var rfl) ea_nil))) fun H4 e4 => ⟨a, L, _, c.num, (foldI v).toNat, v, rfl, hW2.ex (e3.trans e4), by omega, by omega, hvv.1, by omega, fun H5 hF5 hW5 => ⟨_, rfl, (hF.trans (Fr.ex (e3.trans e4))).trans hF5, ?_⟩⟩
      have : valB c v = codeB c.num (foldI v).toNat := by unfold valB; rw [if_neg (by rw [hb]; decide)]
      rw [this]
      exact hW5
    · have hb : c.raw = true := by cases h : c.raw with | true => rfl | false => rw [h] at hb; cases hb
      have hvB : valB c v = bitsN c.num (v % 2 ^ c.num).toNat := by unfold valB; rw [if_pos hb]
      rw [hvB]
      refine s_when (b := decide (0 < c.num)) (et_test (Ev.is (ev_I0 (g := fun i j => .bl (decide (j < i))) (ev_var rfl) ev_c) (congrArg V.bl (decide_eq_decide.mpr (by omega))))) (fun h0 H4 e4 => ?_) (fun h0 H4 e4 => ?_)
      · obtain ⟨dx, ws, hd, nn, ha, _⟩ := (hW2.ex (e3.trans e4)).len
        exact s_dropM (vs := [.int (c.num : Int), .int v]) (ev_var rfl) ha rfl (ea_cons (ev_var rfl) (ea_cons (ev_var rfl) ea_nil)) fun H5 e5 => ⟨a, L, _, c.num, v, rfl, hW2.ex ((e3.trans e4).trans e5), by omega, by omega, fun H6 hF6 hW6 => ⟨_, rfl, (hF.trans (Fr.ex ((e3.trans e4).trans e5))).trans hF6, hW6⟩⟩
      · have h0 : c.num = 0 := by have := of_decide_eq_false h0; omega
        refine ⟨_, rfl, hF.trans (Fr.ex (e3.trans e4)), ?_⟩
        rw [h0, show ∀ x, bitsN 0 x = [] from fun _ => rfl, List.append_nil]
        exact hW2.ex (e3.trans e4)
  · rintro σ' H2 ⟨z, rfl, hF, hW2⟩
    rw [List.length_map, List.take_length] at hW2
    exact k H2 hF hW2
def CdsT (H : Hp) (tc : Addr) (qs : List Addr) (cds : List Cd) : Prop := H tc = some (.tup (qs.map V.ref)) ∧ qs.length = cds.length ∧ ∀ (i : Nat) q c, qs[i]? = some q → cds[i]? = some c → CdAt H q c
theorem CdsT.ex {H H1 : Hp} {tc : Addr} {qs : List Addr} {cds : List Cd} (h : CdsT H tc qs cds) (e : Ex H H1) : CdsT H1 tc qs cds := ⟨e _ _ h.1, h.2.1, fun i q c a b => e _ _ (h.2.2 i q c a b)⟩
theorem CdsT.fr {C a L : Addr} {H H1 : Hp} {ms : List Bool} {tc : Addr} {qs : List Addr} {cds : List Cd} (h : CdsT H tc qs cds) (hW : WrAt C H a L ms) (hF : Fr a L H H1) : CdsT H1 tc qs cds := ⟨hW.frT hF h.1, h.2.1, fun i q c x y => (h.2.2 i q c x y).fr hW hF⟩
theorem s_zipC {σ : L2.St} {H : Hp} {t1 : TE} {tA : TA} {a : Addr} {vs dvs : List V} {sp : Sp} {E : XK} {g : TG} {tu : TS} {D : Ends} (h1 : Ev t1 σ H (.ref a)) (h2 : EvA tA σ H vs) (k : ∀ H1, Ex H H1 → sp (vs ++ dvs) H1 (fun y H2 => tFor (iZipM K (tCons (tC (.ref a)) (tCons (tC y) tNil))) g tu D σ H2) E) :
    tFor (iZipM K (tCons t1 (tCons (tCall sp dvs E tA) tNil))) g tu D σ H := h1 H (Ex.refl H) _ fun H1 e1 => h2 H1 e1 _ fun H2 e2 => k H2 (e1.trans e2)
theorem s_forZM {σ : L2.St} {H : Hp} {a b : Addr} {xs ys : List V} {n : Nat} {j1 j2 : Nat} {tu : TS} {D : Ends} (hx : SqT K H a xs) (hy : SqL K H b ys) (h1 : xs.length = n) (h2 : ys.length = n) (Pv : Nat → L2.St → Hp → Prop) (h0 : Pv 0 σ H) (hG : ∀ i σ' H', i ≤ n → Pv i σ' H' → SqT K H' a xs ∧ SqL K H' b ys)
    (hs : ∀ i σ' H' x y, xs[i]? = some x → ys[i]? = some y → Pv i σ' H' → ∀ H1, Ex H' H1 → tu { nx := Pv (i + 1), rt := D.rt, bk := D.nx, ct := Pv (i + 1) } ((σ'.set j1 (some x)).set j2 (some y)) H1) (hd : ∀ σ' H', Pv n σ' H' → D.nx σ' H') :
    tFor (iZipM K (tCons (tC (.ref a)) (tCons (tC (.ref b)) tNil))) (gTup K 2 (gCons (gName j1) (gCons (gName j2) gNil))) tu D σ H :=
  ⟨a, b, xs, ys, rfl, hx, hy, for_it (D := D) (walk_zipM h1 h2) Pv h0 hG (fun i x σ' H1 H2 hi p y => by
    obtain ⟨T, u, v, rfl, hT, rfl, g1, g2⟩ := y
    exact ⟨T, [u, v], rfl, st_of upd_same, rfl, u, [v], rfl, v, [], rfl, rfl, hs i σ' H1 u v g1 g2 p _ (Ex.new hT)⟩) hd⟩
def sp_wres (C : Addr) : Sp := fun vs H Q _ => ∃ (a L t tc r : Addr) (qs : List Addr) (cds : List Cd) (ms : List Bool) (m n o wd : Nat) (rs : List Int), vs = [.ref a, .ref t, .ref r, .int (o : Int)] ∧ WrAt C H a L ms ∧ H t = some (.tup [.int (m : Int), .int (n : Int), .ref tc]) ∧ CdsT H tc qs cds ∧ H r = some (.lst (rs.map V.int)) ∧ r ≠ L ∧ n ≤ 15 ∧ m ≤ 1 ∧ cds.length = 2 ^ n ∧ rs.length + o = wd * 2 ^ n ∧ o ≤ wd ∧ rs.length ≤ 40000 ∧ (∀ c ∈ cds, cdOk m c) ∧ (∀ i, i < 2 ^ n → ∀ v ∈ partL rs o wd i, valW (cds.getD i ⟨false, 0⟩) v) ∧ ms.length + (planB m n cds rs o wd (2 ^ n)).length ≤ 240000 ∧ ∀ H', Fr a L H H' → WrAt C H' a L (ms ++ planB m n cds rs o wd (2 ^ n)) → Q .non H'
theorem ok_write_residuals (T : TX K mg) : FnOk P w K mg base CX0 5 T.a_write_residuals T.d_write_residuals ["writer", "plan", "residuals", "order"] (sp_wres T.C_BitWriter) := by
  refine T.F_write_residuals.ok sc_write_residuals (fun vs H Q E h => by obtain ⟨a, L, t, tc, r, qs, cds, ms, m, n, o, wd, rs, rfl, _⟩ := h; rfl) (fun cdv A outer s H vs Q E hr h => ?_)
  obtain ⟨a, L, t, tc, r, qs, cds, ms, m, n, o, wd, rs, rfl, hW, ht, hc, hr0, nrL, hn, hm, hcl, hl, how, hrl, hcd, hval, hbl, k⟩ := h
  refine ⟨_, (pss_cons (ps_asg (pv 1) (pg_tup rfl (pgs_cons (pg_name (i := 4) sc_write_residuals.nd rfl (Or.inl rfl)) (pgs_cons (pg_name (i := 5) sc_write_residuals.nd rfl (Or.inl rfl)) (pgs_cons (pg_name (i := 6) sc_write_residuals.nd rfl (Or.inl rfl)) pgs_nil)))))
      (pss_cons (ps_expr (pe_meth (pv 0) T.cl_BitWriter T.me_BitWriter_write (ok_BitWriter_write T) (hr.mono (by decide)) T.b_BitWriter_write .nil pass0 (pa_cons pe_int (pa_cons (pv 4) pa_nil))))
      (pss_cons (ps_expr (pe_meth (pv 0) T.cl_BitWriter T.me_BitWriter_write (ok_BitWriter_write T) (hr.mono (by decide)) T.b_BitWriter_write .nil pass0 (pa_cons pe_int (pa_cons (pv 5) pa_nil))))
      (pss_one (ps_for PassesOwn.never rfl (pi_zipM (by rfl) T.m_zip (pa_cons (pv 6) (pa_cons (pe_call (ok_parts T) (hr.mono (by decide)) (by rfl) T.g_parts T.F_parts.kp T.b_parts .nil pass0 (pa_cons (pv 2) (pa_cons (pv 3) (pa_cons (pv 5) pa_nil)))) pa_nil))) (pg_tup rfl (pgs_cons (pg_name (i := 7) sc_write_residuals.nd rfl (Or.inl rfl)) (pgs_cons (pg_name (i := 8) sc_write_residuals.nd rfl (Or.inl rfl)) pgs_nil))) (pss_cons (ps_expr (pe_call (ok_write_coding T) (hr.mono (by decide)) (by rfl) T.g_write_coding T.F_write_coding.kp T.b_write_coding .nil pass0 (pa_cons (pv 0) (pa_cons (pv 4) (pa_cons (pv 7) pa_nil)))))
        (pss_one (ps_expr (pe_call (ok_write_part T) (hr.mono (by decide)) (by rfl) T.g_write_part T.F_write_part.kp T.b_write_part .nil pass0 (pa_cons (pv 0) (pa_cons (pv 7) (pa_cons (pv 8) pa_nil)))))))))))), ?_⟩
  refine q_asg3T (ev_var rfl) ht fun H1 e1 => ?_
  have hn16 : n < 2 ^ 4 := by omega
  have hm2 : m < 2 ^ 2 := by omega
  have nra := hW.neL hr0
  have h6 : (planB m n cds rs o wd 0).length = 6 := planB_len m n cds rs o wd 0
  obtain ⟨dx, ws, hd, nn, ha, _⟩ := (hW.ex e1).len
  have hmle : ms.length ≤ 240000 := by omega
  refine q_dropM (vs := [.int 2, .int (m : Int)]) (ev_var rfl) ha rfl (ea_cons ev_c (ea_cons (ev_var rfl) ea_nil)) fun H2 e2 => ⟨a, L, ms, 2, (m : Int), rfl, hW.ex (e1.trans e2), by omega, by omega, fun H3 hF3 hW3 => ?_⟩
  rw [self_mod hm2] at hW3
  obtain ⟨dx3, ws3, hd3, nn3, ha3, _⟩ := hW3.len
  refine q_dropM (vs := [.int 4, .int (n : Int)]) (ev_var rfl) ha3 rfl (ea_cons ev_c (ea_cons (ev_var rfl) ea_nil)) fun H4 e4 => ⟨a, L, _, 4, (n : Int), rfl, hW3.ex e4, by omega, by rw [List.length_append, bitsN_len]; omega, fun H5 hF5 hW5 => ?_⟩
  rw [self_mod hn16, List.append_assoc] at hW5
  have hF05 := ((Fr.ex (e1.trans e2)).trans hF3).trans ((Fr.ex e4).trans hF5)
  have hW0 := hW
  have hc5 := hc.fr hW hF05
  have hr5 := hF05 _ _ nra nrL hr0
  refine s_zipC (a := tc) (vs := [.ref r, .int (o : Int), .int (n : Int)]) (ev_var rfl) (ea_cons (ev_var rfl) (ea_cons (ev_var rfl) (ea_cons (ev_var rfl) ea_nil))) fun H6 e6 => ⟨r, rs, o, wd, n, rfl, e6 _ _ hr5, by omega, hl, how, by omega, fun pp ps H7 hpp e7 hpl hpn hP => ?_⟩
  have e67 := e6.trans e7
  have hW7 := hW5.ex e67
  have hc7 := hc5.ex e67
  have hnL : ∀ {q : Addr}, H6 q = none → q ≠ L := fun hq z => by
    obtain ⟨_, _, _, _, _, hL, _⟩ := hW5.ex e6
    rw [z] at hq
    rw [hL] at hq
    cases hq
  have npp := hnL hpp
  have hppa := hW7.neL hP.1
  refine s_forZM (st_of hc7.1) (sq_of hP.1) (n := cds.length) (by rw [List.length_map]; exact hc7.2.1) (by rw [List.length_map]; omega) (fun i σ' H' => ∃ z7 z8 : Option V, σ' = [some (.ref a), some (.ref t), some (.ref r), some (.int (o : Int)), some (.int (m : Int)), some (.int (n : Int)), some (.ref tc), z7, z8] ∧ Fr a L H7 H' ∧ WrAt T.C_BitWriter H' a L (ms ++ planB m n cds rs o wd i)) ⟨none, none, rfl, Fr.ex (Ex.refl _), hW7⟩ (fun i σ' H' _ h => by obtain ⟨_, _, _, hF, _⟩ := h; exact ⟨st_of (hW7.frT hF hc7.1), sq_of (hF _ _ hppa npp hP.1)⟩) ?_ ?_
  · rintro i σ' H8 x y hx hy ⟨z7, z8, rfl, hF8, hW8⟩ H9 e9
    rw [List.getElem?_map] at hx hy
    obtain ⟨qa, hqa, rfl⟩ := Option.map_eq_some_iff.mp hx
    obtain ⟨pa, hpa, rfl⟩ := Option.map_eq_some_iff.mp hy
    have hc72 := hc7.2.1
    have hi : i < cds.length := by have := (List.getElem?_eq_some_iff.mp hqa).1; omega
    have hci : cds[i]? = some cds[i] := List.getElem?_eq_getElem hi
    have hgd : cds.getD i ⟨false, 0⟩ = cds[i] := by rw [List.getD_eq_getElem?_getD, hci]; rfl
    have hck : cdOk m (cds.getD i ⟨false, 0⟩) := by rw [hgd]; exact hcd _ (List.getElem_mem hi)
    have hq7 : CdAt H7 qa (cds.getD i ⟨false, 0⟩) := hc7.2.2 i qa _ hqa (by rw [hci, hgd])
    have hvi := hval i (by omega)
    obtain ⟨rr, hrr⟩ := planB_pre m n cds rs o wd (2 ^ n) (i + 1) (by omega)
    have hbi := congrArg List.length hrr
    rw [List.length_append] at hbi
    have hpb : planB m n cds rs o wd (i + 1) = planB m n cds rs o wd i ++ (cdB m (cds.getD i ⟨false, 0⟩) ++ (partL rs o wd i).flatMap (valB (cds.getD i ⟨false, 0⟩))) := rfl
    rw [hpb, ← List.append_assoc, ← List.append_assoc]
    rw [hpb, List.length_append, List.length_append] at hbi
    have hpi := hP.2 i pa hpa
    have npa : pa ≠ L := hnL (hpn i pa hpa)
    have hpaa := hW7.neL hpi
    generalize cds.getD i ⟨false, 0⟩ = c at *
    generalize partL rs o wd i = part at *
    have hF79 : Fr a L H7 H9 := hF8.trans (Fr.ex e9)
    have hle1 : (ms ++ planB m n cds rs o wd i).length + (cdB m c).length + (part.flatMap (valB c)).length ≤ 240000 := by rw [List.length_append]; omega
    generalize ms ++ planB m n cds rs o wd i = pre at *
    refine q_dropC (vs := [.ref a, .int (m : Int), .ref qa]) (ea_cons (ev_var rfl) (ea_cons (ev_var rfl) (ea_cons (ev_var rfl) ea_nil))) fun H10 e10 => ⟨a, L, qa, pre, m, c, rfl, hW8.ex (e9.trans e10), hq7.fr hW7 (hF79.trans (Fr.ex e10)), hm, hck, by omega, fun H11 hF11 hW11 => ?_⟩
    have hF711 := (hF79.trans (Fr.ex e10)).trans hF11
    refine s_dropC (vs := [.ref a, .ref qa, .ref pa]) (ea_cons (ev_var rfl) (ea_cons (ev_var rfl) (ea_cons (ev_var rfl) ea_nil))) fun H12 e12 => ⟨a, L, qa, pa, _, c, part, rfl, hW11.ex e12, hq7.fr hW7 (hF711.trans (Fr.ex e12)), (hF711.trans (Fr.ex e12)) _ _ hpaa npa hpi, npa, hck.1, hvi, by rw [List.length_append]; omega, fun H13 hF13 hW13 => ⟨_, _, rfl, (hF711.trans (Fr.ex e12)).trans hF13, hW13⟩⟩
  · rintro σ' H8 ⟨z7, z8, rfl, hF8, hW8⟩
    rw [hcl] at hW8
    exact k H8 ((hF05.trans (Fr.ex e67)).trans hF8) hW8

/-! ### residuals read -/
def sp_rmeth (C : Addr) : Sp := fun vs H Q _ => ∃ (a d : Addr) (ds : List Nat) (pos m : Nat), vs = [.ref a] ∧ RdD C H a d ds pos ∧ m ≤ 1 ∧ Has (ds.flatMap bits8) pos (bitsN 2 m) ∧ ∀ H', FrA a H H' → RdAt C H' a d (pos + 2) → Q (.int (m : Int)) H'
theorem ok_read_method (T : TX K mg) : FnOk P w K mg base CX0 2 T.a_read_method T.d_read_method ["reader"] (sp_rmeth T.C_BitReader) := by
  refine T.F_read_method.ok sc_read_method (fun vs H Q E h => by obtain ⟨a, d, ds, pos, m, rfl, _⟩ := h; rfl) (fun cdv A outer s H vs Q E hr h => ?_)
  obtain ⟨a, d, ds, pos, m, rfl, hR, hm, hB, k⟩ := h
  refine ⟨_, (pss_cons (ps_set (i := 1) sc_read_method.nd rfl (Or.inl rfl) (pe_meth0 (pv 0) T.cl_BitReader T.me_BitReader_byte_place (ok_BitReader_byte_place T) (hr.mono (by decide)) T.b_BitReader_byte_place .nil pass0))
      (pss_cons (ps_set (i := 2) sc_read_method.nd rfl (Or.inl rfl) (pe_meth (pv 0) T.cl_BitReader T.me_BitReader_read (ok_BitReader_read T) (hr.mono (by decide)) T.b_BitReader_read .nil pass0 (pa_cons pe_int pa_nil)))
      (pss_cons (ps_if (pt_cmpR op_gt (pv 2) pe_int (nomark _)) (pss_one ps_never) pss_nil)
      (pss_one (ps_ret (pv 2)))))), ?_⟩
  refine q_asg (ev_place (ev_var rfl) hR.1 rfl) fun H1 e1 => ?_
  obtain ⟨dx, ha⟩ := (hR.ex e1).1
  have hlen := hB.len
  rw [bitsN_len, bits_flat_len] at hlen
  refine q_asgM (sp := sp_readN T.C_BitReader) (m := "read") (dvs := []) (vs := [.int 2]) (ev_var rfl) ha rfl (ea_cons ev_c ea_nil) fun H2 e2 => ⟨a, d, ds, pos, 2, rfl, (hR.ex (e1.trans e2)).1, (hR.ex (e1.trans e2)).2.1, hR.2.2.1, by omega, hR.2.2.2, hlen, fun H3 hF hR3 => ?_⟩
  rw [hB.val (show m < 2 ^ 2 by omega)]
  refine q_when (b := false) (et_is (et_test (ev_I0 (g := fun i j => .bl (decide (j < i))) (ev_var rfl) ev_c)) (decide_eq_false (by omega))) (fun hb => by cases hb) fun _ H4 e4 => ?_
  exact s_ret (ev_var rfl) fun H5 e5 => k H5 (((FrA.ex (e1.trans e2)).trans hF).trans (FrA.ex (e4.trans e5))) (hR3.ex (e4.trans e5))
def sp_rpord (C : Addr) : Sp := fun vs H Q _ => ∃ (a d : Addr) (ds : List Nat) (pos n S o : Nat), vs = [.ref a, .int (S : Int), .int (o : Int)] ∧ RdD C H a d ds pos ∧ n ≤ 15 ∧ Has (ds.flatMap bits8) pos (bitsN 4 n) ∧ S % 2 ^ n = 0 ∧ o < S / 2 ^ n ∧ ∀ H', FrA a H H' → RdAt C H' a d (pos + 4) → Q (.int (n : Int)) H'
theorem ok_read_partition_order (T : TX K mg) : FnOk P w K mg base CX0 2 T.a_read_partition_order T.d_read_partition_order ["reader", "size", "order"] (sp_rpord T.C_BitReader) := by
  refine T.F_read_partition_order.ok sc_read_partition_order (fun vs H Q E h => by obtain ⟨a, d, ds, pos, n, S, o, rfl, _⟩ := h; rfl) (fun cdv A outer s H vs Q E hr h => ?_)
  obtain ⟨a, d, ds, pos, n, S, o, rfl, hR, hn, hB, hS1, hS2, k⟩ := h
  refine ⟨_, (pss_cons (ps_set (i := 3) sc_read_partition_order.nd rfl (Or.inl rfl) (pe_meth0 (pv 0) T.cl_BitReader T.me_BitReader_byte_place (ok_BitReader_byte_place T) (hr.mono (by decide)) T.b_BitReader_byte_place .nil pass0))
      (pss_cons (ps_set (i := 4) sc_read_partition_order.nd rfl (Or.inl rfl) (pe_meth (pv 0) T.cl_BitReader T.me_BitReader_read (ok_BitReader_read T) (hr.mono (by decide)) T.b_BitReader_read .nil pass0 (pa_cons pe_int pa_nil)))
      (pss_cons (ps_if (pt_not (pt_val (pe_call (ok_legal_partition_order T) (hr.mono (by decide)) (by rfl) T.g_legal_partition_order T.F_legal_partition_order.kp T.b_legal_partition_order .nil pass0 (pa_cons (pv 1) (pa_cons (pv 2) (pa_cons (pv 4) pa_nil)))))) (pss_one ps_never) pss_nil)
      (pss_one (ps_ret (pv 4)))))), ?_⟩
  refine q_asg (ev_place (ev_var rfl) hR.1 rfl) fun H1 e1 => ?_
  obtain ⟨dx, ha⟩ := (hR.ex e1).1
  have hlen := hB.len
  rw [bitsN_len, bits_flat_len] at hlen
  refine q_asgM (sp := sp_readN T.C_BitReader) (m := "read") (dvs := []) (vs := [.int 4]) (ev_var rfl) ha rfl (ea_cons ev_c ea_nil) fun H2 e2 => ⟨a, d, ds, pos, 4, rfl, (hR.ex (e1.trans e2)).1, (hR.ex (e1.trans e2)).2.1, hR.2.2.1, by omega, hR.2.2.2, hlen, fun H3 hF hR3 => ?_⟩
  rw [hB.val (show n < 2 ^ 4 by omega)]
  have hp := Nat.two_pow_pos n
  refine q_when (b := false) (et_is (et_not (et_B (ev_legal (s := (S : Int)) (o := (o : Int)) (m := n) (ev_var rfl) (ev_var rfl) (ev_var rfl) (by omega)))) ?_) (fun hb => by cases hb) fun _ H4 e4 => ?_
  · rw [pow_cast, decide_eq_true (by omega), decide_eq_true (by omega)]
    rfl
  exact s_ret (ev_var rfl) fun H5 e5 => k H5 (((FrA.ex (e1.trans e2)).trans hF).trans (FrA.ex (e4.trans e5))) (hR3.ex (e4.trans e5))
def sp_rcod (C : Addr) : Sp := fun vs H Q _ => ∃ (a d : Addr) (ds : List Nat) (pos m : Nat) (c : Cd), vs = [.ref a, .int (m : Int)] ∧ RdD C H a d ds pos ∧ m ≤ 1 ∧ cdOk m c ∧ Has (ds.flatMap bits8) pos (cdB m c) ∧ ∀ q H', H q = none → FrA a H H' → CdAt H' q c → RdAt C H' a d (pos + (cdB m c).length) → Q (.ref q) H'
theorem FrA.back {a : Addr} {H H1 : Hp} (hF : FrA a H H1) {q : Addr} (hq : H1 q = none) (ha : ∃ o, H1 a = some o) : H q = none := by
  cases h : H q with
  | none => rfl
  | some o =>
    obtain ⟨oa, ha⟩ := ha
    by_cases e : q = a
    · rw [e, ha] at hq; cases hq
    · rw [hF q o e h] at hq; cases hq
theorem ok_read_coding (T : TX K mg) : FnOk P w K mg base CX0 3 T.a_read_coding T.d_read_coding ["reader", "method"] (sp_rcod T.C_BitReader) := by
  refine T.F_read_coding.ok sc_read_coding (fun vs H Q E h => by obtain ⟨a, d, ds, pos, m, c, rfl, _⟩ := h; rfl) (fun cdv A outer s H vs Q E hr h => ?_)
  obtain ⟨a, d, ds, pos, m, ⟨raw, num⟩, rfl, hR, hm, hc, hB, k⟩ := h
  have h31 : num ≤ 31 := hc.1
  refine ⟨_, (pss_cons (ps_set (i := 2) sc_read_coding.nd rfl (Or.inl rfl) (pe_meth (pv 0) T.cl_BitReader T.me_BitReader_read (ok_BitReader_read T) (hr.mono (by decide)) T.b_BitReader_read .nil pass0 (pa_cons (pe_call (ok_coding_width T) (hr.mono (by decide)) (by rfl) T.g_coding_width T.F_coding_width.kp T.b_coding_width .nil pass0 (pa_cons (pv 1) pa_nil)) pa_nil)))
      (pss_cons (ps_if (pt_cmpR op_eq (pv 2) (pe_call (ok_raw_mark T) (hr.mono (by decide)) (by rfl) T.g_raw_mark T.F_raw_mark.kp T.b_raw_mark .nil pass0 (pa_cons (pv 1) pa_nil)) (nomark _)) (pss_one (ps_ret (pe_tup (pa_cons pe_str (pa_cons (pe_meth (pv 0) T.cl_BitReader T.me_BitReader_read (ok_BitReader_read T) (hr.mono (by decide)) T.b_BitReader_read .nil pass0 (pa_cons pe_int pa_nil)) pa_nil))))) pss_nil)
      (pss_one (ps_ret (pe_tup (pa_cons pe_str (pa_cons (pv 2) pa_nil))))))), ?_⟩
  obtain ⟨dx, ha⟩ := id hR.1
  have hp := Nat.two_pow_pos (4 + m)
  have h5 : 15 + 16 * m = 2 ^ (4 + m) - 1 := by
    rcases (show m = 0 ∨ m = 1 by omega) with rfl | rfl <;> decide
  obtain ⟨nb, hnb⟩ : ∃ nb, (if raw then 2 ^ (4 + m) - 1 else num) = nb := ⟨_, rfl⟩
  have hnlt : nb < 2 ^ (4 + m) := by
    rw [← hnb]
    split
    · omega
    · rename_i h
      have : num < 15 + 16 * m := hc.2 ((Bool.not_eq_true _).mp h)
      omega
  have hB1 : Has (ds.flatMap bits8) pos (bitsN (4 + m) nb) := by
    cases raw with
    | true => rw [← hnb, if_pos rfl, bitsN_ones]; exact (hB : Has _ _ (List.replicate (4 + m) true ++ bitsN 5 num)).l
    | false => rw [← hnb, if_neg (by decide)]; exact hB
  have hlen := hB1.len
  rw [bitsN_len, bits_flat_len] at hlen
  refine q_asgM (sp := sp_readN T.C_BitReader) (m := "read") (dvs := []) (vs := [.int ((4 + m : Nat) : Int)]) (ev_var rfl) ha rfl (ea_cons (ev_cw (ev_var rfl)) ea_nil) fun H2 e2 => ⟨a, d, ds, pos, 4 + m, rfl, (hR.ex e2).1, (hR.ex e2).2.1, hR.2.2.1, by omega, hR.2.2.2, hlen, fun H3 hF hR3 => ?_⟩
  rw [hB1.val hnlt]
  have hF03 := (FrA.ex e2).trans hF
  have hR3' := hR.to hF03 hR3
  refine q_when (b := raw) (et_is (et_test (ev_eq (ev_var rfl) (ev_rm (ev_var rfl) hm) rfl)) ?_) (fun hb H4 e4 => ?_) (fun hb H4 e4 => ?_)
  · cases raw with
    | true => rw [if_pos rfl] at hnb; rw [hnb]; exact decide_eq_true rfl
    | false =>
      rw [if_neg (by decide)] at hnb
      have : num < 15 + 16 * m := hc.2 rfl
      exact decide_eq_false fun z => by have := V.int.inj z; omega
  · subst hb
    have hB2 : Has (ds.flatMap bits8) (pos + (4 + m)) (bitsN 5 num) := by
      have := (hB : Has _ _ (List.replicate (4 + m) true ++ bitsN 5 num)).r
      rwa [List.length_replicate] at this
    have hlen2 := hB2.len
    rw [bitsN_len, bits_flat_len] at hlen2
    have hR4 := hR3'.ex e4
    obtain ⟨dx4, ha4⟩ := id hR4.1
    show tTup (tCons (tC (.str "raw")) (tCons _ tNil)) _ _ _
    refine mth (sp := sp_readN T.C_BitReader) (m := "read") (dvs := []) (vs := [.int 5]) (ev_var rfl) ha4 rfl (ea_cons ev_c ea_nil) fun H5 e5 => ⟨a, d, ds, pos + (4 + m), 5, rfl, (hR4.ex e5).1, (hR4.ex e5).2.1, hR.2.2.1, by omega, hR.2.2.2, hlen2, fun H6 hF6 hR6 => ?_⟩
    rw [hB2.val (show num < 2 ^ 5 by omega)]
    refine ⟨sz_of (show 2 ≤ 100000 by decide), fun q hq => ?_⟩
    have hF06 := (hF03.trans (FrA.ex (e4.trans e5))).trans hF6
    refine k q _ (hF06.back hq (by obtain ⟨dx6, ha6⟩ := hR6; exact ⟨_, ha6⟩)) (hF06.trans (FrA.ex (Ex.new hq))) upd_same ?_
    rw [cdB_len]
    have := hR6.ex (Ex.new (o := .tup [.str "raw", .int (num : Int)]) hq)
    rw [show pos + (4 + m) + 5 = pos + (4 + m + 5) by omega] at this
    exact this
  · subst hb
    rw [if_neg (by decide)] at hnb
    subst hnb
    refine s_retU (xs := [.str "rice", .int (num : Int)]) (eu_tup (ea_cons ev_c (ea_cons (ev_var rfl) ea_nil)) (Nat.le_of_ble_eq_true rfl)) fun q H5 hq e5 gq => ?_
    refine k q _ (hF03.back (fresh_back e4 hq) (by obtain ⟨dx3, ha3⟩ := hR3; exact ⟨_, ha3⟩)) (hF03.trans (FrA.ex (e4.trans e5))) gq ?_
    rw [cdB_len]
    exact hR3.ex (e4.trans e5)
theorem sg_fit {n : Nat} {v : Int} (hn : 0 < n) (h : fitR n v = true) : sgN n (v % 2 ^ n).toNat = v := by
  unfold fitR at h
  rw [if_neg (by omega), Bool.and_eq_true] at h
  have h1 := of_decide_eq_true h.1
  have h2 := of_decide_eq_true h.2
  have hpw : 2 ^ n = 2 * 2 ^ (n - 1) := by rw [show n = (n - 1) + 1 by omega, Nat.pow_succ, Nat.mul_comm, Nat.add_sub_cancel]
  have hp := Nat.two_pow_pos (n - 1)
  unfold sgN
  rw [pow_cast]
  generalize 2 ^ (n - 1) = q at *
  rw [hpw]
  have h3 := Int.emod_nonneg v (show ((2 * q : Nat) : Int) ≠ 0 by omega)
  have h4 := Int.emod_lt_of_pos v (show (0 : Int) < ((2 * q : Nat) : Int) by omega)
  by_cases hv : 0 ≤ v
  · have : v % ((2 * q : Nat) : Int) = v := Int.emod_eq_of_lt hv (by omega)
    rw [this]
    rw [if_pos (by omega)]
    omega
  · have : v % ((2 * q : Nat) : Int) = v + ((2 * q : Nat) : Int) := by
      rw [← Int.add_emod_right]
      exact Int.emod_eq_of_lt (by omega) (by omega)
    rw [this]
    rw [if_neg (by omega)]
    omega
def sp_rres1 (C : Addr) : Sp := fun vs H Q _ => ∃ (a d : Addr) (ds : List Nat) (pos k : Nat) (v : Int), vs = [.ref a, .int (k : Int)] ∧ RdD C H a d ds pos ∧ k ≤ 31 ∧ foldI v ≤ 4294967294 ∧ Has (ds.flatMap bits8) pos (codeB k (foldI v).toNat) ∧ ∀ H', FrA a H H' → RdAt C H' a d (pos + (codeB k (foldI v).toNat).length) → Q (.int v) H'
theorem ok_read_residual (T : TX K mg) : FnOk P w K mg base CX0 5 T.a_read_residual T.d_read_residual ["reader", "k"] (sp_rres1 T.C_BitReader) := by
  refine T.F_read_residual.ok sc_read_residual (fun vs H Q E h => by obtain ⟨a, d, ds, pos, k, v, rfl, _⟩ := h; rfl) (fun cdv A outer s H vs Q E hr h => ?_)
  obtain ⟨a, d, ds, pos, kk, v, rfl, hR, hk, hv, hB, k⟩ := h
  refine ⟨_, (pss_cons (ps_set (i := 2) sc_read_residual.nd rfl (Or.inl rfl) (pe_meth0 (pv 0) T.cl_BitReader T.me_BitReader_byte_place (ok_BitReader_byte_place T) (hr.mono (by decide)) T.b_BitReader_byte_place .nil pass0))
      (pss_cons (ps_set (i := 3) sc_read_residual.nd rfl (Or.inl rfl) (pe_call (ok_read_code T) (hr.mono (by decide)) (by rfl) T.g_read_code T.F_read_code.kp T.b_read_code .nil pass0 (pa_cons (pv 0) (pa_cons (pv 1) pa_nil))))
      (pss_cons (ps_if (pt_chain op_lt op_lt (pe_un un_neg (pe_glob (by rfl) T.c_BOUND_residual T.r_BOUND_residual)) (pv 3) (pe_glob (by rfl) T.c_BOUND_residual T.r_BOUND_residual)) (pss_one (ps_ret (pv 3))) pss_nil)
      (pss_one ps_never)))), ?_⟩
  refine q_asg (ev_place (ev_var rfl) hR.1 rfl) fun H1 e1 => ?_
  obtain ⟨hz, hvl, hle⟩ := hB.code
  rw [bits_flat_len] at hle
  have hf0 := foldI_nn v
  refine q_asgC (vs := [.ref a, .int (kk : Int)]) (ea_cons (ev_var rfl) (ea_cons (ev_var rfl) ea_nil)) fun H2 e2 => ⟨a, d, ds, pos, kk, (foldI v).toNat / 2 ^ kk, rfl, (hR.ex (e1.trans e2)).1, (hR.ex (e1.trans e2)).2.1, hR.2.2.1, hR.2.2.2, by omega, hz, hle, fun H3 hF hR3 => ?_⟩
  rw [hvl, unf_code, Int.toNat_of_nonneg hf0, unfold_fold]
  have hb : -2147483648 < v ∧ v < 2147483648 := by unfold foldI at hv; split at hv <;> omega
  refine q_when (b := true) (et_is (et_test (ev_chain (ev_negI ev_c) (ev_var rfl) ev_c)) (by rw [decide_eq_true hb.1, decide_eq_true hb.2]; rfl)) (fun _ H4 e4 => ?_) (fun hb => by cases hb)
  refine s_ret (ev_var rfl) fun H5 e5 => k H5 (((FrA.ex (e1.trans e2)).trans hF).trans (FrA.ex (e4.trans e5))) ?_
  rw [codeB_len]
  have := hR3.ex (e4.trans e5)
  rw [show pos + (foldI v).toNat / 2 ^ kk + 1 + kk = pos + ((foldI v).toNat / 2 ^ kk + 1 + kk) by omega] at this
  exact this
def sp_rpart (C : Addr) : Sp := fun vs H Q _ => ∃ (a d q : Addr) (ds : List Nat) (pos : Nat) (c : Cd) (part : List Int), vs = [.ref a, .ref q, .int (part.length : Int)] ∧ RdD C H a d ds pos ∧ CdAt H q c ∧ c.num ≤ 31 ∧ (∀ v ∈ part, valW c v) ∧ part.length ≤ 40000 ∧ Has (ds.flatMap bits8) pos (part.flatMap (valB c)) ∧ ∀ p H', H p = none → FrA a H H' → H' p = some (.lst (part.map V.int)) → RdAt C H' a d (pos + (part.flatMap (valB c)).length) → Q (.ref p) H'
theorem flat_has {part : List Int} {c : Cd} {B : List Bool} {pos i : Nat} {v : Int} (h : Has B pos (part.flatMap (valB c))) (hi : part[i]? = some v) : Has B (pos + ((part.take i).flatMap (valB c)).length) (valB c v) := by
  have h1 := congrArg (List.flatMap (valB c)) (List.take_append_drop (i + 1) part)
  rw [List.flatMap_append, flat_snoc hi, List.append_assoc] at h1
  rw [← h1] at h
  exact h.r.l
/-- a comprehension that reads -/
theorem s_retRd {C a d : Addr} {H : Hp} {ds : List Nat} {pos : Nat} {c : Cd} {part : List Int} {te : TE} {ta : TA} {j : Nat} {vs : List Nat} {σ : L2.St} {D : Ends} (hR : RdD C H a d ds pos) (hl : part.length ≤ 40000) (hB : Has (ds.flatMap bits8) pos (part.flatMap (valB c))) (hn : EvA ta σ H [.int (part.length : Int)]) (hw : ∀ x, wipe ((wipe σ vs).set j (some x)) vs = wipe σ vs)
    (ht : ∀ (i : Nat) (v : Int) (H1 : Hp) (pos1 : Nat) (Q : VK), part[i]? = some v → RdD C H1 a d ds pos1 → Has (ds.flatMap bits8) pos1 (valB c v) → (∀ H2, FrA a H1 H2 → RdAt C H2 a d (pos1 + (valB c v).length) → Q (.int v) H2) → te ((wipe σ vs).set j (some (.int (i : Int)))) H1 Q)
    (k : ∀ p H', H p = none → FrA a H H' → H' p = some (.lst (part.map V.int)) → RdAt C H' a d (pos + (part.flatMap (valB c)).length) → D.rt (.ref p) H') : tRet (tLc (iRng1 ta) (gName j) tYes te vs) D σ H := by
  show tLc (iRng1 ta) (gName j) tYes te vs σ H D.rt
  refine tlc_rngM hn (by omega) fun H1 e1 Dl hD => ?_
  have nDa : Dl ≠ a := by
    obtain ⟨⟨dx, ha⟩, _⟩ := hR.ex e1
    rintro rfl
    rw [ha] at hD
    cases hD
  have nDd : Dl ≠ d := by
    have := (hR.ex e1).2.1
    rintro rfl
    rw [this] at hD
    cases hD
  refine ⟨fun i H' => FrA a H H' ∧ RdD C H' a d ds (pos + ((part.take i).flatMap (valB c)).length) ∧ H' Dl = some (.lst ((part.take i).map V.int)), ⟨FrA.ex (Ex.mut e1 (fresh_back e1 hD)), ?_, upd_same⟩, fun i H' hi hP => ⟨hw _, ?_⟩, fun H' hP => ?_⟩
  · rw [List.take_zero, List.flatMap_nil]
    exact (hR.ex e1).mut nDa nDd
  · obtain ⟨hF, hR', hg⟩ := hP
    have hi : i < part.length := by omega
    have hv : part[i]? = some part[i] := List.getElem?_eq_getElem hi
    refine ht i part[i] H' _ _ hv hR' (flat_has hB hv) fun H2 hF2 hR2 => ⟨(part.take i).map V.int, hF2 _ _ nDa hg, sz_lt (by rw [List.length_map, List.length_take]; omega), ?_, ?_, ?_⟩
    · intro b o hb hbo
      rw [upd_ne (by rintro rfl; rw [e1 _ _ hbo] at hD; cases hD)]
      exact hF2 _ _ hb (hF _ _ hb hbo)
    · rw [flat_snoc hv, List.length_append, ← Nat.add_assoc]
      exact (hR'.to hF2 hR2).mut nDa nDd
    · rw [upd_same, List.take_add_one, hv, List.map_append]
      rfl
  · rw [Int.toNat_natCast, List.take_length] at hP
    exact k Dl H' (fresh_back e1 hD) hP.1 hP.2.2 hP.2.1.1
theorem ok_read_part (T : TX K mg) : FnOk P w K mg base CX0 6 T.a_read_part T.d_read_part ["reader", "coding", "count"] (sp_rpart T.C_BitReader) := by
  refine T.F_read_part.ok sc_read_part (fun vs H Q E h => by obtain ⟨a, d, q, ds, pos, c, part, rfl, _⟩ := h; rfl) (fun cdv A outer s H vs Q E hr h => ?_)
  obtain ⟨a, d, q, ds, pos, c, part, rfl, hR, hq, hc, hv, hl, hB, k⟩ := h
  refine ⟨_, (pss_cons (ps_asg (pv 1) (pg_tup rfl (pgs_cons (pg_name (i := 3) sc_read_part.nd rfl (Or.inl rfl)) (pgs_cons (pg_name (i := 4) sc_read_part.nd rfl (Or.inr rfl)) pgs_nil))))
      (pss_cons (ps_if (pt_cmpR op_eq (pv 3) pe_str (nomark _)) (pss_one (ps_ret (pe_lc (own := [("_", 5)]) (g := gName 5) (tt := tYes) rfl sc_read_part.nd (pi_range1 (by rfl) T.m_range (pa_cons (pv 2) pa_nil)) (blkOk_by (N := ["reader", "coding", "count", "kind", "number", "_"]) (sc := defScope s_read_part) (by decide +kernel)) (fun _ _ _ _ _ => pg_name (i := 5) sc_read_part.nd rfl (Or.inl rfl)) (fun _ _ _ _ _ => pts_nil) (fun _ _ _ _ _ => (pe_call (ok_read_residual T) (hr.mono (by decide)) (by rfl) T.g_read_residual T.F_read_residual.kp T.b_read_residual .nil pass0 (pa_cons (pv 0) (pa_cons (pv 4) pa_nil))))))) pss_nil)
      (pss_cons (ps_if (pt_cmpR op_eq (pv 4) pe_int (nomark _)) (pss_one (ps_ret (pe_op op_rep (pe_lst (pa_cons pe_int pa_nil)) (pv 2)))) pss_nil)
      (pss_one (ps_ret (pe_lc (own := [("_", 5)]) (g := gName 5) (tt := tYes) rfl sc_read_part.nd (pi_range1 (by rfl) T.m_range (pa_cons (pv 2) pa_nil)) (blkOk_by (N := ["reader", "coding", "count", "kind", "number", "_"]) (sc := defScope s_read_part) (by decide +kernel)) (fun _ _ _ _ _ => pg_name (i := 5) sc_read_part.nd rfl (Or.inl rfl)) (fun _ _ _ _ _ => pts_nil) (fun _ _ _ _ _ => (pe_meth (pv 0) T.cl_BitReader T.me_BitReader_read_signed (ok_BitReader_read_signed T) (hr.mono (by decide)) T.b_BitReader_read_signed .nil pass0 (pa_cons (pv 4) pa_nil))))))))), ?_⟩
  refine q_asg2T (ev_var rfl) hq fun H1 e1 => ?_
  have hrice : decide (V.str (kstr c.raw) = V.str "rice") = !c.raw := by cases c.raw <;> decide
  refine q_when (b := !c.raw) (ev_strq "rice" (!c.raw) (ev_var rfl) hrice) (fun hb H2 e2 => ?_) (fun hb H2 e2 => ?_)
  · have hb : c.raw = false := (Bool.not_eq_true' _).mp hb
    have e12 := e1.trans e2
    refine s_retRd (c := c) (part := part) (hR.ex e12) hl hB (ea_cons (ev_var rfl) ea_nil) (fun _ => rfl) (fun i v H3 p1 Q3 hvi hR3 hB3 q3 => ?_) fun p H3 hp hF hg hR3 => k p H3 (fresh_back e12 hp) ((FrA.ex e12).trans hF) hg hR3
    have hvv := hv v (List.mem_of_getElem? hvi)
    unfold valW at hvv
    rw [if_neg (by rw [hb]; decide)] at hvv
    have hvb : valB c v = codeB c.num (foldI v).toNat := by unfold valB; rw [if_neg (by rw [hb]; decide)]
    rw [hvb] at hB3 q3
    exact (ea_cons (ev_var rfl) (ea_cons (ev_var rfl) ea_nil) : EvA _ _ _ [.ref a, .int (c.num : Int)]) H3 (Ex.refl _) _ fun H4 e4 => ⟨a, d, ds, p1, c.num, v, rfl, hR3.ex e4, hc, hvv.2, hB3, fun H5 hF5 hR5 => q3 H5 ((FrA.ex e4).trans hF5) hR5⟩
  have hb : c.raw = true := by cases h : c.raw with | true => rfl | false => rw [h] at hb; cases hb
  have e12 := e1.trans e2
  refine q_when (b := decide (c.num = 0)) (et_test (Ev.is (ev_eq (ev_var rfl) ev_c rfl) (congrArg V.bl (decide_eq_decide.mpr ⟨fun h => by have := V.int.inj h; omega, fun h => by rw [h]; rfl⟩)))) (fun h0 H3 e3 => ?_) (fun h0 H3 e3 => ?_)
  · have h0 := of_decide_eq_true h0
    have e13 := e12.trans e3
    have hz : part = List.replicate part.length 0 := List.eq_replicate_iff.mpr ⟨rfl, fun v hm => by
      have := hv v hm
      unfold valW at this
      rw [if_pos hb, h0] at this
      exact of_decide_eq_true this⟩
    have hfl : part.flatMap (valB c) = [] := by
      refine List.flatMap_eq_nil_iff.mpr fun v _ => List.eq_nil_of_length_eq_zero ?_
      rw [valB_len, if_pos hb, h0]
    refine s_retL (xs := part.map V.int) (EvL.is (el_rep (xs := [V.int 0]) (k := (part.length : Int)) (EvL.r (el_lst (ea_cons ev_c ea_nil) (by decide))) (ev_var rfl) (by omega) (by rw [Int.toNat_natCast]; show 1 * _ ≤ _; omega)) (by rw [Int.toNat_natCast, rep_one]; conv => rhs; rw [hz]; rw [List.map_replicate])) fun p H4 hp e4 g4 => k p H4 (fresh_back e13 hp) (FrA.ex (e13.trans e4)) g4 ?_
    rw [hfl]
    exact hR.1.ex (e13.trans e4)
  · have h0 := of_decide_eq_false h0
    have e13 := e12.trans e3
    refine s_retRd (c := c) (part := part) (hR.ex e13) hl hB (ea_cons (ev_var rfl) ea_nil) (fun _ => rfl) (fun i v H4 p1 Q4 hvi hR4 hB4 q4 => ?_) fun p H4 hp hF hg hR4 => k p H4 (fresh_back e13 hp) ((FrA.ex e13).trans hF) hg hR4
    have hvv := hv v (List.mem_of_getElem? hvi)
    unfold valW at hvv
    rw [if_pos hb] at hvv
    have hvb : valB c v = bitsN c.num (v % 2 ^ c.num).toNat := by unfold valB; rw [if_pos hb]
    rw [hvb, bitsN_len] at q4
    rw [hvb] at hB4
    have hlen := hB4.len
    rw [bitsN_len, bits_flat_len] at hlen
    obtain ⟨dx4, ha4⟩ := id hR4.1
    refine mth (sp := sp_readSN T.C_BitReader) (m := "read_signed") (dvs := []) (vs := [.int (c.num : Int)]) (ev_var rfl) ha4 rfl (ea_cons (ev_var rfl) ea_nil) fun H5 e5 => ⟨a, d, ds, p1, c.num, rfl, (hR4.ex e5).1, (hR4.ex e5).2.1, hR.2.2.1, by omega, hR.2.2.2, hlen, fun H6 hF6 hR6 => ?_⟩
    have hlt : (v % 2 ^ c.num).toNat < 2 ^ c.num := by
      have hp := Nat.two_pow_pos c.num
      have h1 := Int.emod_lt_of_pos v (show (0 : Int) < ((2 ^ c.num : Nat) : Int) by omega)
      rw [← pow_cast] at h1
      rw [pow_cast] at h1 ⊢
      omega
    rw [hB4.val hlt, sg_fit (by omega) hvv]
    exact q4 H6 ((FrA.ex e5).trans hF6) hR6
theorem s_extM {σ : L2.St} {H : Hp} {ta te : TE} {D : Ends} {l : Addr} {xs : List V} (hl : H l = some (.lst xs)) (ha : Ev ta σ H (.ref l)) (he : ∀ H1, Ex H H1 → te σ H1 (fun v H2 => ∃ l' b xs' zs, V.ref l = .ref l' ∧ [v] = [V.ref b] ∧ H2 l' = some (.lst xs') ∧ H2 b = some (.lst zs) ∧ xs'.length + zs.length ≤ sizeLine ∧ D.nx σ (upd H2 l' (.lst (xs' ++ zs))))) : tDrop (tBM K "list" rExtend ta (tCons te tNil)) D σ H :=
  ha H (Ex.refl H) _ fun H1 e1 => ⟨.inl ⟨rfl, _, sq_of (e1 _ _ hl)⟩, he H1 e1⟩
def sp_rres (C : Addr) : Sp := fun vs H Q _ => ∃ (a d : Addr) (ds : List Nat) (pos m n o wd : Nat) (cds : List Cd) (rs : List Int), vs = [.ref a, .int ((wd * 2 ^ n : Nat) : Int), .int (o : Int)] ∧ RdD C H a d ds pos ∧ n ≤ 15 ∧ m ≤ 1 ∧ cds.length = 2 ^ n ∧ rs.length + o = wd * 2 ^ n ∧ o < wd ∧ rs.length ≤ 40000 ∧ (∀ c ∈ cds, cdOk m c) ∧ (∀ i, i < 2 ^ n → ∀ v ∈ partL rs o wd i, valW (cds.getD i ⟨false, 0⟩) v) ∧ Has (ds.flatMap bits8) pos (planB m n cds rs o wd (2 ^ n)) ∧
  ∀ t tp tc pr qs H', H t = none → H pr = none → FrA a H H' → H' t = some (.tup [.ref tp, .ref pr]) → H' tp = some (.tup [.int (m : Int), .int (n : Int), .ref tc]) → CdsT H' tc qs cds → H' pr = some (.lst (rs.map V.int)) → RdAt C H' a d (pos + (planB m n cds rs o wd (2 ^ n)).length) → Q (.ref t) H'
theorem ok_read_residuals (T : TX K mg) : FnOk P w K mg base CX0 7 T.a_read_residuals T.d_read_residuals ["reader", "size", "order"] (sp_rres T.C_BitReader) := by
  refine T.F_read_residuals.ok sc_read_residuals (fun vs H Q E h => by obtain ⟨a, d, ds, pos, m, n, o, wd, cds, rs, rfl, _⟩ := h; rfl) (fun cdv A outer s H vs Q E hr h => ?_)
  obtain ⟨a, d, ds, pos, m, n, o, wd, cds, rs, rfl, hR, hn, hm, hcl, hl, how, hrl, hcd, hval, hB, k⟩ := h
  refine ⟨_, (pss_cons (ps_set (i := 3) sc_read_residuals.nd rfl (Or.inl rfl) (pe_call (ok_read_method T) (hr.mono (by decide)) (by rfl) T.g_read_method T.F_read_method.kp T.b_read_method .nil pass0 (pa_cons (pv 0) pa_nil)))
      (pss_cons (ps_set (i := 4) sc_read_residuals.nd rfl (Or.inl rfl) (pe_call (ok_read_partition_order T) (hr.mono (by decide)) (by rfl) T.g_read_partition_order T.F_read_partition_order.kp T.b_read_partition_order .nil pass0 (pa_cons (pv 0) (pa_cons (pv 1) (pa_cons (pv 2) pa_nil)))))
      (pss_cons (ps_set (i := 5) sc_read_residuals.nd rfl (Or.inl rfl) (pe_lst pa_nil))
      (pss_cons (ps_set (i := 6) sc_read_residuals.nd rfl (Or.inl rfl) (pe_lst pa_nil))
      (pss_cons (ps_for PassesOwn.never rfl (pi_list (pe_call (ok_partition_sizes T) (hr.mono (by decide)) (by rfl) T.g_partition_sizes T.F_partition_sizes.kp T.b_partition_sizes .nil pass0 (pa_cons (pv 1) (pa_cons (pv 2) (pa_cons (pv 4) pa_nil))))) (pg_name (i := 7) sc_read_residuals.nd rfl (Or.inl rfl)) (pss_cons (ps_set (i := 8) sc_read_residuals.nd rfl (Or.inl rfl) (pe_call (ok_read_coding T) (hr.mono (by decide)) (by rfl) T.g_read_coding T.F_read_coding.kp T.b_read_coding .nil pass0 (pa_cons (pv 0) (pa_cons (pv 3) pa_nil))))
        (pss_cons (ps_expr (pe_bm PySem.F.plainAttrs_list PySem.F.slot_list_append PySem.F.type_list_append mt_append (pv 5) (pa_cons (pv 8) pa_nil)))
        (pss_one (ps_expr (pe_bm PySem.F.plainAttrs_list PySem.F.slot_list_extend PySem.F.type_list_extend mt_extend (pv 6) (pa_cons (pe_call (ok_read_part T) (hr.mono (by decide)) (by rfl) T.g_read_part T.F_read_part.kp T.b_read_part .nil pass0 (pa_cons (pv 0) (pa_cons (pv 8) (pa_cons (pv 7) pa_nil)))) pa_nil)))))))
      (pss_one (ps_ret (pe_tup (pa_cons (pe_tup (pa_cons (pv 3) (pa_cons (pv 4) (pa_cons (pe_callTy call_tuple_of (by rfl) T.m_tuple PyProof.Rows.boot_tuple (pa_cons (pv 5) pa_nil)) pa_nil)))) (pa_cons (pv 6) pa_nil)))))))))), ?_⟩
  have hp2 := Nat.two_pow_pos n
  have hp15 : 2 ^ n ≤ 32768 := Nat.pow_le_pow_right (n := 2) (j := 15) (by decide) hn
  have hB0 : Has (ds.flatMap bits8) pos (bitsN 2 m ++ bitsN 4 n) := by
    obtain ⟨r, hr⟩ := planB_pre m n cds rs o wd (2 ^ n) 0 (by omega)
    rw [hr] at hB
    exact (hB : Has _ _ ((bitsN 2 m ++ bitsN 4 n) ++ _)).l
  have hB1 := hB0.r
  rw [bitsN_len] at hB1
  refine q_asgC (vs := [.ref a]) (ea_cons (ev_var rfl) ea_nil) fun H1 e1 => ⟨a, d, ds, pos, m, rfl, hR.ex e1, hm, hB0.l, fun H2 hF2 hR2 => ?_⟩
  have hF02 := (FrA.ex e1).trans hF2
  have hRD2 := hR.to hF02 hR2
  refine q_asgC (vs := [.ref a, .int ((wd * 2 ^ n : Nat) : Int), .int (o : Int)]) (ea_cons (ev_var rfl) (ea_cons (ev_var rfl) (ea_cons (ev_var rfl) ea_nil))) fun H3 e3 => ⟨a, d, ds, pos + 2, n, wd * 2 ^ n, o, rfl, hRD2.ex e3, hn, hB1, Nat.mul_mod_left _ _, by rw [Nat.mul_div_cancel _ hp2]; exact how, fun H4 hF4 hR4 => ?_⟩
  have hF04 := hF02.trans ((FrA.ex e3).trans hF4)
  have hRD4 := hR.to hF04 hR4
  have hback : ∀ {G : Hp} {q : Addr}, Ex H4 G → G q = none → H q = none := fun e hq => hF04.back (fresh_back e hq) (by obtain ⟨dx, ha⟩ := hR4; exact ⟨_, ha⟩)
  refine q_asgL (xs := []) (el_lst ea_nil (by decide)) fun pc H5 hpc e5 gc => ?_
  refine q_asgL (xs := []) (el_lst ea_nil (by decide)) fun pr H6 hpr e6 gr => ?_
  have e46 := e5.trans e6
  have npcr : pc ≠ pr := ne_of_none gc hpr
  have hpcH := hback (Ex.refl _) hpc
  have hprH := hback e5 hpr
  obtain ⟨dxa, hoa⟩ := id hR4
  have npca : pc ≠ a := by rintro rfl; rw [hoa] at hpc; cases hpc
  have npra : pr ≠ a := by rintro rfl; rw [e5 _ _ hoa] at hpr; cases hpr
  have npcd : pc ≠ d := by rintro rfl; rw [hRD4.2.1] at hpc; cases hpc
  have nprd : pr ≠ d := by rintro rfl; rw [e5 _ _ hRD4.2.1] at hpr; cases hpr
  show tSeq _ _ _ [some (.ref a), some (.int ((wd * 2 ^ n : Nat) : Int)), some (.int (o : Int)), some (.int (m : Int)), some (.int (n : Int)), some (.ref pc), some (.ref pr), none, none] _
  have hdiv : (((wd * 2 ^ n : Nat) : Int)) / 2 ^ n = (wd : Int) := by rw [pow_cast, ← Int.natCast_ediv, Nat.mul_div_cancel _ hp2]
  refine q_forL' (xs := ((((wd : Int) - (o : Int)) :: List.replicate (2 ^ n - 1) (wd : Int))).map V.int) (EvL.is (el_sizes (s := ((wd * 2 ^ n : Nat) : Int)) (ev_var rfl) (ev_var rfl) (ev_var rfl) (by omega)) (by rw [hdiv])) fun psz H7 hpsz e7 gsz => ?_
  have nszc : psz ≠ pc := by rintro rfl; rw [e6 _ _ gc] at hpsz; cases hpsz
  have nszr : psz ≠ pr := by rintro rfl; rw [gr] at hpsz; cases hpsz
  have e47 := e46.trans e7
  have nsza : psz ≠ a := by rintro rfl; rw [e46 _ _ hoa] at hpsz; cases hpsz
  refine q_forLn (K := K) (a := psz) ev_c (sq_of gsz) (fun i σ' H' => ∃ (qs : List Addr) (z7 z8 : Option V), σ' = [some (.ref a), some (.int ((wd * 2 ^ n : Nat) : Int)), some (.int (o : Int)), some (.int (m : Int)), some (.int (n : Int)), some (.ref pc), some (.ref pr), z7, z8] ∧ FrA a H H' ∧ RdD T.C_BitReader H' a d ds (pos + (planB m n cds rs o wd i).length) ∧ H' psz = some (.lst (((((wd : Int) - (o : Int)) :: List.replicate (2 ^ n - 1) (wd : Int))).map V.int)) ∧ H' pc = some (.lst (qs.map V.ref)) ∧ H' pr = some (.lst ((rs.take (startN o wd i)).map V.int)) ∧ qs.length = i ∧ ∀ (j : Nat) q c, qs[j]? = some q → cds[j]? = some c → CdAt H' q c) (fun H8 e8 => ⟨[], none, none, rfl, hF04.trans (FrA.ex (e47.trans e8)), ?_, e8 _ _ gsz, (e6.trans (e7.trans e8)) _ _ gc, ?_, rfl, fun j q c h => by simp at h⟩) (fun i σ' H' _ h => by obtain ⟨_, _, _, _, _, _, g, _⟩ := h; exact sq_of g) ?_ ?_
  · have : (planB m n cds rs o wd 0).length = 6 := planB_len m n cds rs o wd 0
    rw [this]
    exact hRD4.ex (e47.trans e8)
  · rw [show startN o wd 0 = 0 by unfold startN; rw [Nat.zero_mul, Nat.zero_sub]]
    exact (e7.trans e8) _ _ gr
  · rintro i x σ' H8 hx ⟨qs, z7, z8, rfl, hF8, hR8, gs8, gc8, gr8, hql, hcd8⟩
    obtain ⟨cnt, hcnt, hi, rfl⟩ := int_at hx
    rw [List.length_cons, List.length_replicate] at hi
    have hi2 : i < 2 ^ n := by omega
    rw [size_at hi2 (by omega)] at hcnt
    obtain rfl := Option.some.inj hcnt
    have hci : cds[i]? = some cds[i] := List.getElem?_eq_getElem (by omega)
    have hgd : cds.getD i ⟨false, 0⟩ = cds[i] := by rw [List.getD_eq_getElem?_getD, hci]; rfl
    have hck : cdOk m (cds.getD i ⟨false, 0⟩) := by rw [hgd]; exact hcd _ (List.getElem_mem (by omega))
    have hBi := planB_at hB hi2
    have hvi := hval i hi2
    have hpl := part_len hl (show o ≤ wd by omega) hi2
    have hst := start_next (o := o) (w := wd) (i := i) (by omega)
    have hpb : (planB m n cds rs o wd (i + 1)).length = (planB m n cds rs o wd i).length + ((cdB m (cds.getD i ⟨false, 0⟩)).length + ((partL rs o wd i).flatMap (valB (cds.getD i ⟨false, 0⟩))).length) := by rw [planB_succ, List.length_append, List.length_append]
    have htk : rs.take (startN o wd (i + 1)) = rs.take (startN o wd i) ++ partL rs o wd i := by
      rw [← hst]
      unfold partL
      rw [List.take_add]
    have hle : startN o wd (i + 1) ≤ rs.length := by
      unfold startN
      have : (i + 1) * wd ≤ 2 ^ n * wd := Nat.mul_le_mul_right _ hi2
      rw [Nat.mul_comm (2 ^ n)] at this
      omega
    have hgc : ∀ c, cds[i]? = some c → c = cds.getD i ⟨false, 0⟩ := fun c h => by rw [hgd]; rw [hci] at h; exact (Option.some.inj h).symm
    rw [hpb, htk]
    clear hpb htk hgd hci
    generalize cds.getD i ⟨false, 0⟩ = c at *
    generalize partL rs o wd i = part at *
    obtain ⟨pp, hpp⟩ : ∃ pp, pos + (planB m n cds rs o wd i).length = pp := ⟨_, rfl⟩
    rw [← Nat.add_assoc]
    rw [hpp] at hR8 hBi ⊢
    have hBp := hBi.r
    refine q_asgC (vs := [.ref a, .int (m : Int)]) (ea_cons (ev_var rfl) (ea_cons (ev_var rfl) ea_nil)) fun H9 e9 => ⟨a, d, ds, pp, m, c, rfl, hR8.ex e9, hm, hck, hBi.l, fun q H10 hq hF10 hq10 hR10 => ?_⟩
    have hF810 := (FrA.ex e9).trans hF10
    have hRD10 := hR8.to hF810 hR10
    have gc10 := hF810 _ _ npca gc8
    have gr10 := hF810 _ _ npra gr8
    have gs10 := hF810 _ _ nsza gs8
    refine q_app (v := .ref q) gc10 (ev_var rfl) (ev_var rfl) (by rw [List.length_map]; omega) fun H11 e11 => ?_
    have hRD11 := (hRD10.ex e11).mut (o := .lst (qs.map V.ref ++ [.ref q])) npca npcd
    have gc11 : (upd H11 pc (.lst (qs.map V.ref ++ [.ref q]))) pc = some (.lst ((qs ++ [q]).map V.ref)) := by rw [upd_same, List.map_append]; rfl
    have gr11 : (upd H11 pc (.lst (qs.map V.ref ++ [.ref q]))) pr = some (.lst ((rs.take (startN o wd i)).map V.int)) := by rw [upd_ne (Ne.symm npcr)]; exact e11 _ _ gr10
    have gs11 : (upd H11 pc (.lst (qs.map V.ref ++ [.ref q]))) psz = some (.lst (((((wd : Int) - (o : Int)) :: List.replicate (2 ^ n - 1) (wd : Int))).map V.int)) := by rw [upd_ne nszc]; exact e11 _ _ gs10
    have ntup : ∀ {G : Hp} {l : Addr} {ys : List V} {o' : HO} {t : Addr} {xs : List V}, G l = some (.lst ys) → G t = some (.tup xs) → (upd G l o') t = some (.tup xs) := fun hl ht => by rw [upd_ne (by rintro rfl; rw [hl] at ht; cases ht)]; exact ht
    have hcd11 : ∀ (j : Nat) q' c', (qs ++ [q])[j]? = some q' → cds[j]? = some c' → CdAt (upd H11 pc (.lst (qs.map V.ref ++ [.ref q]))) q' c' := fun j q' c' h1 h2 => by
      refine ntup (e11 _ _ gc10) (e11 _ _ ?_)
      by_cases hj : j < i
      · rw [List.getElem?_append_left (by omega)] at h1
        have := hcd8 j q' c' h1 h2
        exact hF810 _ _ (hR8.neT this) this
      · have hlt := (List.getElem?_eq_some_iff.mp h1).1
        rw [List.length_append] at hlt
        have hlt : j < qs.length + 1 := hlt
        obtain rfl : j = i := by omega
        rw [List.getElem?_append_right (by omega), hql, Nat.sub_self] at h1
        cases h1
        rw [hgc c' h2]
        exact hq10
    have hF11 : FrA a H (upd H11 pc (.lst (qs.map V.ref ++ [.ref q]))) := fun b o' nb hb => by
      rw [upd_ne (by rintro rfl; rw [hpcH] at hb; cases hb)]
      exact e11 _ _ (hF810 _ _ nb (hF8 _ _ nb hb))
    have hq11 : CdAt (upd H11 pc (.lst (qs.map V.ref ++ [.ref q]))) q c := ntup (e11 _ _ gc10) (e11 _ _ hq10)
    generalize upd H11 pc (.lst (qs.map V.ref ++ [.ref q])) = G at *
    refine s_extM gr11 (ev_var rfl) fun H12 e12 => ?_
    refine (ea_cons (ev_var rfl) (ea_cons (ev_var rfl) (ea_cons (ev_var rfl) ea_nil)) : EvA _ _ _ [.ref a, .ref q, .int ((sizeN o wd i : Nat) : Int)]) H12 (Ex.refl _) _ fun H13 e13 => ⟨a, d, q, ds, _, c, part, by rw [hpl]; rfl, hRD11.ex (e12.trans e13), (e12.trans e13) _ _ hq11, hck.1, hvi, by omega, hBp, fun pv H14 hpv hF14 gv hR14 => ?_⟩
    have hFG := (FrA.ex (e12.trans e13)).trans hF14
    refine ⟨pr, pv, _, _, rfl, rfl, hFG _ _ npra gr11, gv, sz_of (by rw [List.length_map, List.length_map, List.length_take]; omega), ?_⟩
    refine ⟨qs ++ [q], _, _, rfl, fun b o' nb hb => ?_, ?_, ?_, ?_, ?_, by rw [List.length_append, hql]; rfl, fun j q' c' h1 h2 => ?_⟩
    · rw [upd_ne (by rintro rfl; rw [hprH] at hb; cases hb)]
      exact hFG _ _ nb (hF11 _ _ nb hb)
    · rw [← Nat.add_assoc]
      exact (hRD11.to hFG hR14).mut npra nprd
    · rw [upd_ne nszr]
      exact hFG _ _ nsza gs11
    · rw [upd_ne npcr]
      exact hFG _ _ npca gc11
    · rw [upd_same, List.map_append]
    · have := hcd11 j q' c' h1 h2
      exact ntup (hFG _ _ npra gr11) (hFG _ _ (hRD11.neT this) this)
  · rintro σ' H8 ⟨qs, z7, z8, rfl, hF8, hR8, gs8, gc8, gr8, hql, hcd8⟩
    rw [List.length_map, List.length_cons, List.length_replicate, show 2 ^ n - 1 + 1 = 2 ^ n by omega] at hql hR8 gr8
    have htk : rs.take (startN o wd (2 ^ n)) = rs := List.take_of_length_le (by unfold startN; rw [Nat.mul_comm]; omega)
    rw [htk] at gr8
    refine ⟨.int (m : Int), rfl, .int (n : Int), rfl, .ref pc, rfl, pc, qs.map V.ref, rfl, .inl ⟨sq_of gc8, fun tc htc => ⟨sz_of (show 3 ≤ 100000 by decide), fun tp htp => ⟨.ref pr, rfl, sz_of (show 2 ≤ 100000 by decide), fun t ht => ?_⟩⟩⟩⟩
    have x1 := Ex.new (o := .tup (qs.map V.ref)) htc
    have x2 := Ex.new (o := .tup [.int (m : Int), .int (n : Int), .ref tc]) htp
    have x3 := Ex.new (o := .tup [.ref tp, .ref pr]) ht
    have x13 := x1.trans (x2.trans x3)
    have gtc := (x2.trans x3) _ _ (upd_same (H := H8) (a := tc) (o := .tup (qs.map V.ref)))
    have hoa8 : ∃ o, H8 a = some o := by obtain ⟨⟨dx, ha⟩, _⟩ := hR8; exact ⟨_, ha⟩
    exact k t tp tc pr qs _ (hF8.back (fresh_back (x1.trans x2) ht) hoa8) hprH (hF8.trans (FrA.ex x13)) upd_same (x3 _ _ upd_same) ⟨gtc, by omega, fun i q c h1 h2 => x13 _ _ (hcd8 i q c h1 h2)⟩ (x13 _ _ gr8) (hR8.1.ex x13)

/-! ### raw widths, rice bits -/
theorem p2c (j : Nat) : ((2 : Int) ^ j) = ((2 ^ j : Nat) : Int) := by rw [Int.natCast_pow]; rfl
theorem p2pos (j : Nat) : (0 : Int) < 2 ^ j := Int.pow_pos (by decide)
theorem foldI_nn2 (n : Int) : 0 ≤ foldI n := by unfold foldI; split <;> omega
theorem maxI_nn {us : List Int} (h : ∀ u ∈ us, 0 ≤ u) : 0 ≤ maxI 0 us ∧ (maxI 0 us = 0 ∨ maxI 0 us ∈ us) ∧ ∀ u ∈ us, u ≤ maxI 0 us := by
  cases us with
  | nil => exact ⟨Int.le_refl _, .inl rfl, fun u hu => by cases hu⟩
  | cons x r =>
    obtain ⟨h1, h2, h3⟩ := foldl_max r x
    have hx := h x (List.mem_cons_self ..)
    refine ⟨Int.le_trans hx h2, .inr ?_, fun u hu => ?_⟩
    · rcases h1 with e | e
      · show r.foldl max x ∈ x :: r
        rw [e]
        exact List.mem_cons_self ..
      · exact List.mem_cons_of_mem _ e
    · rcases List.mem_cons.mp hu with rfl | hu
      · exact h2
      · exact h3 u hu
theorem maxI_lt {us : List Int} {B : Int} (h : ∀ u ∈ us, 0 ≤ u) (hB : 0 < B) : maxI 0 us < B ↔ ∀ u ∈ us, u < B := by
  obtain ⟨h0, h1, h2⟩ := maxI_nn h
  refine ⟨fun hl u hu => Int.lt_of_le_of_lt (h2 u hu) hl, fun hl => ?_⟩
  rcases h1 with e | e
  · rw [e]
    exact hB
  · exact hl _ e
theorem bits_lt {m : Int} (h0 : 0 ≤ m) (j : Nat) : m < 2 ^ j ↔ Builtin.Int.intBits m ≤ j := by
  rw [p2c]
  unfold Builtin.Int.intBits
  have hp := Nat.two_pow_pos j
  split
  · rename_i hz
    have hz : m = 0 := by simpa using hz
    omega
  · rename_i hz
    have hz : m ≠ 0 := fun e => hz (by simp [e])
    have hl := Nat.log2_lt (n := m.natAbs) (k := j) (by omega)
    omega
def widI (ns : List Int) : Nat := Builtin.Int.intBits (maxI 0 (ns.map foldI))
theorem folds_nn (ns : List Int) : ∀ u ∈ ns.map foldI, 0 ≤ u := fun u hu => by
  obtain ⟨n, _, rfl⟩ := List.mem_map.mp hu
  exact foldI_nn2 n
theorem widI_le {ns : List Int} {j : Nat} : widI ns ≤ j ↔ ∀ n ∈ ns, foldI n < 2 ^ j := by
  unfold widI
  rw [← bits_lt (maxI_nn (folds_nn ns)).1 j, maxI_lt (folds_nn ns) (p2pos j)]
  exact ⟨fun h n hn => h _ (List.mem_map_of_mem hn), fun h u hu => by obtain ⟨n, hn, rfl⟩ := List.mem_map.mp hu; exact h n hn⟩
def sp_width (K : PySem.W.Frag) : Sp := fun vs H Q _ => ∃ (a : Addr) (us : List Int), vs = [.ref a] ∧ SqL K H a (us.map V.int) ∧ RetV (.int ((Builtin.Int.intBits (maxI 0 us) : Nat) : Int)) H Q
theorem ok_width (T : TX K mg) : FnOk P w K mg base CX0 1 T.a_width T.d_width ["folded"] (sp_width K) := by
  refine T.F_width.ok sc_width (fun vs H Q E h => by obtain ⟨a, us, rfl, _⟩ := h; rfl) (fun cdv A outer s H vs Q E hr h => ?_)
  obtain ⟨a, us, rfl, hS, k⟩ := h
  refine ⟨_, (pss_one (ps_ret (pe_bits (pe_callBK (cr_maxDef (hu64 hr)) (by rfl) T.m_max PyProof.Rows.boot_max (pa_cons (pv 0) pa_nil) (pk_cons pe_int pk_nil))))), ?_⟩
  exact s_ret (ev_bits (ev_maxD (Ev.s (ev_var rfl) hS) ev_c)) fun H1 e1 => k H1 e1
theorem ev_width {σ : L2.St} {H : Hp} {te : TE} {E : XK} {us : List Int} (h : EvS K te σ H (us.map V.int)) : Ev (tCall (sp_width K) [] E (tCons te tNil)) σ H (.int ((Builtin.Int.intBits (maxI 0 us) : Nat) : Int)) := fun H1 e Q q =>
  h H1 e _ fun p H2 e2 hp => ⟨p, us, rfl, hp, fun H3 e3 => q H3 (e2.trans e3)⟩

def sp_isint : Sp := fun vs H Q _ => ∃ n : Int, vs = [.int n] ∧ RetV (.bl true) H Q
theorem ok_law_integer (T : TX K mg) : FnOk P w K mg base CX0 1 T.a_law_integer T.d_law_integer ["value"] sp_isint := by
  refine T.F_law_integer.ok sc_law_integer (fun vs H Q E h => by obtain ⟨n, rfl, _⟩ := h; rfl) (fun cdv A outer s H vs Q E hr h => ?_)
  obtain ⟨n, rfl, k⟩ := h
  refine ⟨_, (pss_one (ps_ret (pe_and (pe_callB (r := rIsi K) call_isi (by rfl) T.m_isinstance PyProof.Rows.boot_isinstance (pa_cons (pv 0) (pa_cons (pe_bltn (v := V.ty "int") (by rfl) T.m_int PyProof.Rows.boot_int rfl) pa_nil))) (pe_one (pe_not (pe_callB (r := rIsi K) call_isi (by rfl) T.m_isinstance PyProof.Rows.boot_isinstance (pa_cons (pv 0) (pa_cons (pe_bltn (v := V.ty "bool") (by rfl) T.m_bool PyProof.Rows.boot_bool rfl) pa_nil)))))))), ?_⟩
  walk_at "ret"
  intro H2 e2
  exact ret_eq k e2 rfl
theorem ev_isint {σ : L2.St} {H : Hp} {te : TE} {E : XK} {n : Int} (h : Ev te σ H (.int n)) : Ev (tCall sp_isint [] E (tCons te tNil)) σ H (.bl true) := ev_call (ea_cons h ea_nil) fun H1 _ Q q _ => ⟨n, rfl, q⟩

/-! ### abs, int of a bool, the law's rows -/
theorem ev_abs {σ : L2.St} {H : Hp} {te : TE} {i : Int} (h : Ev te σ H (.int i)) : Ev (tCB (fun xs H Q => ∃ i, xs = [V.int i] ∧ Q (V.int (if i < 0 then -i else i)) H) (tCons te tNil)) σ H (.int (if i < 0 then -i else i)) :=
  ev_cb (ea_cons h ea_nil) fun H1 _ Q q => ⟨i, rfl, q H1 (Ex.refl H1)⟩
theorem ev_intB {σ : L2.St} {H : Hp} {te : TE} {b : Bool} (h : Ev te σ H (.bl b)) : Ev (tCB (fun xs H Q => (∃ i, xs = [V.int i] ∧ Q (V.int i) H) ∨ ∃ k, xs = [V.bl k] ∧ Q (V.int (if k = true then 1 else 0)) H) (tCons te tNil)) σ H (.int (if b = true then 1 else 0)) :=
  ev_cb (ea_cons h ea_nil) fun H1 _ Q q => .inr ⟨b, rfl, q H1 (Ex.refl H1)⟩
def sp_lrow : Sp := fun vs H Q _ => ∃ (c : Int) (n : Nat) (b : Int), vs = [.int c, .int (n : Int), .int b] ∧ n ≤ 1000 ∧ 0 < b ∧ b ≤ 2 ^ 50 ∧ ∀ p (ns : List Int) H', H p = none → Ex H H' → H' p = some (.lst (ns.map V.int)) → ns.length = n → (∀ x ∈ ns, 0 ≤ x ∧ x < b) → Q (.ref p) H'
theorem ok_law_row (T : TX K mg) : FnOk P w K mg base CX0 1 T.a_law_row T.d_law_row ["cell", "count", "bound"] sp_lrow := by
  refine T.F_law_row.ok sc_law_row (fun vs H Q E h => by obtain ⟨c, n, b, rfl, _⟩ := h; rfl) (fun cdv A outer s0 H vs Q E hr h => ?_)
  obtain ⟨c, n, b, rfl, hn, hb0, hb1, k⟩ := h
  refine ⟨_, (pss_cons (ps_set (i := 3) sc_law_row.nd rfl (Or.inl rfl) (pe_callB call_abs (by rfl) T.m_abs PyProof.Rows.boot_abs (pa_cons (pe_callTy call_int1 (by rfl) T.m_int PyProof.Rows.boot_int (pa_cons (pv 0) pa_nil)) pa_nil)))
      (pss_cons (ps_set (i := 4) sc_law_row.nd rfl (Or.inl rfl) (pe_op op_add (pe_op op_mod (pe_callTy call_int1 (by rfl) T.m_int PyProof.Rows.boot_int (pa_cons (pv 0) pa_nil)) pe_int) pe_int))
      (pss_cons (ps_set (i := 5) sc_law_row.nd rfl (Or.inl rfl) (pe_lst pa_nil))
      (pss_cons (ps_for PassesOwn.never rfl (pi_range1 (by rfl) T.m_range (pa_cons (pv 1) pa_nil)) (pg_name (i := 6) sc_law_row.nd rfl (Or.inl rfl)) (pss_one (ps_if (pt_cmpR op_ge (pv 3) (pv 2) (nomark _)) (pss_cons (ps_expr (pe_bm PySem.F.plainAttrs_list PySem.F.slot_list_append PySem.F.type_list_append mt_append (pv 5) (pa_cons (pe_op op_mod (pe_callTy call_int1 (by rfl) T.m_int PyProof.Rows.boot_int (pa_cons (pv 3) pa_nil)) (pv 2)) pa_nil)))
          (pss_one (ps_set (i := 3) sc_law_row.nd rfl (Or.inl rfl) (pe_op op_fdivW (pv 3) (pv 2))))) (pss_cons (ps_set (i := 4) sc_law_row.nd rfl (Or.inl rfl) (pe_op op_mod (pe_callTy call_int1 (by rfl) T.m_int PyProof.Rows.boot_int (pa_cons (pe_op op_add (pe_op op_add (pe_op op_mul (pv 4) pe_int) (pe_op op_mul pe_int (pv 6))) pe_int) pa_nil)) pe_int))
          (pss_one (ps_expr (pe_bm PySem.F.plainAttrs_list PySem.F.slot_list_append PySem.F.type_list_append mt_append (pv 5) (pa_cons (pe_op op_mod (pe_callTy call_int1 (by rfl) T.m_int PyProof.Rows.boot_int (pa_cons (pe_op op_fdivW (pe_op op_mul (pv 4) pe_int) pe_int) pa_nil)) (pv 2)) pa_nil))))))))
      (pss_one (ps_ret (pv 5))))))), ?_⟩
  have hlog : b.natAbs.log2 < 9000 := by
    have : b.natAbs < 2 ^ 51 := by omega
    have := (Nat.log2_lt (n := b.natAbs) (k := 51) (by omega)).mpr this
    omega
  refine q_asg (ev_abs (ev_int1 (ev_var rfl))) fun H1 e1 => ?_
  refine q_asg (ev_I0 (ev_I (ev_int1 (ev_var rfl)) ev_c (by decide)) ev_c) fun H2 e2 => ?_
  refine q_asgL (xs := []) (el_lst ea_nil (by decide)) fun p H3 hp3 e3 g3 => ?_
  have hp := fresh_back (e1.trans e2) hp3
  have e13 := (e1.trans e2).trans e3
  generalize (if c < 0 then -c else c) = re0
  generalize c % 1000003 + 1 = mx0
  refine q_forR1 (n := (n : Int)) (ea_cons (ev_var rfl) ea_nil) (by omega) (fun i σ' H' => ∃ (re mx : Int) (ns : List Int) (z6 : Option V), σ' = [some (.int c), some (.int (n : Int)), some (.int b), some (.int re), some (.int mx), some (.ref p), z6] ∧ Ex H H' ∧ H' p = some (.lst (ns.map V.int)) ∧ ns.length = i ∧ (∀ x ∈ ns, 0 ≤ x ∧ x < b)) (fun H4 e4 => ⟨re0, mx0, [], none, rfl, e13.trans e4, e4 _ _ g3, rfl, fun x hx => by cases hx⟩) ?_ ?_
  · rintro i σ' H4 hi ⟨re, mx, ns, z6, rfl, ex, gp, hnl, hns⟩
    have snoc : ∀ x : Int, 0 ≤ x → x < b → ∀ y ∈ ns ++ [x], 0 ≤ y ∧ y < b := fun x h0 h1 y hy => by
      rcases List.mem_append.mp hy with h | h
      · exact hns y h
      · rw [List.mem_singleton.mp h]
        exact ⟨h0, h1⟩
    have big : ns.length < 100000 := by omega
    refine s_if (et_test (ev_I0 (ev_var rfl) (ev_var rfl))) (fun _ H5 e5 => ?_) (fun _ H5 e5 => ?_)
    · refine q_app (v := .int (re % b)) (e5 _ _ gp) (ev_var rfl) (ev_I (ev_int1 (ev_var rfl)) (ev_var rfl) hb0) (by rw [List.length_map]; exact big) fun H6 e6 => ?_
      refine s_asg (v := .int (re / b)) (ev_I (ev_var rfl) (ev_var rfl) ⟨hb0, hlog⟩) fun H7 e7 => ⟨re / b, mx, ns ++ [re % b], _, rfl, (Ex.mut (ex.trans (e5.trans e6)) hp).trans e7, e7 _ _ (by rw [upd_same, List.map_append]; rfl), by rw [List.length_append, hnl]; rfl, snoc _ (Int.emod_nonneg _ (by omega)) (Int.emod_lt_of_pos _ hb0)⟩
    · obtain ⟨mx1, hmx⟩ : ∃ mx1, (mx * 48271 + 11 * (i : Int) + 7) % 2147483647 = mx1 := ⟨_, rfl⟩
      refine q_asg (v := .int mx1) (Ev.is (ev_I (ev_int1 (ev_I0 (ev_I0 (ev_I (ev_var rfl) ev_c (.inr (by decide))) (ev_I ev_c (ev_var rfl) (.inl (by decide)))) ev_c)) ev_c (by decide)) (congrArg V.int hmx)) fun H6 e6 => ?_
      refine s_app (v := .int ((mx1 * 2862933555777941757 / 1024) % b)) ((e5.trans e6) _ _ gp) (ev_var rfl) (ev_I (ev_int1 (ev_I (ev_I (ev_var rfl) ev_c (.inr (by decide))) ev_c ⟨by decide, by decide⟩)) (ev_var rfl) hb0) (by rw [List.length_map]; exact big) fun H7 e7 => ⟨re, mx1, ns ++ [(mx1 * 2862933555777941757 / 1024) % b], _, rfl, Ex.mut (ex.trans ((e5.trans e6).trans e7)) hp, by rw [upd_same, List.map_append]; rfl, by rw [List.length_append, hnl]; rfl, snoc _ (Int.emod_nonneg _ (by omega)) (Int.emod_lt_of_pos _ hb0)⟩
  · rintro σ' H4 ⟨re, mx, ns, z6, rfl, ex, gp, hnl, hns⟩
    rw [Int.toNat_natCast] at hnl
    exact s_ret (v := .ref p) (ev_var rfl) fun H5 e5 => k p ns H5 hp (ex.trans e5) (e5 _ _ gp) hnl hns

theorem ev_go {te : TE} {σ : L2.St} {H : Hp} {v : V} {Q : VK} (h : Ev te σ H v) (k : ∀ H2, Ex H H2 → Q v H2) : te σ H Q := h H (Ex.refl H) Q k
theorem el_go {te : TE} {σ : L2.St} {H : Hp} {xs : List V} {Q : VK} (h : EvL te σ H xs) (k : ∀ p H2, H p = none → Ex H H2 → H2 p = some (.lst xs) → Q (.ref p) H2) : te σ H Q := h H (Ex.refl H) Q k
theorem eu_go {te : TE} {σ : L2.St} {H : Hp} {xs : List V} {Q : VK} (h : EvU te σ H xs) (k : ∀ p H2, H p = none → Ex H H2 → H2 p = some (.tup xs) → Q (.ref p) H2) : te σ H Q := h H (Ex.refl H) Q k
theorem ea_go {t : TA} {σ : L2.St} {H : Hp} {vs : List V} {Q : List V → Hp → Prop} (h : EvA t σ H vs) (k : ∀ H2, Ex H H2 → Q vs H2) : t σ H Q := h H (Ex.refl H) Q k

/-- a number of the module -/
theorem ev_relC {σ : L2.St} {H : Hp} {i : Int} {u : Value} (_ : RelV (.int i) u) : Ev (tC (.int i)) σ H (.int i) := ev_c

/-! ### tuples: their kind, their length, a comprehension over one -/
def FrO (a : Addr) (H H' : Hp) : Prop := ∀ b o, b ≠ a → H b = some o → H' b = some o
theorem FrO.ex {a : Addr} {H H' : Hp} (e : Ex H H') : FrO a H H' := fun b o _ h => e b o h
theorem FrO.trans {a : Addr} {H H1 H2 : Hp} (x : FrO a H H1) (y : FrO a H1 H2) : FrO a H H2 := fun b o hb h => y b o hb (x b o hb h)
theorem FrO.upd {a : Addr} {H H' : Hp} {o : HO} (f : FrO a H H') : FrO a H (upd H' a o) := fun b u hb h => by rw [upd_ne hb]; exact f b u hb h
theorem FrO.after {a : Addr} {H0 G H' : Hp} (f : FrO a G H') (e : Ex H0 G) (hn : H0 a = none) : Ex H0 H' := fun b o hb => f b o (by rintro rfl; rw [hn] at hb; cases hb) (e b o hb)
theorem sq_keep {K : PySem.W.Frag} {H B H' : Hp} {p a : Addr} {xs : List V} {e1 : Ex H B} {hp : H p = none} (f : FrO p B H') (h : SqL K H a xs) : SqL K H' a xs := ex_l (FrO.after f e1 hp) h

/-! ### the best entry -/
def sumI (ns : List Int) (k : Nat) : Int := (ns.map fun n => foldI n / 2 ^ k).sum
theorem sum_zero : ∀ {ns : List Int}, (∀ x ∈ ns, x = 0) → ns.sum = 0
  | [], _ => rfl
  | x :: r, h => by
    rw [List.sum_cons, h x (List.mem_cons_self ..), sum_zero fun y hy => h y (List.mem_cons_of_mem _ hy)]
    rfl
theorem sumI_zero {ns : List Int} {k : Nat} (h : widI ns ≤ k) : sumI ns k = 0 := by
  unfold sumI
  refine sum_zero fun x hx => ?_
  obtain ⟨n, hn, rfl⟩ := List.mem_map.mp hx
  have := widI_le.mp h n hn
  exact Int.ediv_eq_zero_of_lt (foldI_nn n) this
def sumsT (ns : List Int) (i : Nat) : List Int := (List.range 31).map fun k => if k < i then sumI ns k else 0
theorem sumsT_len (ns : List Int) (i : Nat) : (sumsT ns i).length = 31 := by unfold sumsT; rw [List.length_map, List.length_range]
theorem sumsT_set (ns : List Int) (i : Nat) : (sumsT ns i).set i (sumI ns i) = sumsT ns (i + 1) := by
  refine List.ext_getElem? fun j => ?_
  unfold sumsT
  rw [List.getElem?_set, List.length_map, List.length_range]
  by_cases hj : j < 31
  · rw [List.getElem?_map, List.getElem?_map, List.getElem?_range hj]
    by_cases h : i = j
    · subst h
      rw [if_pos rfl, if_pos hj]
      show some (sumI ns i) = some (if i < i + 1 then sumI ns i else 0)
      rw [if_pos (by omega)]
    · rw [if_neg h]
      show some (if j < i then sumI ns j else 0) = some (if j < i + 1 then sumI ns j else 0)
      by_cases h2 : j < i
      · rw [if_pos h2, if_pos (by omega)]
      · rw [if_neg h2, if_neg (by omega)]
  · rw [List.getElem?_eq_none (l := List.map _ _) (by rw [List.length_map, List.length_range]; omega)]
    rw [List.getElem?_eq_none (by rw [List.length_map, List.length_range]; omega)]
    by_cases h : i = j
    · rw [if_pos h, if_neg (by omega)]
    · rw [if_neg h]
theorem sumsT_at (ns : List Int) {i k : Nat} (hk : k < 31) (h : k < i ∨ widI ns ≤ k) : (sumsT ns i)[k]? = some (sumI ns k) := by
  unfold sumsT
  rw [List.getElem?_map, List.getElem?_range hk]
  show some (if k < i then sumI ns k else 0) = _
  by_cases h1 : k < i
  · rw [if_pos h1]
  · rw [if_neg h1, sumI_zero (h.resolve_left h1)]
def sumL (ns : List Int) : List Int := (List.range 31).map (sumI ns)
theorem sumL_len (ns : List Int) : (sumL ns).length = 31 := by unfold sumL; rw [List.length_map, List.length_range]
theorem sumL_at (ns : List Int) {k : Nat} (h : k < 31) : (sumL ns)[k]? = some (sumI ns k) := by unfold sumL; rw [List.getElem?_map, List.getElem?_range h]; rfl
theorem sumsT_all {ns : List Int} {i : Nat} (h : i = widI ns ∨ (i = 31 ∧ 31 ≤ widI ns)) : sumsT ns i = sumL ns := by
  refine List.ext_getElem? fun k => ?_
  by_cases hk : k < 31
  · rw [sumL_at ns hk, sumsT_at ns hk (by omega)]
  · rw [List.getElem?_eq_none (by rw [sumsT_len]; omega), List.getElem?_eq_none (by rw [sumL_len]; omega)]
/-- a measured part whose objects are new since B -/
def MsN (B H : Hp) (v : V) (ns : List Int) : Prop := ∃ t s : Addr, v = .ref t ∧ B t = none ∧ B s = none ∧ H t = some (.tup [.int (ns.length : Int), .ref s, .int (widI ns : Int)]) ∧ H s = some (.lst ((sumL ns).map V.int))
theorem MsN.ex {B H H' : Hp} {v : V} {ns : List Int} (h : MsN B H v ns) (e : Ex H H') : MsN B H' v ns := by obtain ⟨t, s, h0, h1, h2, h3, h4⟩ := h; exact ⟨t, s, h0, h1, h2, e _ _ h3, e _ _ h4⟩
theorem MsN.fro {B H H' : Hp} {v : V} {ns : List Int} {c : Addr} {o : HO} (h : MsN B H v ns) (hc : B c = some o) (f : FrO c H H') : MsN B H' v ns := by
  obtain ⟨t, s, h0, h1, h2, h3, h4⟩ := h
  exact ⟨t, s, h0, h1, h2, f _ _ (by rintro rfl; rw [hc] at h1; cases h1) h3, f _ _ (by rintro rfl; rw [hc] at h2; cases h2) h4⟩
theorem none_back {B G : Hp} {c t : Addr} {o : HO} (f : FrO c B G) (hc : G c = some o) (h : G t = none) : B t = none := by
  cases hb : B t with
  | none => rfl
  | some u =>
    by_cases ht : t = c
    · rw [ht, hc] at h
      cases h
    · rw [f t u ht hb] at h
      cases h
theorem MsN.back {B G H : Hp} {v : V} {ns : List Int} {c : Addr} {o : HO} (h : MsN G H v ns) (f : FrO c B G) (hc : G c = some o) : MsN B H v ns := by
  obtain ⟨t, s, h0, h1, h2, h3, h4⟩ := h
  exact ⟨t, s, h0, none_back f hc h1, none_back f hc h2, h3, h4⟩
theorem MsN.low {B G H : Hp} {v : V} {ns : List Int} (h : MsN G H v ns) (e : Ex B G) : MsN B H v ns := by
  obtain ⟨t, s, h0, h1, h2, h3, h4⟩ := h
  exact ⟨t, s, h0, fresh_back e h1, fresh_back e h2, h3, h4⟩
def PtAt (B H : Hp) (a : Addr) (n : Nat) (f : Nat → List Int) : Prop := ∃ vs : List V, H a = some (.lst vs) ∧ B a = none ∧ vs.length = n ∧ ∀ i, i < n → ∃ v, vs[i]? = some v ∧ MsN B H v (f i)
theorem PtAt.ex {B H H' : Hp} {a : Addr} {n : Nat} {f : Nat → List Int} (h : PtAt B H a n f) (e : Ex H H') : PtAt B H' a n f := by
  obtain ⟨vs, h1, h2, h3, h4⟩ := h
  exact ⟨vs, e _ _ h1, h2, h3, fun i hi => by obtain ⟨v, g1, g2⟩ := h4 i hi; exact ⟨v, g1, g2.ex e⟩⟩
theorem PtAt.fro {B H H' : Hp} {a c : Addr} {n : Nat} {f : Nat → List Int} {o : HO} (h : PtAt B H a n f) (hc : B c = some o) (x : FrO c H H') : PtAt B H' a n f := by
  obtain ⟨vs, h1, h2, h3, h4⟩ := h
  exact ⟨vs, x _ _ (by rintro rfl; rw [hc] at h2; cases h2) h1, h2, h3, fun i hi => by obtain ⟨v, g1, g2⟩ := h4 i hi; exact ⟨v, g1, g2.fro hc x⟩⟩
theorem PtAt.back {B G H : Hp} {a c : Addr} {n : Nat} {g : Nat → List Int} {o : HO} (h : PtAt G H a n g) (f : FrO c B G) (hc : G c = some o) : PtAt B H a n g := by
  obtain ⟨vs, h1, h2, h3, h4⟩ := h
  exact ⟨vs, h1, none_back f hc h2, h3, fun i hi => by obtain ⟨v, g1, g2⟩ := h4 i hi; exact ⟨v, g1, g2.back f hc⟩⟩
def sp_meas (K : PySem.W.Frag) : Sp := fun vs H Q _ => ∃ (a : Addr) (ns : List Int), vs = [.ref a] ∧ SqL K H a (ns.map V.int) ∧ ns.length ≤ 40000 ∧ ∀ v H', Ex H H' → MsN H H' v ns → Q v H'
theorem ok_measured (T : TX K mg) : FnOk P w K mg base CX0 2 T.a_measured T.d_measured ["residuals"] (sp_meas K) := by
  refine T.F_measured.ok sc_measured (fun vs H Q E h => by obtain ⟨a, ns, rfl, _⟩ := h; rfl) (fun cdv A outer s0 H vs Q E hr h => ?_)
  obtain ⟨a, ns, rfl, hS, hl, q⟩ := h
  refine ⟨_, (pss_cons (ps_setLc (i := 1) (own := [("residual", 5)]) (g := gName 5) (tt := tYes) rfl sc_measured.nd rfl rfl (sw_true rfl rfl rfl (by decide +kernel)) (pi_list (pv 0)) (blkOk_by (N := ["residuals", "folded", "width", "sums", "k", "residual", "value"]) (sc := defScope s_measured) (by decide +kernel)) (fun _ _ _ _ _ => pg_name (i := 5) sc_measured.nd rfl (Or.inl rfl)) (fun _ _ _ _ _ => pts_nil) (fun _ _ _ _ _ => (pe_call (ok_fold T) (hr.mono (by decide)) (by rfl) T.g_fold T.F_fold.kp T.b_fold .nil pass0 (pa_cons (pv 5) pa_nil))))
      (pss_cons (ps_set (i := 2) sc_measured.nd rfl (Or.inl rfl) (pe_call (ok_width T) (hr.mono (by decide)) (by rfl) T.g_width T.F_width.kp T.b_width .nil pass0 (pa_cons (pv 1) pa_nil)))
      (pss_cons (ps_set (i := 3) sc_measured.nd rfl (Or.inl rfl) (pe_op op_rep (pe_lst (pa_cons pe_int pa_nil)) (pe_ix (r := rIxT K) ix_tup (pe_glob (v := V.ref T.A_PARAMETERS) (by rfl) T.c_PARAMETERS rfl) pe_int (fun _ _ => rfl))))
      (pss_cons (ps_for PassesOwn.never rfl (pi_range1 (by rfl) T.m_range (pa_cons (pe_callB (call_min2 rfl) (by rfl) T.m_min PyProof.Rows.boot_min (pa_cons (pv 2) (pa_cons (pe_ix (r := rIxT K) ix_tup (pe_glob (v := V.ref T.A_PARAMETERS) (by rfl) T.c_PARAMETERS rfl) pe_int (fun _ _ => rfl)) pa_nil))) pa_nil)) (pg_name (i := 4) sc_measured.nd rfl (Or.inr rfl)) (pss_one (ps_asg (pe_callB (r := rSum K) (cr_sum rfl) (by rfl) T.m_sum PyProof.Rows.boot_sum (pa_cons (pe_lc (own := [("value", 6)]) (g := gName 6) (tt := tYes) rfl sc_measured.nd (pi_list (pv 1)) (blkOk_by (N := ["residuals", "folded", "width", "sums", "k", "residual", "value"]) (sc := defScope s_measured) (by decide +kernel)) (fun _ _ _ _ _ => pg_name (i := 6) sc_measured.nd rfl (Or.inl rfl)) (fun _ _ _ _ _ => pts_nil) (fun _ _ _ _ _ => (pe_op op_shr (pv 6) (pv 4)))) pa_nil)) (pg_sub (pv 3) (pv 4) set_list))))
      (pss_one (ps_ret (pe_tup (pa_cons (pe_callB (r := rLenS K) call_len_seq (by rfl) T.m_len PySem.boot_len (pa_cons (pv 0) pa_nil)) (pa_cons (pv 3) (pa_cons (pv 2) pa_nil)))))))))), ?_⟩
  refine q_asgL (xs := (ns.map foldI).map V.int) (EvL.is (xs := ns.map fun n => V.int (foldI n)) (el_lcS _ (Ev.s (ev_var rfl) hS) (by rw [List.length_map, List.length_map]) (by rw [List.length_map]; omega) (fun _ => rfl) fun i x H2 e2 hx => ?_) (by rw [List.map_map]; rfl)) fun pf H1 hpf e1 g1 => ?_
  · obtain ⟨n, hn, hi, rfl⟩ := int_at hx
    exact ⟨.int (foldI n), by rw [List.getElem?_map, hn]; rfl, ev_fold (ev_var rfl)⟩
  refine q_asg (v := .int (widI ns : Int)) (ev_width (us := ns.map foldI) (Ev.s (ev_var rfl) (sq_of g1))) fun H2 e2 => ?_
  have P31 : ∀ {σ : L2.St} {H' : Hp}, Ev (tOp (rIxT K) (tC (.ref T.A_PARAMETERS)) (tC (.int 1))) σ H' (.int 31) := ev_atT (n := 1) ev_c (T.s_PARAMETERS _) ev_c (at_of (j := 1) rfl rfl)
  refine q_asgL (xs := (List.replicate 31 (0 : Int)).map V.int) (EvL.is (el_rep (xs := [V.int 0]) (k := 31) (EvL.r (el_lst (ea_cons ev_c ea_nil) (by decide))) P31 (by decide) (by decide)) (by rw [rep_one, List.map_replicate]; rfl)) fun ps H3 hps e3 g3 => ?_
  have hpsB := fresh_back (e1.trans e2) hps
  have hpfs : pf ≠ ps := ne_of_none (e2 _ _ g1) hps
  obtain ⟨mw, hmw⟩ : ∃ mw : Nat, (if (31 : Int) < (widI ns : Int) then (31 : Int) else (widI ns : Int)) = (mw : Int) ∧ mw ≤ 31 ∧ (mw = widI ns ∨ (mw = 31 ∧ 31 ≤ widI ns)) := by
    by_cases h : (31 : Int) < (widI ns : Int)
    · exact ⟨31, by rw [if_pos h]; rfl, by omega, .inr ⟨rfl, by omega⟩⟩
    · exact ⟨widI ns, by rw [if_neg h], by omega, .inl rfl⟩
  obtain ⟨hmw, hmw31, hmwc⟩ := hmw
  refine q_forR1 (n := (mw : Int)) (ea_cons (Ev.is (ev_min2 (ev_var rfl) P31) (congrArg V.int hmw)) ea_nil) (by omega) (fun i σ' H' => ∃ z4, σ' = [some (.ref a), some (.ref pf), some (.int (widI ns : Int)), some (.ref ps), z4, none, none] ∧ Ex H H' ∧ H' pf = some (.lst ((ns.map foldI).map V.int)) ∧ H' ps = some (.lst ((sumsT ns i).map V.int))) (fun H4 e4 => ⟨none, rfl, (e1.trans e2).trans (e3.trans e4), (e2.trans (e3.trans e4)) _ _ g1, ?_⟩) ?_ ?_
  · have h0 : sumsT ns 0 = List.replicate 31 (0 : Int) := rfl
    rw [h0]
    exact e4 _ _ g3
  · rintro i σ' H4 hi ⟨z4, rfl, ex, gf, gs⟩
    refine s_setL (j := i) (v := .int (sumI ns i)) gs (ev_sum (EvR.s (EvL.r (EvL.is (xs := (ns.map foldI).map fun u => V.int (u / 2 ^ i)) (el_lcS _ (Ev.s (ev_var rfl) (sq_of gf)) (by simp only [List.length_map]) (by rw [List.length_map, List.length_map]; omega) (fun _ => rfl) fun j x H5 e5 hx => ?_) (by rw [List.map_map, List.map_map]; rfl))))) (ev_var rfl) (ev_var rfl) (by rw [List.length_map, sumsT_len]; omega) fun H5 e5 => ⟨_, rfl, Ex.mut (ex.trans e5) hpsB, by rw [upd_ne hpfs]; exact e5 _ _ gf, by rw [upd_same, ← sumsT_set, List.map_set]⟩
    obtain ⟨u, hu, hj, rfl⟩ := int_at hx
    exact ⟨.int (u / 2 ^ i), by rw [List.getElem?_map, hu]; rfl, Ev.is (ev_I (ev_var rfl) (ev_var rfl) (show (0 : Int) ≤ (i : Int) by omega)) (congrArg V.int (by rw [Int.toNat_natCast]))⟩
  · rintro σ' H4 ⟨z4, rfl, ex, gf, gs⟩
    rw [Int.toNat_natCast] at gs
    refine s_retU (xs := [.int (ns.length : Int), .ref ps, .int (widI ns : Int)]) (eu_tup (ea_cons (Ev.is (ev_lenS (Ev.s (ev_var rfl) (ex_l ex hS))) (by rw [List.length_map])) (ea_cons (ev_var rfl) (ea_cons (ev_var rfl) ea_nil))) (Nat.le_of_ble_eq_true rfl)) fun t H5 ht e5 g5 => q (.ref t) H5 (ex.trans e5) ⟨t, ps, rfl, fresh_back ex ht, hpsB, g5, by rw [← sumsT_all hmwc]; exact e5 _ _ gs⟩
def bestN (f : Nat → Int) : Nat → Int × Nat
  | 0 => (f 0, 0)
  | i + 1 => if f (i + 1) < (bestN f i).1 then (f (i + 1), i + 1) else bestN f i
theorem bestN_le (f : Nat → Int) : ∀ i, (bestN f i).2 ≤ i
  | 0 => Nat.le_refl _
  | i + 1 => by
    have := bestN_le f i
    unfold bestN
    split
    · exact Nat.le_refl _
    · omega
theorem minP_best (f : Nat → Int) : ∀ i, minP (f 0, 0) ((List.range i).map fun k => (f (k + 1), ((k + 1 : Nat) : Int))) = ((bestN f i).1, ((bestN f i).2 : Int))
  | 0 => rfl
  | i + 1 => by
    have ih := minP_best f i
    have hb := bestN_le f i
    unfold minP at ih ⊢
    rw [List.range_succ, List.map_append, List.foldl_append, ih]
    have hst : bestN f (i + 1) = if f (i + 1) < (bestN f i).1 then (f (i + 1), i + 1) else bestN f i := rfl
    rw [hst]
    show (if f (i + 1) < (bestN f i).1 ∨ (f (i + 1) = (bestN f i).1 ∧ ((i + 1 : Nat) : Int) < ((bestN f i).2 : Int)) then (f (i + 1), ((i + 1 : Nat) : Int)) else ((bestN f i).1, ((bestN f i).2 : Int))) = _
    by_cases h : f (i + 1) < (bestN f i).1
    · rw [if_pos (.inl h), if_pos h]
    · rw [if_neg (fun z => z.elim h fun z => by omega), if_neg h]
def costI (ns : List Int) (m k : Nat) : Int := 4 + (m : Int) + ((ns.length : Int) * (1 + (k : Int)) + sumI ns k)
def rawI (ns : List Int) (m : Nat) : Int := 4 + (m : Int) + 5 + (ns.length : Int) * (widI ns : Int)
def entF (ns : List Int) (m : Nat) : (Str × Int) × Int :=
  if widI ns ≤ 31 ∧ rawI ns m < (bestN (costI ns m) (14 + 16 * m)).1 then (("raw", (widI ns : Int)), rawI ns m) else (("rice", ((bestN (costI ns m) (14 + 16 * m)).2 : Int)), (bestN (costI ns m) (14 + 16 * m)).1)
def EntV (H : Hp) (v : V) (e : (Str × Int) × Int) : Prop := ∃ t t2, v = .ref t ∧ H t = some (.tup [.ref t2, .int e.2]) ∧ H t2 = some (.tup [.str e.1.1, .int e.1.2])
theorem EntV.ex {H H' : Hp} {v : V} {e : (Str × Int) × Int} (h : EntV H v e) (x : Ex H H') : EntV H' v e := by obtain ⟨t, t2, h1, h2, h3⟩ := h; exact ⟨t, t2, h1, x _ _ h2, x _ _ h3⟩
theorem ent_mk {H5 : Hp} {t2 t1 : Addr} {k : Str} {x b : Int} (h1 : (upd H5 t2 (.tup [.str k, .int x])) t1 = none) : EntV (upd (upd H5 t2 (.tup [.str k, .int x])) t1 (.tup [.ref t2, .int b])) (.ref t1) ((k, x), b) := ⟨t1, t2, rfl, upd_same, by rw [upd_ne (fun z => by rw [← z, upd_same] at h1; cases h1)]; exact upd_same⟩
def PrsAt (H : Hp) (L : List (Addr × (Int × Int))) : Prop := ∀ x ∈ L, H x.1 = some (.tup [.int x.2.1, .int x.2.2])
theorem PrsAt.d {H : Hp} : ∀ {L : List (Addr × (Int × Int))}, PrsAt H L → DpAll K H (L.map fun x => V.ref x.1) (L.map fun x => pairD x.2)
  | [], _ => .nil
  | x :: L, h => .cons (.tup (st_of (h x (List.mem_cons_self ..))) (.cons (.int _) (.cons (.int _) .nil))) (PrsAt.d fun y hy => h y (List.mem_cons_of_mem _ hy))
/-- [e for j in range(n)], e a new tuple or so -/
theorem tlc_rngE {ta : TA} {te : TE} {vs : List Nat} {n : Int} {j : Nat} {σ : L2.St} {H : Hp} {Q : VK} (h : EvA ta σ H [.int n]) (hn : -100000 ≤ n ∧ n ≤ 100000)
    (k : ∀ H1, Ex H H1 → ∀ Dl, H1 Dl = none → ∃ Pv : Nat → Hp → Prop, Pv 0 (upd H1 Dl (.lst [])) ∧ (∀ (i : Nat) H', i < n.toNat → Pv i H' → wipe ((wipe σ vs).set j (some (.int (i : Int)))) vs = wipe σ vs ∧ te ((wipe σ vs).set j (some (.int (i : Int)))) H' fun y H4 => ∃ acc, H4 Dl = some (.lst acc) ∧ acc.length < sizeLine ∧ Pv (i + 1) (upd H4 Dl (.lst (acc ++ [y])))) ∧ (∀ H', Pv n.toNat H' → Q (.ref Dl) H')) :
    tLc (iRng1 ta) (gName j) tYes te vs σ H Q := h H (Ex.refl H) _ fun H1 e1 => ⟨n, rfl, by omega, by omega, fun Dl hD => by
  obtain ⟨Pv, h0, hs, hd⟩ := k H1 e1 Dl hD
  refine lc_range (lo := 0) (n := n.toNat) Pv h0 (fun i H' hi p => ?_) hd
  rw [Int.zero_add]
  exact hs i H' hi p⟩
theorem q_asgCB1 {r : List V → Hp → VK → Prop} {te : TE} {g : TG} {tz : TS} {D : Ends} {σ : L2.St} {H : Hp} (h : te σ H fun x H1 => r [x] H1 fun y H2 => g y σ H2 (tz D)) : tSeq (tAsg (tCB r (tCons te tNil)) g) tz D σ H := h
def sp_entry : Sp := fun vs H Q _ => ∃ (B : Hp) (v : V) (ns : List Int) (m : Nat), vs = [v, .int (m : Int)] ∧ MsN B H v ns ∧ m ≤ 1 ∧ ns.length ≤ 40000 ∧ ∀ v H', Ex H H' → EntV H' v (entF ns m) → Q v H'
theorem ok_entry (T : TX K mg) : FnOk P w K mg base CX0 1 T.a_entry T.d_entry ["part", "method"] sp_entry := by
  refine T.F_entry.ok sc_entry (fun vs H Q E h => by obtain ⟨B, v, ns, m, rfl, _⟩ := h; rfl) (fun cdv A outer s0 H vs Q E hr h => ?_)
  obtain ⟨B, v, ns, m, rfl, ⟨t, s, rfl, -, -, ht, hs⟩, hm, hl, q⟩ := h
  have hus : ∀ k, k < 31 → (sumL ns)[k]? = some (sumI ns k) := fun k hk => sumL_at ns hk
  refine ⟨_, (pss_cons (ps_asg (pv 0) (pg_tup rfl (pgs_cons (pg_name (i := 2) sc_entry.nd rfl (Or.inr rfl)) (pgs_cons (pg_name (i := 3) sc_entry.nd rfl (Or.inr rfl)) (pgs_cons (pg_name (i := 4) sc_entry.nd rfl (Or.inl rfl)) pgs_nil)))))
      (pss_cons (ps_set (i := 5) sc_entry.nd rfl (Or.inr rfl) (pe_op op_add pe_int (pv 1)))
      (pss_cons (ps_asg (pe_callB (cr_minP (hu64 hr) rfl) (by rfl) T.m_min PyProof.Rows.boot_min (pa_cons (pe_lc (own := [("k", 6)]) (g := gName 6) (tt := tYes) rfl sc_entry.nd (pi_range1 (by rfl) T.m_range (pa_cons (pe_ix (r := rIxT K) ix_tup (pe_glob (v := V.ref T.A_PARAMETERS) (by rfl) T.c_PARAMETERS rfl) (pv 1) (fun _ _ => rfl)) pa_nil)) (blkOk_by (N := ["part", "method", "count", "sums", "width", "field", "k", "bits", "raw_bits"]) (sc := defScope s_entry) (by decide +kernel)) (fun _ _ _ _ _ => pg_name (i := 6) sc_entry.nd rfl (Or.inl rfl)) (fun _ _ _ _ _ => pts_nil) (fun _ _ _ _ _ => (pe_tup (pa_cons (pe_op op_add (pe_op op_add (pv 5) (pe_op op_mul (pv 2) (pe_op op_add pe_int (pv 6)))) (pe_ix (r := rIxL K) ix_list (pv 3) (pv 6) (fun _ _ => rfl))) (pa_cons (pv 6) pa_nil))))) pa_nil)) (pg_tup rfl (pgs_cons (pg_name (i := 7) sc_entry.nd rfl (Or.inl rfl)) (pgs_cons (pg_name (i := 6) sc_entry.nd rfl (Or.inl rfl)) pgs_nil))))
      (pss_cons (ps_set (i := 8) sc_entry.nd rfl (Or.inl rfl) (pe_op op_add (pe_op op_add (pv 5) pe_int) (pe_op op_mul (pv 2) (pv 4))))
      (pss_cons (ps_if (PW.pt (pw_and (pt_cmpR op_le (pv 4) (pe_glob (by rfl) T.c_MOST_RAW_WIDTH T.r_MOST_RAW_WIDTH) (nomark _)) (pw_and1 (pt_cmpR op_lt (pv 8) (pv 7) (nomark _))))) (pss_one (ps_ret (pe_tup (pa_cons (pe_tup (pa_cons pe_str (pa_cons (pv 4) pa_nil))) (pa_cons (pv 8) pa_nil))))) pss_nil)
      (pss_one (ps_ret (pe_tup (pa_cons (pe_tup (pa_cons pe_str (pa_cons (pv 6) pa_nil))) (pa_cons (pv 7) pa_nil)))))))))), ?_⟩
  refine ⟨.ref t, rfl, t, [.int (ns.length : Int), .ref s, .int (widI ns : Int)], rfl, st_of ht, rfl, .int (ns.length : Int), [.ref s, .int (widI ns : Int)], rfl, .ref s, [.int (widI ns : Int)], rfl, .int (widI ns : Int), [], rfl, rfl, ?_⟩
  refine q_asg (v := .int (4 + (m : Int))) (ev_I0 (g := fun i j => .int (i + j)) ev_c (ev_var rfl)) fun H1 e1 => ?_
  have hn15 : atI [V.int 15, V.int 31] (m : Int) = some (.int ((15 + 16 * m : Nat) : Int)) := by
    match m, hm with
    | 0, _ => rfl
    | 1, _ => rfl
  refine q_asgCB1 ?_
  refine tlc_rngE (n := ((15 + 16 * m : Nat) : Int)) (ea_cons (ev_atT (n := (m : Int)) ev_c (T.s_PARAMETERS _) (ev_var rfl) hn15) ea_nil) (by omega) fun H2 e2 Dl hD => ⟨fun i H' => ∃ L : List (Addr × (Int × Int)), Ex H H' ∧ H' Dl = some (.lst (L.map fun x => V.ref x.1)) ∧ PrsAt H' L ∧ L.map (·.2) = (List.range i).map fun k => (costI ns m k, (k : Int)), ⟨[], Ex.mut (e1.trans e2) (fresh_back (e1.trans e2) hD), upd_same, (fun x hx => by cases hx), rfl⟩, ?_, ?_⟩
  · rintro i H' hi ⟨L, ex, gD, hL, hLs⟩
    have hi31 : i < 31 := by omega
    refine ⟨rfl, ?_⟩
    have hLl : L.length = i := by have := congrArg List.length hLs; rwa [List.length_map, List.length_map, List.length_range] at this
    refine eu_go (eu_tup (vs := [.int (costI ns m i), .int (i : Int)]) (ea_cons (Ev.is (ev_I0 (ev_I0 (ev_var rfl) (ev_I (ev_var rfl) (ev_I0 ev_c (ev_var rfl)) (.inr (by omega)))) (ev_ixS (i := 0) (n := (i : Int)) (Ev.s (ev_var rfl) (sq_of (ex _ _ hs))) (ev_var rfl) (at_of (j := i) rfl (at_int (hus i hi31))))) (congrArg V.int (by unfold costI; omega))) (ea_cons (ev_var rfl) ea_nil)) (Nat.le_of_ble_eq_true rfl)) fun p H3 hp e3 g3 => ⟨_, e3 _ _ gD, sz_lt (by rw [List.length_map]; omega), L ++ [(p, (costI ns m i, (i : Int)))], Ex.mut (ex.trans e3) (fresh_back (e1.trans e2) hD), by rw [upd_same, List.map_append]; rfl, fun x hx => ?_, ?_⟩
    · have hxD : ∀ {x : Addr × (Int × Int)}, H3 x.1 = some (.tup [.int x.2.1, .int x.2.2]) → (upd H3 Dl (.lst ((L.map fun x => V.ref x.1) ++ [V.ref p]))) x.1 = some (.tup [.int x.2.1, .int x.2.2]) := fun {x} h => by
        have : x.1 ≠ Dl := by
          intro z
          rw [z, e3 _ _ gD] at h
          cases h
        rw [upd_ne this]
        exact h
      rcases List.mem_append.mp hx with h | h
      · exact hxD (e3 _ _ (hL x h))
      · rw [List.mem_singleton.mp h]
        exact hxD g3
    · rw [List.map_append, hLs, List.range_succ, List.map_append]
      rfl
  rintro H3 ⟨L, ex, gD, hL, hLs⟩
  rw [Int.toNat_natCast] at hLs
  obtain ⟨f, hf⟩ : ∃ f, costI ns m = f := ⟨_, rfl⟩
  obtain ⟨j, hj⟩ : ∃ j, 14 + 16 * m = j := ⟨_, rfl⟩
  have hds : (L.map fun x => pairD x.2) = (((f 0, (0 : Int)) :: (List.range j).map fun k => (f (k + 1), ((k + 1 : Nat) : Int)))).map pairD := by
    rw [show (L.map fun x => pairD x.2) = (L.map (·.2)).map pairD from by rw [List.map_map]; rfl, hLs, hf, show 15 + 16 * m = j + 1 by omega, List.range_succ_eq_map, List.map_cons, List.map_map]
    rfl
  refine ⟨Dl, _, (f 0, 0), (List.range j).map fun k => (f (k + 1), ((k + 1 : Nat) : Int)), rfl, sq_of gD, hds ▸ hL.d, fun v hv => ?_⟩
  rw [minP_best] at hv
  obtain ⟨b, hb⟩ : ∃ b, bestN f j = b := ⟨_, rfl⟩
  rw [hb] at hv
  cases hv with
  | tup hst hda =>
    rename_i tp xs
    cases hda with
    | cons h1 h2 =>
      cases h1
      cases h2 with
      | cons h3 h4 =>
        cases h3
        cases h4
        refine ⟨tp, _, rfl, hst, rfl, .int b.1, [.int (b.2 : Int)], rfl, .int (b.2 : Int), [], rfl, rfl, ?_⟩
        refine q_asg (v := .int (rawI ns m)) (ev_I0 (ev_I0 (ev_var rfl) ev_c) (ev_I (ev_var rfl) (ev_var rfl) (.inl (by omega)))) fun H4 e4 => ?_
        unfold entF at q
        rw [hf, hj, hb] at q
        refine q_when (b := decide (widI ns ≤ 31 ∧ rawI ns m < b.1)) (et_is (et_and (a := decide (widI ns ≤ 31)) (b := decide (rawI ns m < b.1)) (et_is (et_test (ev_I0 (ev_var rfl) (ev_relC T.r_MOST_RAW_WIDTH))) (decide_eq_decide.mpr (by omega))) fun _ => et_test (ev_I0 (ev_var rfl) (ev_var rfl))) (by rw [Bool.decide_and])) (fun h H5 e5 => ?_) fun h H5 e5 => ?_
        · rw [if_pos (of_decide_eq_true h)] at q
          exact ⟨_, rfl, sz_of (show 2 ≤ 100000 by decide), fun t2 h2 => ⟨_, rfl, sz_of (show 2 ≤ 100000 by decide), fun t1 h1 => q _ _ (((ex.trans (e4.trans e5)).trans (Ex.new h2)).trans (Ex.new h1)) (ent_mk h1)⟩⟩
        · rw [if_neg (of_decide_eq_false h)] at q
          exact ⟨_, rfl, sz_of (show 2 ≤ 100000 by decide), fun t2 h2 => ⟨_, rfl, sz_of (show 2 ≤ 100000 by decide), fun t1 h1 => q _ _ (((ex.trans (e4.trans e5)).trans (Ex.new h2)).trans (Ex.new h1)) (ent_mk h1)⟩⟩

/-! ### ranges with a step -/
theorem s_forRC {σ : L2.St} {H : Hp} {D : Ends} {tu : TS} {ta : TA} {j n : Nat} {a b c : Int} (h : EvA ta σ H [.int a, .int b, .int c]) (hr : RgC a b c n) (Pv : Nat → L2.St → Hp → Prop) (h0 : ∀ H1, Ex H H1 → Pv 0 σ H1)
    (hs : ∀ i σ' H', i < n → Pv i σ' H' → tu { nx := Pv (i + 1), rt := D.rt, bk := D.nx, ct := Pv (i + 1) } (σ'.set j (some (.int (a + (i : Nat) * c)))) H') (hd : ∀ σ' H', Pv n σ' H' → D.nx σ' H') : tFor (iRng3 ta) (gName j) tu D σ H :=
  h H (Ex.refl H) _ fun H1 e1 => ⟨a, b, c, n, rfl, hr, for_rangeC Pv (h0 H1 e1) hs hd⟩
theorem q_forRC {σ : L2.St} {H : Hp} {D : Ends} {tu tz : TS} {ta : TA} {j n : Nat} {a b c : Int} (h : EvA ta σ H [.int a, .int b, .int c]) (hr : RgC a b c n) (Pv : Nat → L2.St → Hp → Prop) (h0 : ∀ H1, Ex H H1 → Pv 0 σ H1)
    (hs : ∀ i σ' H', i < n → Pv i σ' H' → tu { nx := Pv (i + 1), rt := D.rt, bk := tz D, ct := Pv (i + 1) } (σ'.set j (some (.int (a + (i : Nat) * c)))) H') (hd : ∀ σ' H', Pv n σ' H' → tz D σ' H') : tSeq (tFor (iRng3 ta) (gName j) tu) tz D σ H :=
  h H (Ex.refl H) _ fun H1 e1 => ⟨a, b, c, n, rfl, hr, for_rangeC Pv (h0 H1 e1) hs hd⟩
/-! ### measured parts joined -/
theorem sumI_app (ns ms : List Int) (k : Nat) : sumI (ns ++ ms) k = sumI ns k + sumI ms k := by unfold sumI; rw [List.map_append, List.sum_append]
theorem widI_app (ns ms : List Int) : (widI (ns ++ ms) : Int) = if (widI ms : Int) > (widI ns : Int) then (widI ms : Int) else (widI ns : Int) := by
  have h1 : ∀ j, widI (ns ++ ms) ≤ j ↔ widI ns ≤ j ∧ widI ms ≤ j := fun j => by
    rw [widI_le, widI_le, widI_le]
    exact ⟨fun h => ⟨fun n hn => h n (List.mem_append_left _ hn), fun n hn => h n (List.mem_append_right _ hn)⟩, fun h n hn => (List.mem_append.mp hn).elim (h.1 n) (h.2 n)⟩
  have a := (h1 (widI (ns ++ ms))).mp (Nat.le_refl _)
  by_cases h : widI ns ≤ widI ms
  · have b := (h1 (widI ms)).mpr ⟨h, Nat.le_refl _⟩
    split <;> omega
  · have b := (h1 (widI ns)).mpr ⟨Nat.le_refl _, by omega⟩
    split <;> omega
theorem sumL_app (ns ms : List Int) : sumL (ns ++ ms) = List.zipWith (· + ·) (sumL ns) (sumL ms) := by
  refine List.ext_getElem? fun k => ?_
  by_cases hk : k < 31
  · rw [sumL_at _ hk, List.getElem?_zipWith, sumL_at _ hk, sumL_at _ hk, sumI_app]
  · rw [List.getElem?_eq_none (by rw [sumL_len]; omega), List.getElem?_eq_none (by rw [List.length_zipWith, sumL_len, sumL_len]; omega)]
def sp_joined : Sp := fun vs H Q _ => ∃ (B : Hp) (v u : V) (ns ms : List Int), vs = [v, u] ∧ MsN B H v ns ∧ MsN B H u ms ∧ ∀ w H', Ex H H' → MsN H H' w (ns ++ ms) → Q w H'
theorem ok_joined (T : TX K mg) : FnOk P w K mg base CX0 1 T.a_joined T.d_joined ["part", "other"] sp_joined := by
  refine T.F_joined.ok sc_joined (fun vs H Q E h => by obtain ⟨B, v, u, ns, ms, rfl, _⟩ := h; rfl) (fun cdv A outer s0 H vs Q E hr h => ?_)
  obtain ⟨B, v, u, ns, ms, rfl, ⟨t, s, rfl, -, -, ht, hs⟩, ⟨t2, s2, rfl, -, -, ht2, hs2⟩, q⟩ := h
  refine ⟨_, (pss_one (ps_ret (pe_tup (pa_cons (pe_op op_add (pe_ix (r := rIxT K) ix_tup (pv 0) pe_int (fun _ _ => rfl)) (pe_ix (r := rIxT K) ix_tup (pv 1) pe_int (fun _ _ => rfl))) (pa_cons (pe_lc (own := [("a", 2), ("b", 3)]) (g := (gTup K 2 (gCons (gName 2) (gCons (gName 3) gNil)))) (tt := tYes) rfl sc_joined.nd (pi_zip (by rfl) T.m_zip (pa_cons (pe_ix (r := rIxT K) ix_tup (pv 0) pe_int (fun _ _ => rfl)) (pa_cons (pe_ix (r := rIxT K) ix_tup (pv 1) pe_int (fun _ _ => rfl)) pa_nil))) (blkOk_by (N := ["part", "other", "a", "b"]) (sc := defScope s_joined) (by decide +kernel)) (fun _ _ _ _ _ => (pg_tup rfl (pgs_cons (pg_name (i := 2) sc_joined.nd rfl (Or.inl rfl)) (pgs_cons (pg_name (i := 3) sc_joined.nd rfl (Or.inl rfl)) pgs_nil)))) (fun _ _ _ _ _ => pts_nil) (fun _ _ _ _ _ => (pe_op op_add (pv 2) (pv 3)))) (pa_cons (pe_callB (call_max2 rfl) (by rfl) T.m_max PyProof.Rows.boot_max (pa_cons (pe_ix (r := rIxT K) ix_tup (pv 0) pe_int (fun _ _ => rfl)) (pa_cons (pe_ix (r := rIxT K) ix_tup (pv 1) pe_int (fun _ _ => rfl)) pa_nil))) pa_nil)))))), ?_⟩
  have ix : ∀ {σ : L2.St} {H' : Hp} (j : Nat) {x : V}, σ[0]? = some (some (.ref t)) → Ex H H' → [V.int (ns.length : Int), .ref s, .int (widI ns : Int)][j]? = some x → Ev (tOp (rIxT K) (tVar 0) (tC (.int (j : Int)))) σ H' x := fun {σ H'} j {x} h e hx => ev_atT (ev_var h) (st_of (e _ _ ht)) ev_c (at_of (j := j) rfl hx)
  have ix2 : ∀ {σ : L2.St} {H' : Hp} (j : Nat) {x : V}, σ[1]? = some (some (.ref t2)) → Ex H H' → [V.int (ms.length : Int), .ref s2, .int (widI ms : Int)][j]? = some x → Ev (tOp (rIxT K) (tVar 1) (tC (.int (j : Int)))) σ H' x := fun {σ H'} j {x} h e hx => ev_atT (ev_var h) (st_of (e _ _ ht2)) ev_c (at_of (j := j) rfl hx)
  refine ev_go (ev_I0 (ix 0 rfl (Ex.refl _) rfl) (ix2 0 rfl (Ex.refl _) rfl)) fun H1 e1 => ?_
  refine el_go (xs := (sumL (ns ++ ms)).map V.int) (el_lcZ _ (Ev.s (ix 1 rfl e1 rfl) (sq_of (e1 _ _ hs))) (Ev.s (ix2 1 rfl e1 rfl) (sq_of (e1 _ _ hs2))) (by simp only [List.length_map, sumL_len]; rfl) (by rw [List.length_map, sumL_len]; omega) (fun _ _ => rfl) fun i x y H2 e2 hx hy => ?_) fun p H2 hp e2 g2 => ?_
  · obtain ⟨n, hn, hi, rfl⟩ := int_at hx
    obtain ⟨m, hm, hi2, rfl⟩ := int_at hy
    exact ⟨.int (n + m), at_int (by rw [sumL_app, List.getElem?_zipWith, hn, hm]), ev_I0 (g := fun i j => .int (i + j)) (ev_var rfl) (ev_var rfl)⟩
  refine ev_go (ev_max2 (ix 2 rfl (e1.trans e2) rfl) (ix2 2 rfl (e1.trans e2) rfl)) fun H3 e3 => ⟨sz_of (show 3 ≤ 100000 by decide), fun w hw => ?_⟩
  have e13 := e1.trans (e2.trans e3)
  refine q _ _ (e13.trans (Ex.new hw)) ⟨w, p, rfl, fresh_back e13 hw, fresh_back e1 hp, ?_, (e3.trans (Ex.new hw)) _ _ g2⟩
  rw [upd_same, widI_app, List.length_append, show (((ns.length + ms.length : Nat)) : Int) = (ns.length : Int) + (ms.length : Int) by omega]
theorem tlc_rngC {ta : TA} {te : TE} {vs : List Nat} {a b c : Int} {n : Nat} {j : Nat} {σ : L2.St} {H : Hp} {Q : VK} (h : EvA ta σ H [.int a, .int b, .int c]) (hr : RgC a b c n)
    (k : ∀ H1, Ex H H1 → ∀ Dl, H1 Dl = none → ∃ Pv : Nat → Hp → Prop, Pv 0 (upd H1 Dl (.lst [])) ∧ (∀ (i : Nat) H', i < n → Pv i H' → wipe ((wipe σ vs).set j (some (.int (a + (i : Nat) * c)))) vs = wipe σ vs ∧ te ((wipe σ vs).set j (some (.int (a + (i : Nat) * c)))) H' fun y H4 => ∃ acc, H4 Dl = some (.lst acc) ∧ acc.length < sizeLine ∧ Pv (i + 1) (upd H4 Dl (.lst (acc ++ [y])))) ∧ (∀ H', Pv n H' → Q (.ref Dl) H')) :
    tLc (iRng3 ta) (gName j) tYes te vs σ H Q := h H (Ex.refl H) _ fun H1 e1 => ⟨a, b, c, n, rfl, hr, fun D hD => by
  obtain ⟨Pv, h0, hs, hd⟩ := k H1 e1 D hD
  refine lc_it walk_rangeC Pv h0 (fun _ _ _ _ => trivial) ?_ hd
  rintro i x H' H'' hi hp ⟨rfl, rfl⟩
  exact hs i H'' hi hp⟩
theorem rs_2 (n : Nat) : Builtin.Range.rangeSize 0 ((n : Int) - 1) 2 = ((n / 2 : Nat) : Int) := by
  unfold Builtin.Range.rangeSize
  rw [if_pos (by decide)]
  split <;> omega
theorem rg_2 {n : Nat} (hn : n ≤ 100000) : RgC 0 ((n : Int) - 1) 2 (n / 2) := by
  refine ⟨by decide, by omega, ?_, rs_2 n⟩
  unfold Builtin.Range.small
  rw [rs_2]
  simp only [Builtin.Range.rangeFitsLong, Bool.and_eq_true, Bool.or_eq_true, decide_eq_true_eq, beq_iff_eq, show ((2 : Int) > 0) by decide, if_true]
  omega
theorem at_in {xs : List V} {i : Nat} {v : V} {n : Int} (h : xs[i]? = some v) (hn : n = (i : Int)) : atI xs n = some v := hn ▸ at_of (j := i) rfl h
def sp_pairs : Sp := fun vs H Q _ => ∃ (B : Hp) (a : Addr) (n : Nat) (f : Nat → List Int), vs = [.ref a] ∧ PtAt B H a n f ∧ n ≤ 40000 ∧ ∀ p H', Ex H H' → PtAt H H' p (n / 2) (fun i => f (2 * i) ++ f (2 * i + 1)) → Q (.ref p) H'
theorem ok_joined_in_pairs (T : TX K mg) : FnOk P w K mg base CX0 2 T.a_joined_in_pairs T.d_joined_in_pairs ["parts"] sp_pairs := by
  refine T.F_joined_in_pairs.ok sc_joined_in_pairs (fun vs H Q E h => by obtain ⟨B, a, n, f, rfl, _⟩ := h; rfl) (fun cdv A outer s0 H vs Q E hr h => ?_)
  obtain ⟨B, a, n, f, rfl, hP, hn, q⟩ := h
  refine ⟨_, (pss_one (ps_ret (pe_lc (own := [("at", 1)]) (g := gName 1) (tt := tYes) rfl sc_joined_in_pairs.nd (pi_range3 (by rfl) T.m_range (pa_cons pe_int (pa_cons (pe_op op_sub (pe_callB (r := rLenS K) call_len_seq (by rfl) T.m_len PySem.boot_len (pa_cons (pv 0) pa_nil)) pe_int) (pa_cons pe_int pa_nil)))) (blkOk_by (N := ["parts", "at"]) (sc := defScope s_joined_in_pairs) (by decide +kernel)) (fun _ _ _ _ _ => pg_name (i := 1) sc_joined_in_pairs.nd rfl (Or.inl rfl)) (fun _ _ _ _ _ => pts_nil) (fun _ _ _ _ _ => (pe_call (ok_joined T) (hr.mono (by decide)) (by rfl) T.g_joined T.F_joined.kp T.b_joined .nil pass0 (pa_cons (pe_ix (r := rIxL K) ix_list (pv 0) (pv 1) (fun _ _ => rfl)) (pa_cons (pe_ix (r := rIxL K) ix_list (pv 0) (pe_op op_add (pv 1) pe_int) (fun _ _ => rfl)) pa_nil))))))), ?_⟩
  obtain ⟨xs, ga, -, hl, hx⟩ := hP
  refine tlc_rngC (a := 0) (b := (n : Int) - 1) (c := 2) (n := n / 2) (ea_cons ev_c (ea_cons (Ev.is (ev_I0 (ev_lenS (Ev.s (ev_var rfl) (sq_of ga))) ev_c) (congrArg V.int (by rw [hl]))) (ea_cons ev_c ea_nil))) (rg_2 (by omega)) fun H1 e1 Dl hD => ⟨fun i H' => Ex H1 H' ∧ ∃ acc : List V, H' Dl = some (.lst acc) ∧ acc.length = i ∧ ∀ j, j < i → ∃ v, acc[j]? = some v ∧ MsN (upd H1 Dl (.lst [])) H' v (f (2 * j) ++ f (2 * j + 1)), ⟨Ex.new hD, [], upd_same, rfl, fun j hj => by omega⟩, ?_, ?_⟩
  · rintro i H' hi ⟨ex, acc, gD, hal, ha⟩
    refine ⟨rfl, ?_⟩
    obtain ⟨v, hv, hv2⟩ := hx (2 * i) (by omega)
    obtain ⟨u, hu, hu2⟩ := hx (2 * i + 1) (by omega)
    have e' := e1.trans ex
    have hga : SqL K H' a xs := sq_of (e' _ _ ga)
    refine ea_go (ea_cons (ev_ixS (i := 0) (n := 0 + (i : Int) * 2) (Ev.s (ev_var rfl) hga) (ev_var rfl) (at_in hv (by omega))) (ea_cons (ev_ixS (i := 0) (n := 0 + (i : Int) * 2 + 1) (Ev.s (ev_var rfl) hga) (ev_I0 (g := fun i j => .int (i + j)) (ev_var rfl) ev_c) (at_in hu (by omega))) ea_nil)) fun H2 e2 => ⟨B, v, u, f (2 * i), f (2 * i + 1), rfl, hv2.ex (e'.trans e2), hu2.ex (e'.trans e2), fun z H3 e3 hz => ⟨acc, (e2.trans e3) _ _ gD, sz_lt (by omega), Ex.mut (ex.trans (e2.trans e3)) hD, acc ++ [z], upd_same, by rw [List.length_append, hal]; rfl, fun j hj => ?_⟩⟩
    have hG : ∀ {y : V} {ns : List Int}, MsN (upd H1 Dl (.lst [])) H3 y ns → MsN (upd H1 Dl (.lst [])) (upd H3 Dl (.lst (acc ++ [z]))) y ns := fun h => h.fro (c := Dl) (o := .lst []) upd_same (FrO.upd (FrO.ex (Ex.refl _)))
    by_cases hj2 : j < i
    · obtain ⟨y, hy, hy2⟩ := ha j hj2
      exact ⟨y, by rw [List.getElem?_append_left (by omega)]; exact hy, hG (hy2.ex (e2.trans e3))⟩
    · obtain rfl : j = i := by omega
      refine ⟨z, by rw [List.getElem?_append_right (by omega), hal, Nat.sub_self]; rfl, hG (hz.back (c := Dl) (o := .lst acc) (fun b o hb hbo => ?_) (e2 _ _ gD))⟩
      rw [upd_ne hb] at hbo
      exact (ex.trans e2) _ _ hbo
  · rintro H' ⟨ex, acc, gD, hal, ha⟩
    refine q Dl H' (e1.trans ex) ⟨acc, gD, fresh_back e1 hD, hal, fun j hj => ?_⟩
    obtain ⟨y, hy, hy2⟩ := ha j hj
    exact ⟨y, hy, hy2.low (e1.trans (Ex.new hD))⟩

/-! ### the parts of the residuals -/
def cutN (ns : List Int) (a b : Nat) : List Int := (ns.drop a).take (b - a)
theorem cutN_join (ns : List Int) {a b c : Nat} (h1 : a ≤ b) (h2 : b ≤ c) : cutN ns a b ++ cutN ns b c = cutN ns a c := by
  unfold cutN
  rw [show c - a = (b - a) + (c - b) by omega, List.take_add, List.drop_drop, show a + (b - a) = b by omega]
theorem cutN_len (ns : List Int) (a b : Nat) : (cutN ns a b).length ≤ ns.length := by unfold cutN; rw [List.length_take, List.length_drop]; omega
theorem q_appE {σ : L2.St} {H : Hp} {ta te : TE} {l : Addr} {xs : List V} {D : Ends} {tz : TS} {S : V → Hp → Prop} (hl : H l = some (.lst xs)) (ha : Ev ta σ H (.ref l)) (h : EvX te σ H S) (hz : xs.length < 100000) (k : ∀ v H1, Ex H H1 → S v H1 → tz D σ (upd H1 l (.lst (xs ++ [v])))) : tSeq (tDrop (tBM K "list" rAppend ta (tCons te tNil))) tz D σ H :=
  ha H (Ex.refl _) _ fun H1 e1 => ⟨.inl ⟨rfl, xs, sq_of (e1 _ _ hl)⟩, h H1 e1 _ fun v H2 e2 hv => ⟨l, xs, v, rfl, rfl, (e1.trans e2) _ _ hl, sz_lt hz, k v H2 (e1.trans e2) hv⟩⟩
def sp_mparts (K : PySem.W.Frag) : Sp := fun vs H Q _ => ∃ (a b : Addr) (ns ws : List Int) (n : Nat) (st : Nat → Nat), vs = [.ref a, .ref b] ∧ SqL K H a (ns.map V.int) ∧ SqL K H b (ws.map V.int) ∧ ws.length = n ∧ n ≤ 40000 ∧ ns.length ≤ 40000 ∧ st 0 = 0 ∧ (∀ i, i < n → ws[i]? = some ((st (i + 1) : Int) - (st i : Int))) ∧ ∀ p H', Ex H H' → PtAt H H' p n (fun i => cutN ns (st i) (st (i + 1))) → Q (.ref p) H'
theorem ok_measured_parts (T : TX K mg) : FnOk P w K mg base CX0 3 T.a_measured_parts T.d_measured_parts ["residuals", "sizes"] (sp_mparts K) := by
  refine T.F_measured_parts.ok sc_measured_parts (fun vs H Q E h => by obtain ⟨a, b, ns, ws, n, st, rfl, _⟩ := h; rfl) (fun cdv A outer s0 H vs Q E hr h => ?_)
  obtain ⟨a, b, ns, ws, n, st, rfl, hA, hB, hwl, hn, hnl, hst0, hws, q⟩ := h
  refine ⟨_, (pss_cons (ps_set (i := 2) sc_measured_parts.nd rfl (Or.inl rfl) (pe_lst pa_nil))
      (pss_cons (ps_set (i := 3) sc_measured_parts.nd rfl (Or.inl rfl) pe_int)
      (pss_cons (ps_for PassesOwn.never rfl (pi_list (pv 1)) (pg_name (i := 4) sc_measured_parts.nd rfl (Or.inl rfl)) (pss_cons (ps_expr (pe_bm PySem.F.plainAttrs_list PySem.F.slot_list_append PySem.F.type_list_append mt_append (pv 2) (pa_cons (pe_call (ok_measured T) (hr.mono (by decide)) (by rfl) T.g_measured T.F_measured.kp T.b_measured .nil pass0 (pa_cons (pe_slice (r := rSlL K) sl_list (pv 0) (po_some (pv 3)) (po_some (pe_op op_add (pv 3) (pv 4)))) pa_nil)) pa_nil)))
        (pss_one (ps_aug (i := 3) sc_measured_parts.nd rfl (Or.inl rfl) (pv 4) ip_add))))
      (pss_one (ps_ret (pv 2)))))), ?_⟩
  refine q_asgL (xs := []) (el_lst ea_nil (by decide)) fun p B hp e1 g1 => ?_
  refine q_asg ev_c fun H2 e2 => ?_
  refine q_forLn (K := K) (a := b) (ev_var rfl) (ex_l (e1.trans e2) hB) (fun i σ' H' => ∃ z4, σ' = [some (.ref a), some (.ref b), some (.ref p), some (.int (st i : Int)), z4] ∧ FrO p B H' ∧ ∃ acc : List V, H' p = some (.lst acc) ∧ acc.length = i ∧ ∀ j, j < i → ∃ v, acc[j]? = some v ∧ MsN B H' v (cutN ns (st j) (st (j + 1)))) (fun H3 e3 => ⟨none, by rw [hst0]; rfl, FrO.ex (e2.trans e3), [], (e2.trans e3) _ _ g1, rfl, fun j hj => by omega⟩) (fun i σ' H' _ h => ?_) ?_ ?_
  · obtain ⟨_, _, f, _⟩ := h
    exact sq_keep (e1 := e1) (hp := hp) f hB
  · rintro i x σ' H' hx ⟨z4, rfl, f, acc, gp, hal, ha⟩
    obtain ⟨w', hw', hi, rfl⟩ := int_at hx
    rw [hws i (by omega)] at hw'
    injection hw' with hw'
    subst hw'
    refine q_appE (S := fun v G => MsN H' G v (cutN ns (st i) (st (i + 1)))) gp (ev_var rfl) (fun H1 e Q' q' => ?_) (by omega) fun v H1 e1' hv => ?_
    · exact el_mid (i := st i) (j := st (i + 1)) (Ev.s (ev_var rfl) (ex_l e (sq_keep (e1 := e1) (hp := hp) f hA))) (ev_var rfl) (Ev.is (ev_I0 (g := fun i j => .int (i + j)) (ev_var rfl) (ev_var rfl)) (congrArg V.int (by omega))) H1 (Ex.refl _) _ fun pa H2 hpa e2' g2 => ⟨pa, cutN ns (st i) (st (i + 1)), rfl, sq_of g2, Nat.le_trans (cutN_len ..) hnl, fun v H3 e3 hv => q' v H3 (e2'.trans e3) (hv.low (e.trans e2'))⟩
    refine s_augR rfl (ev_var rfl) fun H4 e4 => ⟨some (.int ((st (i + 1) : Int) - (st i : Int))), ?_, (((f.trans (FrO.ex e1')).upd).trans (FrO.ex e4)), acc ++ [v], e4 _ _ upd_same, by rw [List.length_append, hal]; rfl, fun j hj => ?_⟩
    · show [some (V.ref a), some (V.ref b), some (V.ref p), some (V.int ((st i : Int) + ((st (i + 1) : Int) - (st i : Int)))), _] = _
      rw [show ((st i : Int) + ((st (i + 1) : Int) - (st i : Int))) = (st (i + 1) : Int) by omega]
    · have hG : ∀ {y : V} {ms : List Int}, MsN B H1 y ms → MsN B H4 y ms := fun h => (h.fro (c := p) (o := .lst []) g1 (FrO.upd (FrO.ex (Ex.refl _)))).ex e4
      by_cases hj2 : j < i
      · obtain ⟨y, hy, hy2⟩ := ha j hj2
        exact ⟨y, by rw [List.getElem?_append_left (by omega)]; exact hy, hG (hy2.ex e1')⟩
      · obtain rfl : j = i := by omega
        exact ⟨v, by rw [List.getElem?_append_right (by omega), hal, Nat.sub_self]; rfl, hG (hv.back (c := p) (o := .lst acc) f gp)⟩
  · rintro σ' H' ⟨z4, rfl, f, acc, gp, hal, ha⟩
    rw [List.length_map, hwl] at hal
    have ha' : ∀ j, j < n → ∃ v, acc[j]? = some v ∧ MsN B H' v (cutN ns (st j) (st (j + 1))) := fun j hj => ha j (by rw [List.length_map]; omega)
    refine s_ret (v := .ref p) (ev_var rfl) fun H5 e5 => q p H5 ((FrO.after f e1 hp).trans e5) ⟨acc, e5 _ _ gp, hp, hal, fun j hj => ?_⟩
    obtain ⟨y, hy, hy2⟩ := ha' j hj
    exact ⟨y, hy, (hy2.ex e5).low e1⟩

/-! ### entries of the parts -/
def TxH (H H' : Hp) : Prop := ∀ a xs, H a = some (.tup xs) → H' a = some (.tup xs)
theorem TxH.ex {H H' : Hp} (e : Ex H H') : TxH H H' := fun _ _ h => e _ _ h
theorem TxH.upd {H : Hp} {c : Addr} {ys : List V} {o : HO} (h : H c = some (.lst ys)) : TxH H (upd H c o) := fun a xs ha => by rw [upd_ne (by rintro rfl; rw [h] at ha; cases ha)]; exact ha
theorem EntV.tx {H H' : Hp} {v : V} {e : (Str × Int) × Int} (h : EntV H v e) (x : TxH H H') : EntV H' v e := by obtain ⟨t, t2, h1, h2, h3⟩ := h; exact ⟨t, t2, h1, x _ _ h2, x _ _ h3⟩
def CodAt (H : Hp) (rs : List V) (cs : List (Str × Int)) : Prop := rs.length = cs.length ∧ ∀ (i : Nat) (c : Str × Int), cs[i]? = some c → ∃ t : Addr, rs[i]? = some (.ref t) ∧ H t = some (.tup [.str c.1, .int c.2])
theorem CodAt.tx {H H' : Hp} {rs : List V} {cs : List (Str × Int)} (h : CodAt H rs cs) (x : TxH H H') : CodAt H' rs cs := ⟨h.1, fun i c hc => by obtain ⟨t, h1, h2⟩ := h.2 i c hc; exact ⟨t, h1, x _ _ h2⟩⟩
theorem CodAt.d {H : Hp} : ∀ {cs : List (Str × Int)} {rs : List V}, CodAt H rs cs → DpAll K H rs (cs.map codD)
  | [], rs, h => by
    obtain rfl : rs = [] := List.eq_nil_of_length_eq_zero h.1
    exact .nil
  | c :: cs, [], h => by cases h.1
  | c :: cs, r :: rs, h => by
    obtain ⟨t, h1, h2⟩ := h.2 0 c rfl
    cases h1
    exact .cons (.tup (st_of h2) (.cons (.str _) (.cons (.int _) .nil))) (CodAt.d ⟨Nat.succ.inj h.1, fun i c hc => h.2 (i + 1) c hc⟩)
def codsF (f : Nat → List Int) (n m : Nat) : List (Str × Int) := (List.range n).map fun k => (entF (f k) m).1
def totF (f : Nat → List Int) (n m : Nat) : Int := 6 + ((List.range n).map fun k => (entF (f k) m).2).sum
theorem ent_refs {H : Hp} {acc : List V} {e : Nat → (Str × Int) × Int} : ∀ n, (∀ j, j < n → ∃ v, acc[j]? = some v ∧ EntV H v (e j)) → ∃ rs : List V, rs.length = n ∧ ∀ j, j < n → ∃ t t2, acc[j]? = some (.ref t) ∧ rs[j]? = some (.ref t2) ∧ H t = some (.tup [.ref t2, .int (e j).2]) ∧ H t2 = some (.tup [.str (e j).1.1, .int (e j).1.2])
  | 0, _ => ⟨[], rfl, fun j hj => by omega⟩
  | n + 1, h => by
    obtain ⟨rs, hl, hr⟩ := ent_refs n fun j hj => h j (by omega)
    obtain ⟨v, hv, t, t2, rfl, h1, h2⟩ := h n (by omega)
    refine ⟨rs ++ [.ref t2], by rw [List.length_append, hl]; rfl, fun j hj => ?_⟩
    by_cases hj2 : j < n
    · obtain ⟨u, u2, g1, g2, g3, g4⟩ := hr j hj2
      exact ⟨u, u2, g1, by rw [List.getElem?_append_left (by omega)]; exact g2, g3, g4⟩
    · obtain rfl : j = n := by omega
      exact ⟨t, t2, hv, by rw [List.getElem?_append_right (by omega), hl, Nat.sub_self]; rfl, h1, h2⟩
/-- [e for x, y in xs], xs a list of pairs -/
theorem el_lcP {j1 j2 : Nat} {t1 te : TE} {vs : List Nat} {σ : L2.St} {H : Hp} {xs : List V} (zs : List V) (h1 : EvS K t1 σ H xs) (hz : zs.length = xs.length) (hb : zs.length ≤ 50000) (hw : ∀ x y, wipe (((wipe σ vs).set j1 (some x)).set j2 (some y)) vs = wipe σ vs)
    (he : ∀ (i : Nat) (x : V), xs[i]? = some x → ∃ t y z w', x = .ref t ∧ H t = some (.tup [y, z]) ∧ zs[i]? = some w' ∧ ∀ H1, Ex H H1 → Ev te (((wipe σ vs).set j1 (some y)).set j2 (some z)) H1 w') :
    EvL (tLc (iList K t1) (gTup K 2 (gCons (gName j1) (gCons (gName j2) gNil))) tYes te vs) σ H zs := fun H0 e Q q =>
  h1 H0 e _ fun p H1 e1 hp => ⟨p, rfl, ⟨xs, hp⟩, fun D hD => lc_list (xs := xs) (fun i H' => Ex H1 H' ∧ H' D = some (.lst (zs.take i))) ⟨Ex.new hD, upd_same⟩ (fun i H' _ h => ex_l h.1 hp)
    (fun i x H' hi h => by
      obtain ⟨t, y, z, w', rfl, ht, hz1, hz2⟩ := he i x hi
      have e' := (e.trans e1).trans h.1
      have hl : i < xs.length := (List.getElem?_eq_some_iff.mp hi).1
      refine ⟨t, [y, z], rfl, st_of (e' _ _ ht), rfl, y, [z], rfl, z, [], rfl, rfl, hw y z, ?_⟩
      refine hz2 H' e' H' (Ex.refl _) _ fun H4 e4 => ⟨zs.take i, e4 _ _ h.2, sz_lt (by rw [List.length_take]; omega), Ex.mut (h.1.trans e4) hD, ?_⟩
      rw [upd_same, take_snoc hz1])
    (fun H' h => q D H' (fresh_back e1 hD) (e1.trans h.1) (by rw [h.2, ← hz, List.take_length]))⟩
theorem eu_tupOf {te : TE} {σ : L2.St} {H : Hp} {xs : List V} (h : EvL te σ H xs) : EvU (tCB (fun xs H Q => ∃ p ys, xs = [V.ref p] ∧ ((SqL K H p ys ∧ ∀ l : Addr, H l = none → Q (V.ref l) (upd H l (.tup ys))) ∨ SqT K H p ys ∧ Q (V.ref p) H)) (tCons te tNil)) σ H xs := fun H1 e Q q =>
  h H1 e _ fun p H2 hp e2 g2 => ⟨p, xs, rfl, .inl ⟨sq_of g2, fun l hl => q l _ (fresh_back e2 hl) (e2.trans (Ex.new hl)) upd_same⟩⟩
theorem tlc_lstM {t1 te : TE} {vs : List Nat} {xs : List V} {j : Nat} {σ : L2.St} {H : Hp} {Q : VK} (h : EvS K t1 σ H xs)
    (k : ∀ p H1, Ex H H1 → SqL K H1 p xs → ∀ Dl, H1 Dl = none → ∃ Pv : Nat → Hp → Prop, Pv 0 (upd H1 Dl (.lst [])) ∧ (∀ (i : Nat) H', Pv i H' → SqL K H' p xs) ∧ (∀ (i : Nat) (x : V) H', xs[i]? = some x → Pv i H' → wipe ((wipe σ vs).set j (some x)) vs = wipe σ vs ∧ te ((wipe σ vs).set j (some x)) H' fun y H4 => ∃ acc, H4 Dl = some (.lst acc) ∧ acc.length < sizeLine ∧ Pv (i + 1) (upd H4 Dl (.lst (acc ++ [y])))) ∧ (∀ H', Pv xs.length H' → Q (.ref Dl) H')) :
    tLc (iList K t1) (gName j) tYes te vs σ H Q := h H (Ex.refl H) _ fun p H1 e1 hp => ⟨p, rfl, ⟨xs, hp⟩, fun Dl hD => by
  obtain ⟨Pv, h0, hl, hs, hd⟩ := k p H1 e1 hp Dl hD
  exact lc_list (xs := xs) Pv h0 (fun i H' _ p => hl i H' p) (fun i x H' hi p => hs i x H' hi p) hd⟩
theorem q_asgQ {te : TE} {g : TG} {tz : TS} {D : Ends} {σ : L2.St} {H : Hp} (h : te σ H fun x H2 => g x σ H2 (tz D)) : tSeq (tAsg te g) tz D σ H := h
def sp_entries : Sp := fun vs H Q _ => ∃ (B : Hp) (a : Addr) (n m : Nat) (f : Nat → List Int), vs = [.ref a, .int (m : Int)] ∧ PtAt B H a n f ∧ m ≤ 1 ∧ n ≤ 40000 ∧ (∀ i, i < n → (f i).length ≤ 40000) ∧ ∀ t tc rs H', Ex H H' → H' t = some (.tup [.ref tc, .int (totF f n m)]) → H' tc = some (.tup rs) → CodAt H' rs (codsF f n m) → Q (.ref t) H'
theorem ok_entries (T : TX K mg) : FnOk P w K mg base CX0 2 T.a_entries T.d_entries ["parts", "method"] sp_entries := by
  refine T.F_entries.ok sc_entries (fun vs H Q E h => by obtain ⟨B, a, n, m, f, rfl, _⟩ := h; rfl) (fun cdv A outer s0 H vs Q E hr h => ?_)
  obtain ⟨B, a, n, m, f, rfl, ⟨xs, ga, -, hxl, hx⟩, hm, hn, hf, q⟩ := h
  refine ⟨_, (pss_cons (ps_setLc (i := 2) (own := [("part", 4)]) (g := gName 4) (tt := tYes) rfl sc_entries.nd rfl rfl (sw_true rfl rfl rfl (by decide +kernel)) (pi_list (pv 0)) (blkOk_by (N := ["parts", "method", "entries", "codings", "part", "coding", "_", "bits"]) (sc := defScope s_entries) (by decide +kernel)) (fun _ _ _ _ _ => pg_name (i := 4) sc_entries.nd rfl (Or.inl rfl)) (fun _ _ _ _ _ => pts_nil) (fun _ _ _ _ _ => (pe_call (ok_entry T) (hr.mono (by decide)) (by rfl) T.g_entry T.F_entry.kp T.b_entry .nil pass0 (pa_cons (pv 4) (pa_cons (pv 1) pa_nil)))))
      (pss_cons (ps_set (i := 3) sc_entries.nd rfl (Or.inl rfl) (pe_callTy call_tuple_of (by rfl) T.m_tuple PyProof.Rows.boot_tuple (pa_cons (pe_lc (own := [("coding", 5), ("_", 6)]) (g := (gTup K 2 (gCons (gName 5) (gCons (gName 6) gNil)))) (tt := tYes) rfl sc_entries.nd (pi_list (pv 2)) (blkOk_by (N := ["parts", "method", "entries", "codings", "part", "coding", "_", "bits"]) (sc := defScope s_entries) (by decide +kernel)) (fun _ _ _ _ _ => (pg_tup rfl (pgs_cons (pg_name (i := 5) sc_entries.nd rfl (Or.inl rfl)) (pgs_cons (pg_name (i := 6) sc_entries.nd rfl (Or.inl rfl)) pgs_nil)))) (fun _ _ _ _ _ => pts_nil) (fun _ _ _ _ _ => (pv 5))) pa_nil)))
      (pss_one (ps_ret (pe_tup (pa_cons (pv 3) (pa_cons (pe_op op_add (pe_glob (by rfl) T.c_HEAD_BITS T.r_HEAD_BITS) (pe_callB (r := rSum K) (cr_sum rfl) (by rfl) T.m_sum PyProof.Rows.boot_sum (pa_cons (pe_lc (own := [("_", 6), ("bits", 7)]) (g := (gTup K 2 (gCons (gName 6) (gCons (gName 7) gNil)))) (tt := tYes) rfl sc_entries.nd (pi_list (pv 2)) (blkOk_by (N := ["parts", "method", "entries", "codings", "part", "coding", "_", "bits"]) (sc := defScope s_entries) (by decide +kernel)) (fun _ _ _ _ _ => (pg_tup rfl (pgs_cons (pg_name (i := 6) sc_entries.nd rfl (Or.inl rfl)) (pgs_cons (pg_name (i := 7) sc_entries.nd rfl (Or.inl rfl)) pgs_nil)))) (fun _ _ _ _ _ => pts_nil) (fun _ _ _ _ _ => (pv 7))) pa_nil))) pa_nil))))))), ?_⟩
  refine q_asgQ ?_
  refine tlc_lstM (Ev.s (ev_var rfl) (sq_of ga)) fun p H1 e1 hp Dl hD => ⟨fun i H' => Ex H1 H' ∧ ∃ acc : List V, H' Dl = some (.lst acc) ∧ acc.length = i ∧ ∀ j, j < i → ∃ v, acc[j]? = some v ∧ EntV H' v (entF (f j) m), ⟨Ex.new hD, [], upd_same, rfl, fun j hj => by omega⟩, fun i H' h => ex_l h.1 hp, ?_, ?_⟩
  · rintro i x H' hi ⟨ex, acc, gD, hal, ha⟩
    have hin : i < n := by have := (List.getElem?_eq_some_iff.mp hi).1; omega
    obtain ⟨v, hv, hv2⟩ := hx i hin
    rw [hi] at hv
    cases hv
    refine ⟨rfl, ea_go (ea_cons (ev_var rfl) (ea_cons (ev_var rfl) ea_nil)) fun H2 e2 => ⟨B, x, f i, m, rfl, hv2.ex (e1.trans (ex.trans e2)), hm, hf i hin, fun v H3 e3 hv => ⟨acc, (e2.trans e3) _ _ gD, sz_lt (by omega), Ex.mut (ex.trans (e2.trans e3)) hD, acc ++ [v], upd_same, by rw [List.length_append, hal]; rfl, fun j hj => ?_⟩⟩⟩
    have hT : TxH H3 (upd H3 Dl (.lst (acc ++ [v]))) := TxH.upd ((e2.trans e3) _ _ gD)
    by_cases hj2 : j < i
    · obtain ⟨y, hy, hy2⟩ := ha j hj2
      exact ⟨y, by rw [List.getElem?_append_left (by omega)]; exact hy, (hy2.ex (e2.trans e3)).tx hT⟩
    · obtain rfl : j = i := by omega
      exact ⟨v, by rw [List.getElem?_append_right (by omega), hal, Nat.sub_self]; rfl, hv.tx hT⟩
  rintro H2 ⟨ex, acc, gD, hal, ha⟩
  rw [hxl] at hal ha
  obtain ⟨rs, hrl, hrs⟩ := ent_refs n ha
  have e12 := e1.trans ex
  refine q_asgU (xs := rs) (eu_tupOf (el_lcP rs (Ev.s (ev_var rfl) (sq_of gD)) (by omega) (by omega) (fun _ _ => rfl) fun i x hx => ?_)) fun tc H3 htc e3 gtc => ?_
  · obtain ⟨t, t2, h1, h2, h3, h4⟩ := hrs i (by have := (List.getElem?_eq_some_iff.mp hx).1; omega)
    rw [hx] at h1
    cases h1
    exact ⟨t, _, _, .ref t2, rfl, h3, h2, fun H1 e => ev_var rfl⟩
  have gD3 := e3 _ _ gD
  refine s_retU (xs := [.ref tc, .int (totF f n m)]) (eu_tup (ea_cons (ev_var rfl) (ea_cons (ev_I0 (g := fun i j => .int (i + j)) (ev_relC T.r_HEAD_BITS) (ev_sum (ns := (List.range n).map fun k => (entF (f k) m).2) (EvR.s (EvL.r (el_lcP _ (Ev.s (ev_var rfl) (sq_of gD3)) (by rw [List.length_map, List.length_map, List.length_range]; omega) (by rw [List.length_map, List.length_map, List.length_range]; omega) (fun _ _ => rfl) fun i x hx => ?_))))) ea_nil)) (Nat.le_of_ble_eq_true rfl)) fun t H4 ht e4 g4 => q t tc rs H4 (e12.trans (e3.trans e4)) g4 (e4 _ _ gtc) ⟨by unfold codsF; rw [List.length_map, List.length_range, hrl], fun i c hc => ?_⟩
  · have hi : i < n := by have := (List.getElem?_eq_some_iff.mp hx).1; omega
    obtain ⟨t, t2, h1, h2, h3, h4⟩ := hrs i hi
    rw [hx] at h1
    cases h1
    exact ⟨t, _, _, .int (entF (f i) m).2, rfl, e3 _ _ h3, at_int (by rw [List.getElem?_map, List.getElem?_range hi]; rfl), fun H1 e => ev_var rfl⟩
  · unfold codsF at hc
    have hi : i < n := by have := (List.getElem?_eq_some_iff.mp hc).1; rw [List.length_map, List.length_range] at this; omega
    rw [List.getElem?_map, List.getElem?_range hi] at hc
    cases hc
    obtain ⟨t, t2, h1, h2, h3, h4⟩ := hrs i hi
    exact ⟨t2, h2, (e3.trans e4) _ _ h4⟩

/-! ### the best coding -/
def chk (ns : List Int) (g p : Nat) (k : Nat) : List Int := cutN ns (k * ((ns.length + g) / 2 ^ p) - g) ((k + 1) * ((ns.length + g) / 2 ^ p) - g)
def qdF (ns : List Int) (g m p : Nat) : Qd := ⟨totF (chk ns g p) (2 ^ p) m, m, p, codsF (chk ns g p) (2 ^ p) m⟩
def LegP (s g p : Nat) : Prop := s % 2 ^ p = 0 ∧ g < s / 2 ^ p
instance (s g p : Nat) : Decidable (LegP s g p) := inferInstanceAs (Decidable (_ ∧ _))
def LegQ (s g hi M m p : Nat) : Prop := m < M ∧ p ≤ hi ∧ LegP s g p
def BestQ (ns : List Int) (g hi M : Nat) (x : Qd) : Prop := ∃ m p, LegQ (ns.length + g) g hi M m p ∧ x = qdF ns g m p ∧ ∀ m' p', LegQ (ns.length + g) g hi M m' p' → ¬ ltQ (qdF ns g m' p') x
theorem legP_zero {s g : Nat} (h : g < s) : LegP s g 0 := ⟨by rw [Nat.pow_zero]; exact Nat.mod_one s, by rw [Nat.pow_zero, Nat.div_one]; exact h⟩
theorem legP_down {s g p : Nat} (h : LegP s g (p + 1)) : LegP s g p := by
  obtain ⟨h1, h2⟩ := h
  rw [Nat.pow_succ] at h1 h2
  refine ⟨Nat.mod_eq_zero_of_dvd (Nat.dvd_trans ⟨2, rfl⟩ (Nat.dvd_of_mod_eq_zero h1)), ?_⟩
  rw [← Nat.div_div_eq_div_mul] at h2
  omega
theorem legP_le {s g p : Nat} : ∀ d, LegP s g (p + d) → LegP s g p
  | 0, h => h
  | d + 1, h => legP_le d (legP_down h)
theorem chk_join {ns : List Int} {g p : Nat} (h : LegP (ns.length + g) g (p + 1)) (k : Nat) : chk ns g (p + 1) (2 * k) ++ chk ns g (p + 1) (2 * k + 1) = chk ns g p k := by
  have e : (ns.length + g) / 2 ^ p = 2 * ((ns.length + g) / 2 ^ (p + 1)) := by
    have h1 := h.1
    rw [Nat.pow_succ] at h1 ⊢
    rw [← Nat.div_div_eq_div_mul]
    have hp := Nat.two_pow_pos p
    have h0 : (ns.length + g) % 2 ^ p = 0 := Nat.mod_eq_zero_of_dvd (Nat.dvd_trans ⟨2, rfl⟩ (Nat.dvd_of_mod_eq_zero h1))
    have h2 : ((ns.length + g) / 2 ^ p) % 2 = 0 := by
      obtain ⟨c, hc⟩ := Nat.dvd_of_mod_eq_zero h1
      rw [hc, Nat.mul_assoc, Nat.mul_div_cancel_left _ hp]
      omega
    omega
  unfold chk
  rw [e]
  generalize (ns.length + g) / 2 ^ (p + 1) = W
  have a1 : 2 * k * W ≤ (2 * k + 1) * W := Nat.mul_le_mul_right _ (by omega)
  have a2 : (2 * k + 1) * W ≤ (2 * k + 1 + 1) * W := Nat.mul_le_mul_right _ (by omega)
  rw [cutN_join ns (by omega) (by omega)]
  congr 1
  · rw [← Nat.mul_assoc, Nat.mul_comm k 2]
  · rw [← Nat.mul_assoc, Nat.add_mul k 1 2, Nat.mul_comm k 2]
theorem two_half (d : Nat) : 2 ^ (d + 1) / 2 = 2 ^ d := by rw [Nat.pow_succ, Nat.mul_div_cancel _ (by decide)]
theorem PtAt.congr {B H : Hp} {a : Addr} {n n' : Nat} {f f' : Nat → List Int} (h : PtAt B H a n f) (hn : n = n') (e : ∀ i, i < n → f i = f' i) : PtAt B H a n' f' := by
  subst hn
  obtain ⟨vs, h1, h2, h3, h4⟩ := h
  exact ⟨vs, h1, h2, h3, fun i hi => by rw [← e i hi]; exact h4 i hi⟩
/-- the candidates -/
def rowQ (ns : List Int) (g p M : Nat) : List Qd := (List.range M).map fun m => qdF ns g m p
def qsF (ns : List Int) (g top M : Nat) : Nat → List Qd
  | 0 => []
  | i + 1 => qsF ns g top M i ++ rowQ ns g (top - i) M
theorem mem_row {ns : List Int} {g p M : Nat} {x : Qd} : x ∈ rowQ ns g p M ↔ ∃ m, m < M ∧ x = qdF ns g m p := by
  unfold rowQ
  rw [List.mem_map]
  exact ⟨fun ⟨m, h1, h2⟩ => ⟨m, List.mem_range.mp h1, h2.symm⟩, fun ⟨m, h1, h2⟩ => ⟨m, List.mem_range.mpr h1, h2.symm⟩⟩
theorem mem_qs {ns : List Int} {g top M : Nat} {x : Qd} : ∀ {i : Nat}, x ∈ qsF ns g top M i ↔ ∃ j m, j < i ∧ m < M ∧ x = qdF ns g m (top - j)
  | 0 => ⟨fun h => (List.not_mem_nil h).elim, fun ⟨j, m, h, _⟩ => absurd h (by omega)⟩
  | i + 1 => by
    unfold qsF
    rw [List.mem_append, mem_qs, mem_row]
    refine ⟨fun h => ?_, fun ⟨j, m, hj, hm, hx⟩ => ?_⟩
    · rcases h with ⟨j, m, hj, hm, hx⟩ | ⟨m, hm, hx⟩
      · exact ⟨j, m, by omega, hm, hx⟩
      · exact ⟨i, m, by omega, hm, hx⟩
    · by_cases h : j < i
      · exact .inl ⟨j, m, h, hm, hx⟩
      · obtain rfl : j = i := by omega
        exact .inr ⟨m, hm, hx⟩
theorem row_pw (ns : List Int) (g p : Nat) : ∀ M, (rowQ ns g p M).Pairwise difQ
  | 0 => List.Pairwise.nil
  | M + 1 => by
    unfold rowQ
    rw [List.range_succ, List.map_append, List.pairwise_append]
    refine ⟨row_pw ns g p M, List.pairwise_singleton .., fun x hx y hy => ?_⟩
    obtain ⟨m, hm, rfl⟩ := mem_row.mp hx
    rw [List.mem_singleton.mp hy]
    unfold difQ qdF
    dsimp only
    omega
theorem qs_pw (ns : List Int) (g top M : Nat) : ∀ i, i ≤ top + 1 → (qsF ns g top M i).Pairwise difQ
  | 0, _ => List.Pairwise.nil
  | i + 1, h => by
    unfold qsF
    rw [List.pairwise_append]
    refine ⟨qs_pw ns g top M i (by omega), row_pw .., fun x hx y hy => ?_⟩
    obtain ⟨j, m, hj, hm, rfl⟩ := mem_qs.mp hx
    obtain ⟨m', hm', rfl⟩ := mem_row.mp hy
    unfold difQ qdF
    dsimp only
    omega
def QdAt (H : Hp) (v : V) (x : Qd) : Prop := ∃ (t tc : Addr) (rs : List V), v = .ref t ∧ H t = some (.tup [.int x.b, .int (x.m : Int), .int (x.p : Int), .ref tc]) ∧ H tc = some (.tup rs) ∧ CodAt H rs x.cs
theorem QdAt.tx {H H' : Hp} {v : V} {x : Qd} (h : QdAt H v x) (t : TxH H H') : QdAt H' v x := by obtain ⟨a, tc, rs, h0, h1, h2, h3⟩ := h; exact ⟨a, tc, rs, h0, t _ _ h1, t _ _ h2, h3.tx t⟩
def QdsAt (H : Hp) : List V → List Qd → Prop
  | [], [] => True
  | v :: vs, x :: xs => QdAt H v x ∧ QdsAt H vs xs
  | _, _ => False
theorem QdsAt.tx {H H' : Hp} (t : TxH H H') : ∀ {vs : List V} {xs : List Qd}, QdsAt H vs xs → QdsAt H' vs xs
  | [], [], _ => trivial
  | _ :: _, _ :: _, h => ⟨h.1.tx t, QdsAt.tx t h.2⟩
  | [], _ :: _, h => h.elim
  | _ :: _, [], h => h.elim
theorem QdsAt.snoc {H : Hp} {v : V} {x : Qd} (hv : QdAt H v x) : ∀ {vs : List V} {xs : List Qd}, QdsAt H vs xs → QdsAt H (vs ++ [v]) (xs ++ [x])
  | [], [], _ => ⟨hv, trivial⟩
  | _ :: _, _ :: _, h => ⟨h.1, QdsAt.snoc hv h.2⟩
  | [], _ :: _, h => h.elim
  | _ :: _, [], h => h.elim
theorem QdsAt.len {H : Hp} : ∀ {vs : List V} {xs : List Qd}, QdsAt H vs xs → vs.length = xs.length
  | [], [], _ => rfl
  | _ :: _, _ :: _, h => congrArg (· + 1) (QdsAt.len h.2)
  | [], _ :: _, h => h.elim
  | _ :: _, [], h => h.elim
theorem QdsAt.d {H : Hp} : ∀ {vs : List V} {xs : List Qd}, QdsAt H vs xs → DpAll K H vs (xs.map quadD)
  | [], [], _ => .nil
  | _ :: _, _ :: _, h => by
    obtain ⟨⟨t, tc, rs, rfl, h1, h2, h3⟩, hr⟩ := h
    exact .cons (.tup (st_of h1) (.cons (.int _) (.cons (.int _) (.cons (.int _) (.cons (.tup (st_of h2) h3.d) .nil))))) hr.d
  | [], _ :: _, h => h.elim
  | _ :: _, [], h => h.elim
/-- [j for j in range(n) if c] -/
theorem el_lcF {ta : TA} {te : TE} {tt : TT} {vs : List Nat} {n : Int} {j : Nat} {σ : L2.St} {H : Hp} {c : Nat → Bool} (h1 : EvA ta σ H [.int n]) (hn : 0 ≤ n ∧ n ≤ 50000) (hw : ∀ x, wipe ((wipe σ vs).set j (some x)) vs = wipe σ vs)
    (hc : ∀ (i : Nat) H1, Ex H H1 → (i : Int) < n → EvT tt ((wipe σ vs).set j (some (.int (i : Int)))) H1 (c i)) (hv : ∀ (i : Nat) H1, Ev te ((wipe σ vs).set j (some (.int (i : Int)))) H1 (.int (i : Int))) :
    EvL (tLc (iRng1 ta) (gName j) tt te vs) σ H (((List.range n.toNat).filter c).map fun (i : Nat) => V.int (i : Int)) := fun H0 e Q q =>
  h1 H0 e _ fun H1 e1 => ⟨n, rfl, by omega, by omega, fun D hD => lc_range (lo := 0) (n := n.toNat) (fun i H' => Ex H1 H' ∧ H' D = some (.lst (((List.range i).filter c).map fun (i : Nat) => V.int (i : Int)))) ⟨Ex.new hD, upd_same⟩
    (fun i H' hi h => by
      rw [Int.zero_add]
      refine ⟨hw _, hc i H' ((e.trans e1).trans h.1) (by omega) H' (Ex.refl _) _ fun H3 e3 => ?_⟩
      have hst : ((List.range (i + 1)).filter c).map (fun (i : Nat) => V.int (i : Int)) = ((List.range i).filter c).map (fun (i : Nat) => V.int (i : Int)) ++ (if c i = true then [V.int (i : Int)] else []) := by
        rw [List.range_succ, List.filter_append, List.map_append, List.filter_cons, List.filter_nil]
        split <;> rfl
      cases hb : c i with
      | true =>
        rw [if_pos rfl]
        refine hv i H3 H3 (Ex.refl _) _ fun H4 e4 => ⟨_, (e3.trans e4) _ _ h.2, sz_lt (by rw [List.length_map]; exact Nat.lt_of_le_of_lt (List.length_filter_le ..) (by rw [List.length_range]; omega)), Ex.mut (h.1.trans (e3.trans e4)) hD, ?_⟩
        rw [upd_same, hst, if_pos hb]
      | false =>
        rw [if_neg (by decide)]
        refine ⟨h.1.trans e3, ?_⟩
        rw [hst, if_neg (by rw [hb]; decide), List.append_nil]
        exact e3 _ _ h.2)
    (fun H' h => q D H' (fresh_back e1 hD) (e1.trans h.1) h.2)⟩
theorem top_of {n : Nat} {c : Nat → Bool} (h0 : c 0 = true) (hn : 0 < n) : ∃ t : Nat, maxI 0 (((List.range n).filter c).map fun (i : Nat) => (i : Int)) = (t : Int) ∧ t < n ∧ c t = true ∧ ∀ i, i < n → c i = true → i ≤ t := by
  have hnn : ∀ u ∈ ((List.range n).filter c).map (fun (i : Nat) => (i : Int)), 0 ≤ u := fun u hu => by
    obtain ⟨i, _, rfl⟩ := List.mem_map.mp hu
    omega
  obtain ⟨a, b, d⟩ := maxI_nn hnn
  have hmem : ∀ i, i < n → c i = true → (i : Int) ∈ ((List.range n).filter c).map (fun (i : Nat) => (i : Int)) := fun i hi hc => List.mem_map_of_mem (f := fun i : Nat => (i : Int)) (List.mem_filter.mpr ⟨List.mem_range.mpr hi, hc⟩)
  rcases b with h | h
  · refine ⟨0, h, hn, h0, fun i hi hc => ?_⟩
    have := d _ (hmem i hi hc)
    omega
  · obtain ⟨t, ht, e⟩ := List.mem_map.mp h
    obtain ⟨h1, h2⟩ := List.mem_filter.mp ht
    refine ⟨t, e.symm, List.mem_range.mp h1, h2, fun i hi hc => ?_⟩
    have := d _ (hmem i hi hc)
    omega
theorem rs_m1 (t : Nat) : Builtin.Range.rangeSize (t : Int) (-1) (-1) = ((t + 1 : Nat) : Int) := by
  unfold Builtin.Range.rangeSize
  rw [if_neg (by decide), show (-(-1) : Int) = 1 from rfl]
  split <;> omega
theorem rg_m1 {t : Nat} (ht : t ≤ 1000) : RgC (t : Int) (-1) (-1) (t + 1) := by
  refine ⟨by decide, by omega, ?_, rs_m1 t⟩
  unfold Builtin.Range.small
  rw [rs_m1]
  simp only [Builtin.Range.rangeFitsLong, Bool.and_eq_true, Bool.or_eq_true, decide_eq_true_eq, beq_iff_eq, show ¬ ((-1 : Int) > 0) by decide, if_false]
  omega
theorem ev_legN {σ : L2.St} {H : Hp} {t1 t2 t3 : TE} {E : XK} {s o m : Nat} (h1 : Ev t1 σ H (.int (s : Int))) (h2 : Ev t2 σ H (.int (o : Int))) (h3 : Ev t3 σ H (.int (m : Int))) (hm : m ≤ 16) : Ev (tCall sp_legal [] E (tCons t1 (tCons t2 (tCons t3 tNil)))) σ H (.bl (decide (LegP s o m))) := by
  refine Ev.is (ev_legal h1 h2 h3 hm) (congrArg V.bl ?_)
  rw [← Bool.decide_and]
  refine decide_eq_decide.mpr ?_
  unfold LegP
  rw [p2c, ← Int.natCast_emod, ← Int.natCast_ediv]
  omega
theorem q_asgC2 {t1 t2 : TE} {v : V} {xs : List V} {g : TG} {sp : Sp} {dvs : List V} {E : XK} {tz : TS} {D : Ends} {σ : L2.St} {H : Hp} (h1 : Ev t1 σ H v) (h2 : EvL t2 σ H xs) (k : ∀ H1 p, H p = none → Ex H H1 → H1 p = some (.lst xs) → sp ([v, .ref p] ++ dvs) H1 (fun x H2 => g x σ H2 (tz D)) E) : tSeq (tAsg (tCall sp dvs E (tCons t1 (tCons t2 tNil))) g) tz D σ H := h1 H (Ex.refl _) _ fun H1 e1 => h2 H1 e1 _ fun p H2 hp e2 g2 => k H2 p (fresh_back e1 hp) (e1.trans e2) g2
theorem q_asgCG {tA : TA} {g : TG} {sp : Sp} {dvs vs : List V} {E : XK} {tz : TS} {D : Ends} {σ : L2.St} {H : Hp} (h : EvA tA σ H vs) (k : ∀ H1, Ex H H1 → sp (vs ++ dvs) H1 (fun x H2 => g x σ H2 (tz D)) E) : tSeq (tAsg (tCall sp dvs E tA) g) tz D σ H := h H (Ex.refl H) _ fun H1 e => k H1 e
theorem s_asgCG {tA : TA} {g : TG} {sp : Sp} {dvs vs : List V} {E : XK} {D : Ends} {σ : L2.St} {H : Hp} (h : EvA tA σ H vs) (k : ∀ H1, Ex H H1 → sp (vs ++ dvs) H1 (fun x H2 => g x σ H2 D.nx) E) : tAsg (tCall sp dvs E tA) g D σ H := h H (Ex.refl H) _ fun H1 e => k H1 e
theorem s_appE {σ : L2.St} {H : Hp} {ta te : TE} {l : Addr} {xs : List V} {D : Ends} {S : V → Hp → Prop} (hl : H l = some (.lst xs)) (ha : Ev ta σ H (.ref l)) (h : EvX te σ H S) (hz : xs.length < 100000) (k : ∀ v H1, Ex H H1 → S v H1 → D.nx σ (upd H1 l (.lst (xs ++ [v])))) : tDrop (tBM K "list" rAppend ta (tCons te tNil)) D σ H :=
  ha H (Ex.refl _) _ fun H1 e1 => ⟨.inl ⟨rfl, xs, sq_of (e1 _ _ hl)⟩, h H1 e1 _ fun v H2 e2 hv => ⟨l, xs, v, rfl, rfl, (e1.trans e2) _ _ hl, sz_lt hz, k v H2 (e1.trans e2) hv⟩⟩
theorem eu_if {c : TT} {ta tb : TE} {σ : L2.St} {H : Hp} {b : Bool} {xs : List V} (h : EvT c σ H b) (h1 : b = true → EvU ta σ H xs) (h2 : b = false → EvU tb σ H xs) : EvU (tIf c ta tb) σ H xs := fun H1 e Q q => h H1 e _ fun H2 e2 => by
  cases b with
  | true =>
    rw [if_pos rfl]
    exact h1 rfl H2 (e.trans e2) Q fun p H3 hp e3 g => q p H3 (fresh_back e2 hp) (e2.trans e3) g
  | false =>
    rw [if_neg (by decide)]
    exact h2 rfl H2 (e.trans e2) Q fun p H3 hp e3 g => q p H3 (fresh_back e2 hp) (e2.trans e3) g
theorem EvU.is {te : TE} {σ : L2.St} {H : Hp} {xs ys : List V} (h : EvU te σ H xs) (e : xs = ys) : EvU te σ H ys := e ▸ h
theorem st_fro {c t : Addr} {B H' : Hp} {xs ys : List V} (f : FrO c B H') (hc : B c = some (.lst ys)) (ht : B t = some (.tup xs)) : H' t = some (.tup xs) := f _ _ (by rintro rfl; rw [hc] at ht; cases ht) ht
theorem qs_len (ns : List Int) (g top M : Nat) : ∀ i, (qsF ns g top M i).length = i * M
  | 0 => by rw [Nat.zero_mul]; rfl
  | i + 1 => by
    unfold qsF rowQ
    rw [List.length_append, qs_len, List.length_map, List.length_range, Nat.add_mul i 1 M, Nat.one_mul]
theorem row_len (ns : List Int) (g p M : Nat) : (rowQ ns g p M).length = M := by unfold rowQ; rw [List.length_map, List.length_range]
theorem row_succ (ns : List Int) (g p M : Nat) : rowQ ns g p (M + 1) = rowQ ns g p M ++ [qdF ns g M p] := by unfold rowQ; rw [List.range_succ, List.map_append]; rfl
theorem s_retD {te : TE} {σ : L2.St} {H : Hp} {d : PyData} {D : Ends} (h : EvD K te σ H d) (k : ∀ v H1, Ex H H1 → Dp K H1 v d → D.rt v H1) : tRet te D σ H := h H (Ex.refl H) _ k
theorem QdsAt.at {H : Hp} : ∀ {vs : List V} {xs : List Qd} {i : Nat} {v : V} {x : Qd}, QdsAt H vs xs → vs[i]? = some v → xs[i]? = some x → QdAt H v x
  | [], _, i, v, x, _, hv, _ => by simp at hv
  | _ :: _, [], _, _, _, h, _, _ => h.elim
  | y :: _, z :: _, 0, _, _, h, hv, hx => by cases hv; cases hx; exact h.1
  | _ :: _, _ :: _, i + 1, _, _, h, hv, hx => QdsAt.at h.2 hv hx
def BcAt (H : Hp) (v : V) (x : Qd) : Prop := ∃ (t t1 tc : Addr) (rs : List V), v = .ref t ∧ H t = some (.tup [.ref t1, .int x.b]) ∧ H t1 = some (.tup [.int (x.m : Int), .int (x.p : Int), .ref tc]) ∧ H tc = some (.tup rs) ∧ CodAt H rs x.cs
def sp_bc (K : PySem.W.Frag) : Sp := fun vs H Q _ => ∃ (a : Addr) (ns : List Int) (g hi : Nat) (wd : Bool), vs = [.ref a, .int (g : Int), .int (hi : Int), .bl wd] ∧ SqL K H a (ns.map V.int) ∧ 0 < ns.length ∧ ns.length + g ≤ 1000 ∧ hi ≤ 15 ∧ ∀ v H' x, Ex H H' → BestQ ns g hi (if wd = true then 2 else 1) x → BcAt H' v x → Q v H'
theorem chk_len (ns : List Int) (g p k : Nat) : (chk ns g p k).length ≤ ns.length := cutN_len ..
theorem ok_best_coding (T : TX K mg) : FnOk P w K mg base CX0 4 T.a_best_coding T.d_best_coding ["residuals", "order", "highest", "wide"] (sp_bc K) := by
  refine T.F_best_coding.ok sc_best_coding (fun vs H Q E h => by obtain ⟨a, ns, g, hi, wd, rfl, _⟩ := h; rfl) (fun cdv A outer s0 H vs Q E hr h => ?_)
  obtain ⟨a, ns, g, hi, wd, rfl, hA, hnl, hs, hhi, q⟩ := h
  refine ⟨_, (pss_cons (ps_set (i := 4) sc_best_coding.nd rfl (Or.inr rfl) (pe_op op_add (pe_callB (r := rLenS K) call_len_seq (by rfl) T.m_len PySem.boot_len (pa_cons (pv 0) pa_nil)) (pv 1)))
      (pss_cons (ps_set (i := 5) sc_best_coding.nd rfl (Or.inl rfl) (pe_callBK (cr_maxDef (hu64 hr)) (by rfl) T.m_max PyProof.Rows.boot_max (pa_cons (pe_lc (own := [("p", 13)]) (g := gName 13)  rfl sc_best_coding.nd (pi_range1 (by rfl) T.m_range (pa_cons (pe_op op_add (pv 2) pe_int) pa_nil)) (blkOk_by (N := ["residuals", "order", "highest", "wide", "size", "top", "methods", "candidates", "parts", "partition_order", "method", "codings", "bits", "p"]) (sc := defScope s_best_coding) (by decide +kernel)) (fun _ _ _ _ _ => pg_name (i := 13) sc_best_coding.nd rfl (Or.inl rfl)) (fun _ _ _ _ _ => pts_one (pt_val (pe_call (ok_legal_partition_order T) (hr.mono (by decide)) (by rfl) T.g_legal_partition_order T.F_legal_partition_order.kp T.b_legal_partition_order .nil pass0 (pa_cons (pv 4) (pa_cons (pv 1) (pa_cons (pv 13) pa_nil)))))) (fun _ _ _ _ _ => (pv 13))) pa_nil) (pk_cons pe_int pk_nil)))
      (pss_cons (ps_set (i := 6) sc_best_coding.nd rfl (Or.inl rfl) (pe_ifExp (pt_val (pv 3)) (pe_tup (pa_cons pe_int (pa_cons pe_int pa_nil))) (pe_tup (pa_cons pe_int pa_nil))))
      (pss_cons (ps_set (i := 7) sc_best_coding.nd rfl (Or.inl rfl) (pe_lst pa_nil))
      (pss_cons (ps_set (i := 8) sc_best_coding.nd rfl (Or.inl rfl) (pe_call (ok_measured_parts T) (hr.mono (by decide)) (by rfl) T.g_measured_parts T.F_measured_parts.kp T.b_measured_parts .nil pass0 (pa_cons (pv 0) (pa_cons (pe_call (ok_partition_sizes T) (hr.mono (by decide)) (by rfl) T.g_partition_sizes T.F_partition_sizes.kp T.b_partition_sizes .nil pass0 (pa_cons (pv 4) (pa_cons (pv 1) (pa_cons (pv 5) pa_nil)))) pa_nil))))
      (pss_cons (ps_for PassesOwn.leaving rfl (pi_range3 (by rfl) T.m_range (pa_cons (pv 5) (pa_cons (pe_un un_neg pe_int) (pa_cons (pe_un un_neg pe_int) pa_nil)))) (pg_name (i := 9) sc_best_coding.nd rfl (Or.inl rfl)) (pss_cons (ps_for PassesOwn.leaving rfl (pi_tup (pv 6)) (pg_name (i := 10) sc_best_coding.nd rfl (Or.inl rfl)) (pss_cons (ps_asg (pe_call (ok_entries T) (hr.mono (by decide)) (by rfl) T.g_entries T.F_entries.kp T.b_entries .nil pass0 (pa_cons (pv 8) (pa_cons (pv 10) pa_nil))) (pg_tup rfl (pgs_cons (pg_name (i := 11) sc_best_coding.nd rfl (Or.inl rfl)) (pgs_cons (pg_name (i := 12) sc_best_coding.nd rfl (Or.inl rfl)) pgs_nil))))
          (pss_one (ps_expr (pe_bm PySem.F.plainAttrs_list PySem.F.slot_list_append PySem.F.type_list_append mt_append (pv 7) (pa_cons (pe_tup (pa_cons (pv 12) (pa_cons (pv 10) (pa_cons (pv 9) (pa_cons (pv 11) pa_nil))))) pa_nil))))))
        (pss_one (ps_set (i := 8) sc_best_coding.nd rfl (Or.inl rfl) (pe_call (ok_joined_in_pairs T) (hr.mono (by decide)) (by rfl) T.g_joined_in_pairs T.F_joined_in_pairs.kp T.b_joined_in_pairs .nil pass0 (pa_cons (pv 8) pa_nil))))))
      (pss_cons (ps_asg (pe_callB (cr_minQ (hu64 hr) rfl) (by rfl) T.m_min PyProof.Rows.boot_min (pa_cons (pv 7) pa_nil)) (pg_tup rfl (pgs_cons (pg_name (i := 12) sc_best_coding.nd rfl (Or.inl rfl)) (pgs_cons (pg_name (i := 10) sc_best_coding.nd rfl (Or.inl rfl)) (pgs_cons (pg_name (i := 9) sc_best_coding.nd rfl (Or.inl rfl)) (pgs_cons (pg_name (i := 11) sc_best_coding.nd rfl (Or.inl rfl)) pgs_nil))))))
      (pss_one (ps_ret (pe_tup (pa_cons (pe_tup (pa_cons (pv 10) (pa_cons (pv 9) (pa_cons (pv 11) pa_nil)))) (pa_cons (pv 12) pa_nil)))))))))))), ?_⟩
  refine q_asg (v := .int ((ns.length + g : Nat) : Int)) (Ev.is (ev_I0 (g := fun i j => .int (i + j)) (ev_lenS (Ev.s (ev_var rfl) hA)) (ev_var rfl)) (congrArg V.int (by rw [List.length_map]; omega))) fun H1 e1 => ?_
  obtain ⟨s, hsd⟩ : ∃ s, s = ns.length + g := ⟨_, rfl⟩
  rw [← hsd]
  obtain ⟨top, ht1, ht2, ht3, ht4⟩ := top_of (n := hi + 1) (c := fun p => decide (LegP s g p)) (decide_eq_true (legP_zero (by omega))) (by omega)
  have hleg : LegP s g top := of_decide_eq_true ht3
  refine q_asg (v := .int (top : Int)) (Ev.is (ev_maxD (ns := ((List.range (hi + 1)).filter fun p => decide (LegP s g p)).map fun (i : Nat) => (i : Int)) (EvR.s (EvL.r (EvL.is (el_lcF (n := ((hi + 1 : Nat) : Int)) (c := fun p => decide (LegP s g p)) (ea_cons (Ev.is (ev_I0 (g := fun i j => .int (i + j)) (ev_var rfl) ev_c) (congrArg V.int (by omega))) ea_nil) (by omega) (fun _ => rfl) (fun i H' e' hi' => et_B (ev_legN (ev_var rfl) (ev_var rfl) (ev_var rfl) (by omega))) fun i H' => ev_var rfl) (by rw [Int.toNat_natCast, List.map_map]; rfl)))) ev_c) (congrArg V.int ht1)) fun H2 e2 => ?_
  obtain ⟨M, hM⟩ : ∃ M, M = if wd = true then 2 else 1 := ⟨_, rfl⟩
  rw [← hM] at q
  have hM12 : M = 1 ∨ M = 2 := by split at hM <;> omega
  refine q_asgU (xs := (List.range M).map fun (m : Nat) => V.int (m : Int)) (eu_if (et_B (ev_var rfl)) (fun hb => EvU.is (eu_tup (ea_cons ev_c (ea_cons ev_c ea_nil)) (Nat.le_of_ble_eq_true rfl)) (by rw [hM, if_pos hb]; rfl)) fun hb => EvU.is (eu_tup (ea_cons ev_c ea_nil) (Nat.le_of_ble_eq_true rfl)) (by rw [hM, if_neg (by rw [hb]; decide)]; rfl)) fun tm H3 htm e3 gtm => ?_
  refine q_asgL (xs := []) (el_lst ea_nil (by decide)) fun c B hc e4 gc => ?_
  have e14 := e1.trans (e2.trans (e3.trans e4))
  have hcH : H c = none := fresh_back (e1.trans (e2.trans e3)) hc
  have gtmB := e4 _ _ gtm
  have hp2 : 2 ^ top ≤ 1000 := by
    have := hleg.2
    have h2 : 2 ^ top ≤ s := Nat.le_of_not_lt fun z => by rw [Nat.div_eq_of_lt z] at this; omega
    omega
  have hW : ∀ i, i < 2 ^ top → ((((s : Int) / 2 ^ top - (g : Int)) :: List.replicate (2 ^ top - 1) ((s : Int) / 2 ^ top)) : List Int)[i]? = some ((((i + 1) * (s / 2 ^ top) - g : Nat) : Int) - ((i * (s / 2 ^ top) - g : Nat) : Int)) := fun i hi' => by
    have hl := hleg.2
    rw [p2c, ← Int.natCast_ediv]
    generalize s / 2 ^ top = W at *
    cases i with
    | zero =>
      show some _ = _
      rw [Nat.zero_mul, Nat.zero_add, Nat.one_mul]
      congr 1
      omega
    | succ i =>
      show (List.replicate _ _)[i]? = _
      rw [List.getElem?_replicate, if_pos (by omega)]
      have h1 : 1 * W ≤ (i + 1) * W := Nat.mul_le_mul_right _ (by omega)
      have h2 : (i + 1 + 1) * W = (i + 1) * W + W := by rw [Nat.add_mul (i + 1) 1 W, Nat.one_mul]
      congr 1
      omega
  refine q_asgC2 (v := .ref a) (ev_var rfl) (el_sizes (s := (s : Int)) (o := (g : Int)) (m := top) (ev_var rfl) (ev_var rfl) (ev_var rfl) (by omega)) fun H6 pz hpz e6 gz => ?_
  refine ⟨a, pz, ns, _, 2 ^ top, fun k => k * (s / 2 ^ top) - g, rfl, ex_l (e14.trans e6) hA, sq_of gz, ?_, by omega, by omega, by show 0 * _ - g = 0; rw [Nat.zero_mul, Nat.zero_sub], hW, fun pp H7 e7 hP0 => ?_⟩
  · rw [List.length_cons, List.length_replicate]
    have := Nat.two_pow_pos top
    omega
  have e57 := e6.trans e7
  have hP : PtAt B H7 pp (2 ^ top) (chk ns g top) := (hP0.back (c := c) (o := .lst []) (FrO.ex e6) (e6 _ _ gc)).congr rfl fun i _ => by rw [hsd]; rfl
  refine q_forRC (a := (top : Int)) (b := -1) (c := -1) (n := top + 1) (ea_cons (ev_var rfl) (ea_cons (ev_negI ev_c) (ea_cons (ev_negI ev_c) ea_nil))) (rg_m1 (by omega)) (fun i σ' H' => ∃ (pp : Addr) (L : List V) (z9 z10 z11 z12 : Option V), σ' = [some (.ref a), some (.int (g : Int)), some (.int (hi : Int)), some (.bl wd), some (.int (s : Int)), some (.int (top : Int)), some (.ref tm), some (.ref c), some (.ref pp), z9, z10, z11, z12, none] ∧ FrO c B H' ∧ H' c = some (.lst L) ∧ QdsAt H' L (qsF ns g top M i) ∧ (i ≤ top → PtAt B H' pp (2 ^ (top - i)) (chk ns g (top - i)))) (fun H8 e8 => ⟨pp, [], none, none, none, none, rfl, FrO.ex (e57.trans e8), (e57.trans e8) _ _ gc, trivial, fun _ => hP.ex e8⟩) ?_ ?_
  · rintro i σ' H8 hi' ⟨pp, L, z9, z10, z11, z12, rfl, f, gL, hL, hP⟩
    have hP := hP (by omega)
    have hnb : 2 ^ (top - i) ≤ 40000 := Nat.le_trans (Nat.pow_le_pow_right (by decide) (Nat.sub_le top i)) (by omega)
    have hiM : i * M ≤ 1000 * 2 := Nat.mul_le_mul (by omega) (by omega)
    rw [show ((top : Int) + ((i : Nat) : Int) * (-1)) = ((top - i : Nat) : Int) by omega]
    refine q_forT (K := K) (a := tm) (ev_var rfl) (st_of (st_fro f gc gtmB)) (fun k σ' H' => ∃ (L : List V) (z10 z11 z12 : Option V), σ' = [some (.ref a), some (.int (g : Int)), some (.int (hi : Int)), some (.bl wd), some (.int (s : Int)), some (.int (top : Int)), some (.ref tm), some (.ref c), some (.ref pp), some (.int ((top - i : Nat) : Int)), z10, z11, z12, none] ∧ FrO c B H' ∧ H' c = some (.lst L) ∧ QdsAt H' L (qsF ns g top M i ++ rowQ ns g (top - i) k) ∧ PtAt B H' pp (2 ^ (top - i)) (chk ns g (top - i))) (fun H9 e9 => ⟨L, z10, z11, z12, rfl, f.trans (FrO.ex e9), e9 _ _ gL, ?_, hP.ex e9⟩) (fun k σ' H' _ h => ?_) ?_ ?_
    · have : rowQ ns g (top - i) 0 = [] := rfl
      rw [this, List.append_nil]
      exact hL.tx (TxH.ex e9)
    · obtain ⟨_, _, _, _, _, f, _⟩ := h
      exact st_of (st_fro f gc gtmB)
    · rintro k x σ' H9 hx ⟨L, z10, z11, z12, rfl, f, gL, hL, hP⟩
      have hkM : k < M := by have := (List.getElem?_eq_some_iff.mp hx).1; rwa [List.length_map, List.length_range] at this
      rw [List.getElem?_map, List.getElem?_range hkM] at hx
      obtain rfl := Option.some.inj hx
      have hLl := hL.len
      rw [List.length_append, qs_len, row_len] at hLl
      refine q_asgCG (vs := [.ref pp, .int (k : Int)]) (ea_cons (ev_var rfl) (ea_cons (ev_var rfl) ea_nil)) fun H10 e10 => ⟨B, pp, 2 ^ (top - i), k, chk ns g (top - i), rfl, hP.ex e10, by omega, hnb, fun j _ => Nat.le_trans (chk_len ..) (by omega), fun t tc rs H11 e11 gt gtc hcod => ⟨t, _, rfl, st_of gt, rfl, .ref tc, [_], rfl, _, [], rfl, rfl, ?_⟩⟩
      have e911 := e10.trans e11
      refine s_appE (S := fun v G => QdAt G v (qdF ns g k (top - i))) (e911 _ _ gL) (ev_var rfl) (fun H1 e Q' q' => ?_) (by omega) fun v H12 e12 hv => ?_
      · exact eu_tup (vs := [.int (totF (chk ns g (top - i)) (2 ^ (top - i)) k), .int (k : Int), .int ((top - i : Nat) : Int), .ref tc]) (ea_cons (ev_var rfl) (ea_cons (ev_var rfl) (ea_cons (ev_var rfl) (ea_cons (ev_var rfl) ea_nil)))) (Nat.le_of_ble_eq_true rfl) H1 e _ fun p H2 hp e2 g2 => q' (.ref p) H2 e2 ⟨p, tc, rs, rfl, g2, (e.trans e2) _ _ gtc, hcod.tx (TxH.ex (e.trans e2))⟩
      · have e912 := e911.trans e12
        have hT : TxH H12 (upd H12 c (.lst (L ++ [v]))) := TxH.upd (e912 _ _ gL)
        refine ⟨L ++ [v], some (.int (k : Int)), some (.ref tc), some (.int (totF (chk ns g (top - i)) (2 ^ (top - i)) k)), rfl, (f.trans (FrO.ex e912)).upd, upd_same, ?_, (hP.ex e912).fro gc (FrO.upd (FrO.ex (Ex.refl _)))⟩
        rw [row_succ, ← List.append_assoc]
        exact QdsAt.snoc (hv.tx hT) ((hL.tx (TxH.ex e912)).tx hT)
    · rintro σ' H9 ⟨L, z10, z11, z12, rfl, f, gL, hL, hP⟩
      rw [List.length_map, List.length_range] at hL
      refine s_asgCG (vs := [.ref pp]) (ea_cons (ev_var rfl) ea_nil) fun H10 e10 => ⟨B, pp, 2 ^ (top - i), chk ns g (top - i), rfl, hP.ex e10, hnb, fun p2 H11 e11 hP2 => ⟨p2, L, some (.int ((top - i : Nat) : Int)), z10, z11, z12, rfl, f.trans (FrO.ex (e10.trans e11)), (e10.trans e11) _ _ gL, hL.tx (TxH.ex (e10.trans e11)), fun hle => ?_⟩⟩
      obtain ⟨d, hd⟩ : ∃ d, top - i = d + 1 := ⟨top - i - 1, by omega⟩
      have hb := hP2.back (c := c) (o := .lst L) (f.trans (FrO.ex e10)) (e10 _ _ gL)
      rw [hd] at hb
      rw [show top - (i + 1) = d by omega]
      exact hb.congr (two_half d) fun k _ => chk_join (by rw [← hsd]; exact legP_le (top - (d + 1)) (by rw [show d + 1 + (top - (d + 1)) = top by omega]; exact hleg)) k
  · rintro σ' H8 ⟨pp, L, z9, z10, z11, z12, rfl, f, gL, hL, -⟩
    obtain ⟨q0, qs, hqs⟩ : ∃ q0 qs, qsF ns g top M (top + 1) = q0 :: qs := by
      have h : qdF ns g 0 top ∈ qsF ns g top M (top + 1) := mem_qs.mpr ⟨0, 0, by omega, by omega, rfl⟩
      cases e : qsF ns g top M (top + 1) with
      | nil => rw [e] at h; cases h
      | cons x r => exact ⟨x, r, rfl⟩
    refine q_asgCB1 ?_
    refine ev_go (ev_var (v := .ref c) rfl) fun H9 e9 => ?_
    refine ⟨c, L, q0, qs, rfl, sq_of (e9 _ _ gL), by rw [← hqs]; exact (hL.tx (TxH.ex e9)).d, by rw [← hqs]; exact qs_pw ns g top M _ (Nat.le_refl _), fun i v z hv hzi hm => ?_⟩
    rw [← hqs] at hzi hm
    have hz := List.mem_of_getElem? hzi
    obtain ⟨tp, tc, rs, rfl, gtp, gtc, hC⟩ := (hL.at hv hzi).tx (TxH.ex e9)
    have hbest : BestQ ns g hi M z := by
      obtain ⟨j, m, hj, hm', rfl⟩ := mem_qs.mp hz
      refine ⟨m, top - j, ⟨hm', by omega, by rw [← hsd]; exact legP_le j (by rw [show top - j + j = top by omega]; exact hleg)⟩, rfl, fun m' p' hl => ?_⟩
      rw [← hsd] at hl
      have hp' := ht4 p' (Nat.lt_succ_of_le hl.2.1) (decide_eq_true hl.2.2)
      exact hm _ (mem_qs.mpr ⟨top - p', m', by omega, hl.1, by rw [show top - (top - p') = p' by omega]⟩)
    refine ⟨tp, _, rfl, st_of gtp, rfl, .int z.b, [.int (z.m : Int), .int (z.p : Int), .ref tc], rfl, .int (z.m : Int), [.int (z.p : Int), .ref tc], rfl, .int (z.p : Int), [.ref tc], rfl, .ref tc, [], rfl, rfl, ?_⟩
    refine ⟨.int (z.m : Int), rfl, .int (z.p : Int), rfl, .ref tc, rfl, sz_of (show 3 ≤ 100000 by decide), fun t1 h1 => ⟨.int z.b, rfl, sz_of (show 2 ≤ 100000 by decide), fun t h => ?_⟩⟩
    have x1 : Ex H9 (upd H9 t1 (.tup [.int (z.m : Int), .int (z.p : Int), .ref tc])) := Ex.new h1
    have x2 := Ex.new (o := .tup [.ref t1, .int z.b]) h
    exact q _ _ z ((FrO.after f e14 hcH).trans (e9.trans (x1.trans x2))) hbest ⟨t, t1, tc, rs, rfl, upd_same, x2 _ _ upd_same, (x1.trans x2) _ _ gtc, hC.tx (TxH.ex (x1.trans x2))⟩

-- SUBA
/-! ### wasted bits -/
theorem ev_bitsW {σ : L2.St} {H : Hp} {to : TE} {i : Int} (h : Ev to σ H (.int i)) : Ev (tBits to) σ H (.int ((Builtin.Int.intBits i : Nat) : Int)) := fun H1 e Q q => h H1 e _ fun H2 e2 => ⟨i, rfl, q H2 e2⟩
def joinI (ns : List Int) : Int := ns.foldl Builtin.bitOr 0
def wasteI (ns : List Int) : Int := (Builtin.Int.intBits (Builtin.bitAnd (joinI ns) (-(joinI ns))) : Int) - 1
theorem foldl_snoc (f : Int → Int → Int) (d : Int) {xs : List Int} {i : Nat} {x : Int} (h : xs[i]? = some x) : (xs.take (i + 1)).foldl f d = f ((xs.take i).foldl f d) x := by
  have : xs.take (i + 1) = xs.take i ++ [x] := by rw [List.take_add_one, h]; rfl
  rw [this, List.foldl_append]
  rfl
def sp_waste (K : PySem.W.Frag) : Sp := fun vs H Q _ => ∃ (a : Addr) (ns : List Int), vs = [.ref a] ∧ SqL K H a (ns.map V.int) ∧ ns.length ≤ 10000 ∧ RetV (.int (wasteI ns)) H Q
theorem ok_wasted_bits (T : TX K mg) : FnOk P w K mg base CX0 1 T.a_wasted_bits T.d_wasted_bits ["samples"] (sp_waste K) := by
  refine T.F_wasted_bits.ok sc_wasted_bits (fun vs H Q E h => by obtain ⟨a, ns, rfl, _⟩ := h; rfl) (fun cdv A outer s H vs Q E hr h => ?_)
  obtain ⟨a, ns, rfl, hS, hl, k⟩ := h
  refine ⟨_, (pss_cons (ps_set (i := 1) sc_wasted_bits.nd rfl (Or.inl rfl) pe_int)
      (pss_cons (ps_for PassesOwn.never rfl (pi_list (pv 0)) (pg_name (i := 2) sc_wasted_bits.nd rfl (Or.inl rfl)) (pss_one (ps_aug (i := 1) sc_wasted_bits.nd rfl (Or.inl rfl) (pv 2) iop_or)))
      (pss_one (ps_ret (pe_op op_sub (pe_bits (pe_op op_and (pv 1) (pe_un un_neg (pv 1)))) pe_int))))), ?_⟩
  refine q_asg ev_c fun H1 e1 => ?_
  refine q_forLn (K := K) (a := a) (ev_var rfl) (ex_l e1 hS) (fun i σ' H' => ∃ z2, σ' = [some (.ref a), some (.int (joinI (ns.take i))), z2] ∧ Ex H H') (fun H2 e2 => ⟨none, rfl, e1.trans e2⟩) (fun i σ' H' _ h => by obtain ⟨_, _, ex⟩ := h; exact ex_l ex hS) ?_ ?_
  · rintro i x σ' H2 hx ⟨z2, rfl, ex⟩
    obtain ⟨n, hn, hi, rfl⟩ := int_at hx
    refine s_augR (a := joinI (ns.take i)) (b := n) rfl (ev_var rfl) fun H3 e3 => ⟨some (.int n), ?_, ex.trans e3⟩
    unfold joinI
    rw [foldl_snoc _ _ hn]
    rfl
  rintro σ' H2 ⟨z2, rfl, ex⟩
  rw [List.length_map, List.take_length]
  exact s_ret (v := .int (wasteI ns)) (ev_I0 (ev_bitsW (ev_I0 (ev_var rfl) (ev_negI (ev_var rfl)))) ev_c) fun H3 e3 => k.go (ex.trans e3)
theorem ev_waste {σ : L2.St} {H : Hp} {te : TE} {E : XK} {ns : List Int} (h : EvS K te σ H (ns.map V.int)) (hl : ns.length ≤ 10000) : Ev (tCall (sp_waste K) [] E (tCons te tNil)) σ H (.int (wasteI ns)) := fun H1 e Q q =>
  h H1 e _ fun p H2 e2 hp => ⟨p, ns, rfl, hp, hl, fun H3 e3 => q H3 (e2.trans e3)⟩
/-! ### the law's number -/
def absW (i : Int) : Int := if i < 0 then -i else i
def vI (x : Int) : Nat := vl 70 (absW x)
def minStep (d x : Int) : Int := if x ≠ 0 then (if (vI x : Int) < d then (vI x : Int) else d) else d
def expI (ns : List Int) : Int := ns.foldl minStep 70
theorem absW_ne {x : Int} (h : x ≠ 0) : absW x ≠ 0 := by unfold absW; split <;> omega
theorem dv_abs (w : Nat) (x : Int) : dv w (absW x) ↔ dv w x := by
  unfold absW
  split
  · exact dv_neg w x
  · exact Iff.rfl
theorem dv_vI {x : Int} (h0 : x ≠ 0) (h1 : -(2 ^ 70) < x) (h2 : x < 2 ^ 70) (w : Nat) : dv w x ↔ w ≤ vI x := by
  rw [← dv_abs]
  exact dv_vl 70 (absW x) (absW_ne h0) (by unfold absW; split <;> omega) (by unfold absW; split <;> omega) w
theorem exp_le (w : Nat) : ∀ (ns : List Int) (d : Int), (w : Int) ≤ ns.foldl minStep d ↔ (w : Int) ≤ d ∧ ∀ n ∈ ns, n ≠ 0 → w ≤ vI n
  | [], d => by simp
  | x :: r, d => by
    show (w : Int) ≤ r.foldl minStep (minStep d x) ↔ _
    rw [exp_le w r]
    simp only [List.mem_cons, forall_eq_or_imp]
    unfold minStep
    by_cases hx : x ≠ 0
    · rw [if_pos hx]
      constructor
      · rintro ⟨a, b⟩
        split at a
        · exact ⟨by omega, fun _ => by omega, b⟩
        · exact ⟨a, fun _ => by omega, b⟩
      · rintro ⟨a, b, c⟩
        have b := b hx
        refine ⟨?_, c⟩
        split <;> omega
    · rw [if_neg hx]
      exact ⟨fun ⟨a, b⟩ => ⟨a, fun h => absurd h hx, b⟩, fun ⟨a, _, b⟩ => ⟨a, b⟩⟩
theorem exp_nn : ∀ (ns : List Int) (d : Int), 0 ≤ d → 0 ≤ ns.foldl minStep d
  | [], d, h => h
  | x :: r, d, h => by
    refine exp_nn r _ ?_
    unfold minStep
    split
    · split <;> omega
    · exact h
theorem bits_pow (v : Nat) : Builtin.Int.intBits (2 ^ v : Int) = v + 1 := by
  have e : ((2 : Int) ^ v) = ((2 ^ v : Nat) : Int) := by rw [Int.natCast_pow]; rfl
  have hp := Nat.two_pow_pos v
  rw [e]
  unfold Builtin.Int.intBits
  rw [if_neg (by intro h; have := eq_of_beq h; omega), Int.natAbs_natCast, Nat.log2_two_pow]
theorem waste_is {ns : List Int} (hb : ∀ n ∈ ns, -(2 ^ 70) < n ∧ n < 2 ^ 70) (hx : ∃ n ∈ ns, n ≠ 0) : wasteI ns = expI ns := by
  obtain ⟨x, hxm, hx0⟩ := hx
  have hj : ∀ w, dv w (joinI ns) ↔ ∀ n ∈ ns, dv w n := fun w => by
    unfold joinI
    rw [dv_foldl]
    exact ⟨fun h => h.2, fun h => ⟨dv_zero' w, h⟩⟩
  obtain ⟨E, hE⟩ : ∃ E : Nat, expI ns = (E : Int) := ⟨(expI ns).toNat, by have := exp_nn ns 70 (by decide); unfold expI; omega⟩
  have hle : ∀ w : Nat, w ≤ E ↔ w ≤ 70 ∧ ∀ n ∈ ns, n ≠ 0 → w ≤ vI n := fun w => by
    have := exp_le w ns 70
    unfold expI at hE
    rw [hE] at this
    constructor
    · intro h
      obtain ⟨a, b⟩ := this.mp (by omega)
      exact ⟨by omega, b⟩
    · rintro ⟨a, b⟩
      have := this.mpr ⟨by omega, b⟩
      omega
  have h70 : vI x ≤ 70 := vl_le 70 _
  have hd : ∀ w, dv w (joinI ns) ↔ w ≤ E := fun w => by
    rw [hj, hle]
    constructor
    · intro h
      have h1 := (dv_vI hx0 (hb x hxm).1 (hb x hxm).2 w).mp (h x hxm)
      exact ⟨by omega, fun n hn h0 => (dv_vI h0 (hb n hn).1 (hb n hn).2 w).mp (h n hn)⟩
    · rintro ⟨_, h⟩ n hn
      by_cases h0 : n = 0
      · rw [h0]; exact dv_zero' w
      · exact (dv_vI h0 (hb n hn).1 (hb n hn).2 w).mpr (h n hn h0)
  unfold wasteI
  rw [low_bit E (joinI ns) ((hd E).mpr (Nat.le_refl _)) (fun h => by have := (hd (E + 1)).mp h; omega), bits_pow, hE]
  omega
/-! ### samples by any prediction -/
def gi (xs : List Int) (i : Nat) : Int := xs.getD i 0
theorem gi_get {xs : List Int} {i : Nat} (h : i < xs.length) : xs[i]? = some (gi xs i) := by
  unfold gi
  rw [List.getD_eq_getElem?_getD, List.getElem?_eq_getElem h]
  rfl
theorem gi_of {xs : List Int} {i : Nat} {x : Int} (h : xs[i]? = some x) : gi xs i = x := by
  unfold gi
  rw [List.getD_eq_getElem?_getD, h]
  rfl
theorem gi_take {xs : List Int} {i n : Nat} (h : i < n) : gi (xs.take n) i = gi xs i := by
  unfold gi
  rw [List.getD_eq_getElem?_getD, List.getD_eq_getElem?_getD, List.getElem?_take, if_pos h]
theorem take_snoc_gi {xs : List Int} {n : Nat} (h : n < xs.length) : xs.take (n + 1) = xs.take n ++ [gi xs n] := by
  rw [List.take_add_one, gi_get h]
  rfl
theorem drop_cons_gi {xs : List Int} {n : Nat} (h : n < xs.length) : xs.drop n = gi xs n :: xs.drop (n + 1) := by
  rw [List.drop_eq_getElem_cons h, Option.some.inj ((List.getElem?_eq_getElem h).symm.trans (gi_get h))]
def within (lim : Option Int) (s : Int) : Bool := match lim with
  | none => true
  | some l => decide (-l ≤ s) && decide (s < l)
def gsam (pr : List Int → Int) (lim : Option Int) : List Int → List Int → List Int
  | acc, [] => acc
  | acc, r :: rs => if within lim (pr acc + r) = true then gsam pr lim (acc ++ [pr acc + r]) rs else acc
theorem gsam_none {pr : List Int → Int} {acc : List Int} {r : Int} {rs : List Int} : gsam pr none acc (r :: rs) = gsam pr none (acc ++ [pr acc + r]) rs := by
  show (if within none _ = true then _ else _ : List Int) = _
  rw [if_pos (show within none _ = true from rfl)]
theorem gsam_from {pr : List Int → Int} {xs ds : List Int} {n : Nat} (hd : ds.length = xs.length - n) (h : ∀ i, n + i < xs.length → pr (xs.take (n + i)) + gi ds i = gi xs (n + i)) : ∀ k i, n + i + k = xs.length → gsam pr none (xs.take (n + i)) (ds.drop i) = xs
  | 0, i, e => by
    rw [List.drop_of_length_le (by omega)]
    show xs.take (n + i) = xs
    exact List.take_of_length_le (by omega)
  | k + 1, i, e => by
    rw [drop_cons_gi (by omega), gsam_none, h i (by omega), ← take_snoc_gi (by omega)]
    exact gsam_from hd h k (i + 1) (by omega)
theorem gsam_len (pr : List Int → Int) : ∀ (rs acc : List Int), (gsam pr none acc rs).length = acc.length + rs.length
  | [], acc => rfl
  | r :: rs, acc => by
    rw [gsam_none, gsam_len pr rs]
    simp only [List.length_append, List.length_cons, List.length_nil]
    omega
theorem gsam_pre (pr : List Int → Int) : ∀ (rs acc : List Int) (n : Nat), n ≤ acc.length → (gsam pr none acc rs).take n = acc.take n
  | [], acc, n, _ => rfl
  | r :: rs, acc, n, h => by
    rw [gsam_none, gsam_pre pr rs _ n (by rw [List.length_append]; omega), List.take_append_of_le_length h]
theorem gi_pre {xs ys : List Int} {n i : Nat} (h : xs.take n = ys.take n) (hi : i < n) : gi xs i = gi ys i := by
  rw [← gi_take (xs := xs) hi, h, gi_take hi]
theorem gsam_snoc (pr : List Int → Int) (rs acc : List Int) (z : Int) : gi (gsam pr none (acc ++ [z]) rs) acc.length = z := by
  rw [gi_pre (ys := acc ++ [z]) (n := acc.length + 1) (gsam_pre pr rs _ _ (by rw [List.length_append]; exact Nat.le_refl _)) (by omega)]
  unfold gi
  rw [List.getD_eq_getElem?_getD, List.getElem?_append_right (Nat.le_refl _), Nat.sub_self]
  rfl
theorem gsam_lim {pr : List Int → Int} {b : Int} : ∀ (rs acc : List Int) (j : Nat), acc.length ≤ j → (∀ t, acc.length ≤ t → t < j → within (some b) (gi (gsam pr none acc rs) t) = true) → j ≤ (gsam pr none acc rs).length →
    (j < (gsam pr none acc rs).length → within (some b) (gi (gsam pr none acc rs) j) = false) → gsam pr (some b) acc rs = (gsam pr none acc rs).take j
  | [], acc, j, h1, _, h3, _ => by
    show acc = acc.take j
    rw [List.take_of_length_le h1]
  | r :: rs, acc, j, h1, h2, h3, h4 => by
    rw [gsam_none] at h2 h3 h4 ⊢
    show (if within (some b) (pr acc + r) = true then gsam pr (some b) (acc ++ [pr acc + r]) rs else acc) = _
    by_cases hj : j = acc.length
    · subst hj
      have h5 := h4 (by rw [gsam_len, List.length_append]; show acc.length < acc.length + 1 + _; omega)
      rw [gsam_snoc] at h5
      rw [if_neg (by rw [h5]; decide), gsam_pre pr rs _ _ (by rw [List.length_append]; omega), List.take_append_of_le_length (Nat.le_refl _), List.take_length]
    · have h5 := h2 acc.length (Nat.le_refl _) (by omega)
      rw [gsam_snoc] at h5
      rw [if_pos h5]
      exact gsam_lim rs _ j (by rw [List.length_append]; show acc.length + 1 ≤ j; omega) (fun t ht => h2 t (by rw [List.length_append] at ht; omega)) h3 h4
def dotz (a b : List Int) : Int := (List.zipWith (fun x y => x * y) a b).sum
/-- the prediction of a linear predictor behind acc -/
def prL (cs : List Int) (sh : Nat) (acc : List Int) : Int := dotz cs.reverse (acc.drop (acc.length - cs.length)) / 2 ^ sh
def lres (cs : List Int) (sh : Nat) (xs : List Int) : List Int := (List.range (xs.length - cs.length)).map fun i => gi xs (cs.length + i) - prL cs sh (xs.take (cs.length + i))
theorem lres_len (cs : List Int) (sh : Nat) (xs : List Int) : (lres cs sh xs).length = xs.length - cs.length := by unfold lres; rw [List.length_map, List.length_range]
theorem lres_get {cs : List Int} {sh : Nat} {xs : List Int} {i : Nat} (h : cs.length + i < xs.length) : gi (lres cs sh xs) i = gi xs (cs.length + i) - prL cs sh (xs.take (cs.length + i)) := by
  refine gi_of ?_
  unfold lres
  rw [List.getElem?_map, List.getElem?_range (by omega)]
  rfl
theorem lsam_lres {cs xs : List Int} {sh : Nat} (h : cs.length ≤ xs.length) : gsam (prL cs sh) none (xs.take cs.length) (lres cs sh xs) = xs :=
  gsam_from (n := cs.length) (lres_len cs sh xs) (fun i hi => by rw [lres_get hi]; omega) (xs.length - cs.length) 0 (by omega)

def Bd (bs : List Int) : Prop := ∀ b ∈ bs, -(2 ^ 60) < b ∧ b < 2 ^ 60
def sp_lprediction (K : PySem.W.Frag) : Sp := fun vs H Q _ => ∃ (a b : Addr) (ls bs : List Int) (sh : Nat), vs = [.ref a, .ref b, .int sh] ∧ SqL K H a (ls.map V.int) ∧ SqT K H b (bs.map V.int) ∧ ls.length = bs.length ∧ bs.length ≤ 1000 ∧ Bd bs ∧ RetV (.int (dotz bs ls / 2 ^ sh)) H Q
theorem ok_prediction_linear (T : TX K mg) : FnOk P w K mg base CX0 1 T.a_prediction_linear T.d_prediction_linear ["latest", "backwards", "shift"] (sp_lprediction K) := by
  refine T.F_prediction_linear.ok sc_prediction_linear (fun vs H Q E h => by obtain ⟨a, b, ls, bs, sh, rfl, _⟩ := h; rfl) (fun cdv A outer s H vs Q E hr h => ?_)
  obtain ⟨a, b, ls, bs, sh, rfl, hA, hB, hl, hl2, hbd, k⟩ := h
  refine ⟨_, (pss_one (ps_ret (pe_op op_shr (pe_callB (r := rSum K) (cr_sum rfl) (by rfl) T.m_sum PyProof.Rows.boot_sum (pa_cons (pe_lc (own := [("coefficient", 3), ("sample", 4)]) (g := (gTup K 2 (gCons (gName 3) (gCons (gName 4) gNil)))) (tt := tYes) rfl sc_prediction_linear.nd (pi_zipM (by rfl) T.m_zip (pa_cons (pv 1) (pa_cons (pv 0) pa_nil))) (blkOk_by (N := ["latest", "backwards", "shift", "coefficient", "sample"]) (sc := defScope s_prediction_linear) (by decide +kernel)) (fun _ _ _ _ _ => (pg_tup rfl (pgs_cons (pg_name (i := 3) sc_prediction_linear.nd rfl (Or.inl rfl)) (pgs_cons (pg_name (i := 4) sc_prediction_linear.nd rfl (Or.inl rfl)) pgs_nil)))) (fun _ _ _ _ _ => pts_nil) (fun _ _ _ _ _ => (pe_op op_mul (pv 3) (pv 4)))) pa_nil)) (pv 2)))), ?_⟩
  refine s_ret (v := .int (dotz bs ls / 2 ^ (sh : Int).toNat)) (ev_I (ev_sum (K := K) (ns := List.zipWith (fun x y => x * y) bs ls) (EvR.s (EvL.r (el_lcZM (K := K) (xs := bs.map V.int) (ys := ls.map V.int) ((List.zipWith (fun x y => x * y) bs ls).map V.int) (Ev.p (ev_var rfl) hB) (by walk_at "evs") ?_ ?_ ?_ (fun x y => rfl) ?_)))) (ev_var rfl) (by show (0 : Int) ≤ _; omega)) fun H1 e1 => ret_eq k e1 (by rw [Int.toNat_natCast])
  · rw [List.length_map, List.length_zipWith, List.length_map]
    omega
  · rw [List.length_map, List.length_zipWith, List.length_map]
    omega
  · rw [List.length_map, List.length_zipWith]
    omega
  · intro i x y H1 e1 hx hy
    obtain ⟨n, hn, hi, rfl⟩ := int_at hx
    obtain ⟨m, hm, hj, rfl⟩ := int_at hy
    have h1 := hbd n (List.mem_iff_getElem?.mpr ⟨i, hn⟩)
    refine ⟨.int (n * m), at_int (by rw [List.getElem?_zipWith, hn, hm]), ev_I (ev_var rfl) (ev_var rfl) ?_⟩
    show CMul _ _
    unfold CMul
    omega
theorem ev_lprd {σ : L2.St} {H : Hp} {t1 t2 t3 : TE} {E : XK} {ls bs : List Int} {sh : Nat} (h1 : EvS K t1 σ H (ls.map V.int)) (h2 : EvP K t2 σ H (bs.map V.int)) (h3 : Ev t3 σ H (.int sh)) (hl : ls.length = bs.length) (hl2 : bs.length ≤ 1000) (hb : Bd bs) :
    Ev (tCall (sp_lprediction K) [] E (tCons t1 (tCons t2 (tCons t3 tNil)))) σ H (.int (dotz bs ls / 2 ^ sh)) := fun H1 e Q q =>
  h1 H1 e _ fun p H2 e2 hp => h2 H2 (e.trans e2) _ fun r H3 e3 hr => h3 H3 ((e.trans e2).trans e3) _ fun H4 e4 => ⟨p, r, ls, bs, sh, rfl, ex_l (e3.trans e4) hp, ex_t e4 hr, hl, hl2, hb, fun H5 e5 => q H5 (((e2.trans e3).trans e4).trans e5)⟩
theorem eu_rev {te : TE} {σ : L2.St} {H : Hp} {ns : List Int} (h : EvP K te σ H (ns.map V.int)) : EvU (tRevT K te) σ H (ns.reverse.map V.int) := fun H1 e Q q =>
  h H1 e _ fun p H2 e2 hp => ⟨p, _, rfl, hp, fun r hr => q r _ (fresh_back e2 hr) (e2.trans (Ex.new hr)) (by rw [upd_same, List.map_reverse])⟩
theorem bd_rev {cs : List Int} (h : Bd cs) : Bd cs.reverse := fun b hb => h b (List.mem_reverse.mp hb)
def sp_linear_residuals (K : PySem.W.Frag) : Sp := fun vs H Q _ => ∃ (a b : Addr) (xs cs : List Int) (sh : Nat), vs = [.ref a, .ref b, .int sh] ∧ SqL K H a (xs.map V.int) ∧ SqT K H b (cs.map V.int) ∧ cs.length ≤ xs.length ∧ xs.length ≤ 10000 ∧ cs.length ≤ 1000 ∧ Bd cs ∧ RetL ((lres cs sh xs).map V.int) H Q
theorem ok_linear_residuals (T : TX K mg) : FnOk P w K mg base CX0 2 T.a_linear_residuals T.d_linear_residuals ["samples", "coefficients", "shift"] (sp_linear_residuals K) := by
  refine T.F_linear_residuals.ok sc_linear_residuals (fun vs H Q E h => by obtain ⟨a, b, xs, cs, sh, rfl, _⟩ := h; rfl) (fun cdv A outer s H vs Q E hr h => ?_)
  obtain ⟨a, b, xs, cs, sh, rfl, hA, hB, hl, hl1, hl2, hbd, k⟩ := h
  refine ⟨_, (pss_cons (ps_set (i := 3) sc_linear_residuals.nd rfl (Or.inl rfl) (pe_callB (r := rLenS K) call_len_seq (by rfl) T.m_len PySem.boot_len (pa_cons (pv 1) pa_nil)))
      (pss_cons (ps_set (i := 4) sc_linear_residuals.nd rfl (Or.inl rfl) (pe_revT (pv 1)))
      (pss_cons (ps_set (i := 5) sc_linear_residuals.nd rfl (Or.inl rfl) (pe_lst pa_nil))
      (pss_cons (ps_for PassesOwn.never rfl (pi_range2 (by rfl) T.m_range (pa_cons (pv 3) (pa_cons (pe_callB (r := rLenS K) call_len_seq (by rfl) T.m_len PySem.boot_len (pa_cons (pv 0) pa_nil)) pa_nil))) (pg_name (i := 6) sc_linear_residuals.nd rfl (Or.inl rfl)) (pss_one (ps_expr (pe_bm PySem.F.plainAttrs_list PySem.F.slot_list_append PySem.F.type_list_append mt_append (pv 5) (pa_cons (pe_op op_sub (pe_ix (r := rIxL K) ix_list (pv 0) (pv 6) (fun _ _ => rfl)) (pe_call (ok_prediction_linear T) (hr.mono (by decide)) (by rfl) T.g_prediction_linear T.F_prediction_linear.kp T.b_prediction_linear .nil pass0 (pa_cons (pe_slice (r := rSlL K) sl_list (pv 0) (po_some (pe_op op_sub (pv 6) (pv 3))) (po_some (pv 6))) (pa_cons (pv 4) (pa_cons (pv 2) pa_nil))))) pa_nil)))))
      (pss_one (ps_ret (pv 5))))))), ?_⟩
  refine q_asg (v := .int (cs.length : Int)) (ev_is (ev_lenT (Ev.p (ev_var rfl) hB)) (by rw [List.length_map])) fun H1 e1 => ?_
  refine q_asgU (eu_rev (K := K) (ns := cs) (Ev.p (ev_var rfl) (ex_t e1 hB))) fun pb H2 hpb e2 g2 => ?_
  refine q_asgL (xs := []) (el_lst ea_nil (Nat.le_of_ble_eq_true rfl)) fun pr H3 hpr e3 g3 => ?_
  have hp : H pr = none := fresh_back (e1.trans e2) hpr
  have ga2 : EvA (tCons (tVar 3) (tCons (tCB (rLenS K) (tCons (tVar 0) tNil)) tNil)) [some (.ref a), some (.ref b), some (.int sh), some (.int (cs.length : Int)), some (.ref pb), some (.ref pr), none] H3 [.int (cs.length : Int), .int (xs.length : Int)] :=
    ea_cons (ev_var rfl) (ea_cons (ev_is (by walk_at "ev") (by rw [List.length_map])) ea_nil)
  refine q_forR2 (lo := (cs.length : Int)) (n := (xs.length : Int)) ga2 (by omega) (fun i σ' H' => ∃ z, σ' = [some (.ref a), some (.ref b), some (.int sh), some (.int (cs.length : Int)), some (.ref pb), some (.ref pr), z] ∧ Ex H2 H' ∧ H' pr = some (.lst (((lres cs sh xs).take i).map V.int)))
    (fun H4 e4 => ⟨none, rfl, e3.trans e4, e4 _ _ g3⟩) ?_ ?_
  · rintro i σ' H' hi ⟨z, rfl, e, g⟩
    have h1 := gi_get (xs := xs) (i := cs.length + i) (by omega)
    have hlen : (xs.take (cs.length + i)).length = cs.length + i := by rw [List.length_take]; omega
    have hsl : (xs.drop i).take (cs.length + i - i) = (xs.take (cs.length + i)).drop i := by rw [List.drop_take]
    refine s_app g (ev_var rfl) (v := .int (gi xs (cs.length + i) - dotz cs.reverse ((xs.drop i).take (cs.length + i - i)) / 2 ^ sh)) (ev_I0 (ev_at (K := K) (n := (cs.length : Int) + (i : Int)) (xs := xs.map V.int) (by walk_at "evs") (ev_var rfl) (at_of (j := cs.length + i) (by omega) (at_int h1)))
      (ev_lprd (K := K) (bs := cs.reverse) (ls := (xs.drop i).take (cs.length + i - i)) (EvR.s (EvL.r (el_mid (K := K) (i := i) (j := cs.length + i) (by walk_at "evs") (ev_is (by walk_at "ev") (by congr 1; omega)) (ev_is (ev_var rfl) (by first | rfl | (congr 1; omega)))))) (Ev.p (ev_var rfl) (st_of (e _ _ g2))) (ev_var rfl) (by rw [List.length_reverse, List.length_take, List.length_drop]; omega) (by rw [List.length_reverse]; omega) (bd_rev hbd))) (by rw [List.length_map, List.length_take, lres_len]; omega) fun H4 e4 => ?_
    refine ⟨_, rfl, Ex.mut (e.trans e4) hpr, ?_⟩
    rw [upd_same, take_snoc_gi (by rw [lres_len]; omega), lres_get (by omega), List.map_append]
    unfold prL
    rw [hlen, show cs.length + i - cs.length = i by omega, ← hsl]
    rfl
  · rintro σ' H' ⟨z, rfl, e, g⟩
    rw [List.take_of_length_le (by rw [lres_len]; omega)] at g
    walk_at "ret"
    intro H4 e4
    exact k pr H4 hp (((e1.trans e2).trans e).trans e4) (e4 _ _ g)
theorem el_linres {σ : L2.St} {H : Hp} {t1 t2 t3 : TE} {E : XK} {xs cs : List Int} {sh : Nat} (h1 : EvS K t1 σ H (xs.map V.int)) (h2 : EvP K t2 σ H (cs.map V.int)) (h3 : Ev t3 σ H (.int sh)) (hl : cs.length ≤ xs.length) (hl1 : xs.length ≤ 10000) (hl2 : cs.length ≤ 1000) (hb : Bd cs) :
    EvL (tCall (sp_linear_residuals K) [] E (tCons t1 (tCons t2 (tCons t3 tNil)))) σ H ((lres cs sh xs).map V.int) := fun H1 e Q q =>
  h1 H1 e _ fun p H2 e2 hp => h2 H2 (e.trans e2) _ fun r H3 e3 hr => h3 H3 ((e.trans e2).trans e3) _ fun H4 e4 => ⟨p, r, xs, cs, sh, rfl, ex_l (e3.trans e4) hp, ex_t e4 hr, hl, hl1, hl2, hb, fun p5 H5 h5 e5 g5 => q p5 H5 (fresh_back ((e2.trans e3).trans e4) h5) (((e2.trans e3).trans e4).trans e5) g5⟩
def limV : Option Int → V
  | none => .non
  | some l => .int l
def sp_linear_samples (K : PySem.W.Frag) : Sp := fun vs H Q _ => ∃ (a b c : Addr) (ws rs cs : List Int) (sh : Nat) (lim : Option Int), vs = [.ref a, .ref b, .ref c, .int sh, limV lim] ∧ SqL K H a (ws.map V.int) ∧ SqL K H b (rs.map V.int) ∧ SqT K H c (cs.map V.int) ∧ ws.length = cs.length ∧ rs.length ≤ 10000 ∧ cs.length ≤ 1000 ∧ Bd cs ∧ RetL ((gsam (prL cs sh) lim ws rs).map V.int) H Q
theorem ok_linear_samples (T : TX K mg) : FnOk P w K mg base CX0 2 T.a_linear_samples T.d_linear_samples ["warm_up", "residuals", "coefficients", "shift", "limit"] (sp_linear_samples K) := by
  refine T.F_linear_samples.ok sc_linear_samples (fun vs H Q E h => by obtain ⟨a, b, c, ws, rs, cs, sh, lim, rfl, _⟩ := h; rfl) (fun cdv A outer s H vs Q E hr h => ?_)
  obtain ⟨a, b, c, ws, rs, cs, sh, lim, rfl, hA, hB, hC, hl, hl1, hl2, hbd, k⟩ := h
  refine ⟨_, (pss_cons (ps_set (i := 5) sc_linear_samples.nd rfl (Or.inl rfl) (pe_callB (r := rLenS K) call_len_seq (by rfl) T.m_len PySem.boot_len (pa_cons (pv 2) pa_nil)))
      (pss_cons (ps_set (i := 6) sc_linear_samples.nd rfl (Or.inl rfl) (pe_revT (pv 2)))
      (pss_cons (ps_set (i := 7) sc_linear_samples.nd rfl (Or.inl rfl) (pe_callTy (r := rListS K) call_list_of (by rfl) T.m_list PyProof.Rows.boot_list (pa_cons (pv 0) pa_nil)))
      (pss_cons (ps_for PassesOwn.leaving rfl (pi_list (pv 1)) (pg_name (i := 8) sc_linear_samples.nd rfl (Or.inl rfl)) (pss_cons (ps_set (i := 9) sc_linear_samples.nd rfl (Or.inl rfl) (pe_op op_add (pe_call (ok_prediction_linear T) (hr.mono (by decide)) (by rfl) T.g_prediction_linear T.F_prediction_linear.kp T.b_prediction_linear .nil pass0 (pa_cons (pe_slice (r := rSlL K) sl_list (pv 7) (po_some (pe_op op_sub (pe_callB (r := rLenS K) call_len_seq (by rfl) T.m_len PySem.boot_len (pa_cons (pv 7) pa_nil)) (pv 5))) po_none) (pa_cons (pv 6) (pa_cons (pv 3) pa_nil)))) (pv 8)))
        (pss_cons (ps_if (PW.pt (pw_and (pt_cmpR op_notN1 (pv 4) pe_non (nomark _)) (pw_and1 (pt_not (pt_chain op_le op_lt (pe_un un_neg (pv 4)) (pv 9) (pv 4)))))) (pss_one ps_break) pss_nil)
        (pss_one (ps_expr (pe_bm PySem.F.plainAttrs_list PySem.F.slot_list_append PySem.F.type_list_append mt_append (pv 7) (pa_cons (pv 9) pa_nil)))))))
      (pss_one (ps_ret (pv 7))))))), ?_⟩
  refine q_asg (v := .int (cs.length : Int)) (ev_is (ev_lenT (Ev.p (ev_var rfl) hC)) (by rw [List.length_map])) fun H1 e1 => ?_
  refine q_asgU (eu_rev (K := K) (ns := cs) (Ev.p (ev_var rfl) (ex_t e1 hC))) fun pb H2 hpb e2 g2 => ?_
  walk_at "asgL"
  intro p H3 hp3 e3 g3
  have hp : H p = none := fresh_back (e1.trans e2) hp3
  have fin : ∀ (acc : List Int) σ' H', σ'[7]? = some (some (.ref p)) → Ex H H' → H' p = some (.lst (acc.map V.int)) → gsam (prL cs sh) lim ws rs = acc → tRet (tVar 7) { nx := fun x H' => Q V.non H', rt := Q } σ' H' := fun acc σ' H' hv e g hf => by
    refine s_ret (ev_var hv) fun H3 e3 => ?_
    exact k p H3 hp (e.trans e3) (by rw [hf]; exact e3 _ _ g)
  refine q_forLn (xs := rs.map V.int) (a := b) (ev_var rfl) (by walk_at "sq") (fun i σ' H' => ∃ acc x7 x8, σ' = [some (.ref a), some (.ref b), some (.ref c), some (.int sh), some (limV lim), some (.int (cs.length : Int)), some (.ref pb), some (.ref p), x7, x8] ∧ Ex H2 H' ∧ H' p = some (.lst (acc.map V.int)) ∧ cs.length ≤ acc.length ∧ acc.length ≤ cs.length + i ∧ gsam (prL cs sh) lim ws rs = gsam (prL cs sh) lim acc (rs.drop i))
    (fun H4 e4 => ⟨ws, none, none, rfl, e3.trans e4, e4 _ _ g3, by omega, by omega, rfl⟩) (fun i σ' H' _ ⟨_, _, _, _, e, _⟩ => by walk_at "sq") ?_ ?_
  · rintro i x σ' H' hx ⟨acc, x7, x8, rfl, e, g, ha, hb, hf⟩
    obtain ⟨n, hn, hi, rfl⟩ := int_at hx
    rw [drop_cons_gi hi, gi_of hn] at hf
    refine q_asg (v := .int (prL cs sh acc + n)) (ev_I0 (ev_lprd (K := K) (bs := cs.reverse) (ls := acc.drop (acc.length - cs.length)) (EvR.s (EvL.r (el_from (K := K) (ns := acc) (i := acc.length - cs.length) (by walk_at "evs") (ev_is (by walk_at "ev") (by rw [List.length_map]; congr 1; omega))))) (Ev.p (ev_var rfl) (st_of (e _ _ g2))) (ev_var rfl) (by rw [List.length_reverse, List.length_drop]; omega) (by rw [List.length_reverse]; omega) (bd_rev hbd)) (ev_var rfl)) fun H3 e3 => ?_
    generalize hs : prL cs sh acc + n = z at *
    have hf : gsam (prL cs sh) lim ws rs = if within lim z = true then gsam (prL cs sh) lim (acc ++ [z]) (rs.drop (i + 1)) else acc := by
      rw [hf]
      show (if within lim (prL cs sh acc + n) = true then gsam (prL cs sh) lim (acc ++ [prL cs sh acc + n]) (rs.drop (i + 1)) else acc) = _
      rw [hs]
    refine q_when (b := !within lim z) ?_ (fun hb H4 e4 => ?_) fun hb H4 e4 => ?_
    · cases lim with
      | none => exact et_is (et_and (a := false) (b := true) (et_is (by walk_at "et") (by decide)) (fun h => by cases h)) rfl
      | some l => exact et_is (by walk_at "et") (by simp [within, limV])
    · refine fin acc _ _ rfl ((((e1.trans e2).trans e).trans e3).trans e4) (e4 _ _ (e3 _ _ g)) ?_
      rw [hf, if_neg]
      intro h
      rw [h] at hb
      cases hb
    · have hw : within lim z = true := by
        cases h : within lim z with
        | true => rfl
        | false => rw [h] at hb; cases hb
      refine s_app (e4 _ _ (e3 _ _ g)) (ev_var rfl) (ev_var rfl) (by rw [List.length_map]; omega) fun H5 e5 => ?_
      refine ⟨acc ++ [z], _, _, rfl, Ex.mut (((e.trans e3).trans e4).trans e5) hp3, ?_, ?_, ?_, ?_⟩
      · rw [upd_same, List.map_append]
        rfl
      · rw [List.length_append]
        omega
      · rw [List.length_append]
        show acc.length + 1 ≤ _
        omega
      · rw [hf, if_pos hw]
  · rintro σ' H' ⟨acc, x7, x8, rfl, e, g, ha, hb, hf⟩
    rw [List.length_map, List.drop_of_length_le (Nat.le_refl _)] at hf
    exact fin acc _ _ rfl ((e1.trans e2).trans e) g hf
theorem el_linsamK {σ : L2.St} {H : Hp} {t1 t2 t3 t4 t5 : TE} {E : XK} {ws rs cs : List Int} {sh : Nat} {lim : Option Int} (h1 : EvS K t1 σ H (ws.map V.int)) (h2 : EvS K t2 σ H (rs.map V.int)) (h3 : EvP K t3 σ H (cs.map V.int)) (h4 : Ev t4 σ H (.int sh)) (h5 : Ev t5 σ H (limV lim)) (hl : ws.length = cs.length) (hl1 : rs.length ≤ 10000) (hl2 : cs.length ≤ 1000) (hb : Bd cs) :
    EvL (tCallN 4 1 (sp_linear_samples K) (fun us ws => us ++ ws) E (tCons t1 (tCons t2 (tCons t3 (tCons t4 tNil)))) (tCons t5 tNil)) σ H ((gsam (prL cs sh) lim ws rs).map V.int) := fun H1 e Q q =>
  h1 H1 e _ fun p H2 e2 hp => h2 H2 (e.trans e2) _ fun r H3 e3 hr => h3 H3 ((e.trans e2).trans e3) _ fun t H4 e4 ht => h4 H4 (((e.trans e2).trans e3).trans e4) _ fun H5 e5 => h5 H5 ((((e.trans e2).trans e3).trans e4).trans e5) _ fun H6 e6 =>
    ⟨rfl, rfl, p, r, t, ws, rs, cs, sh, lim, rfl, ex_l (((e3.trans e4).trans e5).trans e6) hp, ex_l ((e4.trans e5).trans e6) hr, ex_t (e5.trans e6) ht, hl, hl1, hl2, hb, fun p7 H7 h7 e7 g7 => q p7 H7 (fresh_back ((((e2.trans e3).trans e4).trans e5).trans e6) h7) (((((e2.trans e3).trans e4).trans e5).trans e6).trans e7) g7⟩

namespace FX
/-! ### the mathematics of the fixed predictors -/
def diffs (xs : List Int) : List Int := List.zipWith (fun e l => l - e) xs (xs.drop 1)
def diffsN : Nat → List Int → List Int
  | 0, xs => xs
  | o + 1, xs => diffs (diffsN o xs)
theorem diffs_len (xs : List Int) : (diffs xs).length = xs.length - 1 := by
  unfold diffs
  rw [List.length_zipWith, List.length_drop]
  omega
theorem diffs_get {xs : List Int} {i : Nat} {x y : Int} (h1 : xs[i]? = some x) (h2 : xs[i + 1]? = some y) : (diffs xs)[i]? = some (y - x) := by
  unfold diffs
  rw [List.getElem?_zipWith, h1, List.getElem?_drop, Nat.add_comm 1 i, h2]
theorem diffsN_len (xs : List Int) : ∀ o, (diffsN o xs).length = xs.length - o
  | 0 => rfl
  | o + 1 => by
    show (diffs (diffsN o xs)).length = _
    rw [diffs_len, diffsN_len xs o]
    omega
/-- an item, 0 beyond -/
def gi (xs : List Int) (i : Nat) : Int := xs.getD i 0
theorem gi_get {xs : List Int} {i : Nat} (h : i < xs.length) : xs[i]? = some (gi xs i) := by
  unfold gi
  rw [List.getD_eq_getElem?_getD, List.getElem?_eq_getElem h]
  rfl
theorem gi_of {xs : List Int} {i : Nat} {x : Int} (h : xs[i]? = some x) : gi xs i = x := by
  unfold gi
  rw [List.getD_eq_getElem?_getD, h]
  rfl
theorem gi_diffs {xs : List Int} {i : Nat} (h : i + 1 < xs.length) : gi (diffs xs) i = gi xs (i + 1) - gi xs i :=
  gi_of (diffs_get (gi_get (by omega)) (gi_get h))
theorem gi_take {xs : List Int} {i n : Nat} (h : i < n) : gi (xs.take n) i = gi xs i := by
  unfold gi
  rw [List.getD_eq_getElem?_getD, List.getD_eq_getElem?_getD, List.getElem?_take, if_pos h]
theorem gi_diffs2 {xs : List Int} {i : Nat} (h : i + 2 < xs.length) : gi (diffs (diffs xs)) i = gi xs (i + 2) - 2 * gi xs (i + 1) + gi xs i := by
  have h1 := gi_diffs (xs := diffs xs) (i := i) (by rw [diffs_len]; omega)
  have h2 := gi_diffs (xs := xs) (i := i + 1) (by omega)
  have h3 := gi_diffs (xs := xs) (i := i) (by omega)
  rw [h1, h2, h3, show i + 1 + 1 = i + 2 by omega]
  omega
theorem gi_diffs3 {xs : List Int} {i : Nat} (h : i + 3 < xs.length) : gi (diffs (diffs (diffs xs))) i = gi xs (i + 3) - 3 * gi xs (i + 2) + 3 * gi xs (i + 1) - gi xs i := by
  have h1 := gi_diffs2 (xs := diffs xs) (i := i) (by rw [diffs_len]; omega)
  have h2 := gi_diffs (xs := xs) (i := i + 2) (by omega)
  have h3 := gi_diffs (xs := xs) (i := i + 1) (by omega)
  have h4 := gi_diffs (xs := xs) (i := i) (by omega)
  rw [h1, h2, h3, h4, show i + 2 + 1 = i + 3 by omega, show i + 1 + 1 = i + 2 by omega]
  omega
theorem gi_diffs4 {xs : List Int} {i : Nat} (h : i + 4 < xs.length) : gi (diffs (diffs (diffs (diffs xs)))) i = gi xs (i + 4) - 4 * gi xs (i + 3) + 6 * gi xs (i + 2) - 4 * gi xs (i + 1) + gi xs i := by
  have h1 := gi_diffs3 (xs := diffs xs) (i := i) (by rw [diffs_len]; omega)
  have h2 := gi_diffs (xs := xs) (i := i + 3) (by omega)
  have h3 := gi_diffs (xs := xs) (i := i + 2) (by omega)
  have h4 := gi_diffs (xs := xs) (i := i + 1) (by omega)
  have h5 := gi_diffs (xs := xs) (i := i) (by omega)
  rw [h1, h2, h3, h4, h5, show i + 3 + 1 = i + 4 by omega, show i + 2 + 1 = i + 3 by omega, show i + 1 + 1 = i + 2 by omega]
  omega
/-- the prediction behind xs -/
def predF (o : Nat) (xs : List Int) : Int :=
  if o = 0 then 0
  else if o = 1 then gi xs (xs.length - 1)
  else if o = 2 then 2 * gi xs (xs.length - 1) - gi xs (xs.length - 2)
  else if o = 3 then 3 * gi xs (xs.length - 1) - 3 * gi xs (xs.length - 2) + gi xs (xs.length - 3)
  else 4 * gi xs (xs.length - 1) - 6 * gi xs (xs.length - 2) + 4 * gi xs (xs.length - 3) - gi xs (xs.length - 4)
theorem pred_diffs {xs : List Int} {o i : Nat} (ho : o ≤ 4) (h : o + i < xs.length) : predF o (xs.take (o + i)) + gi (diffsN o xs) i = gi xs (o + i) := by
  have hl : (xs.take (o + i)).length = o + i := by rw [List.length_take]; omega
  have h4 : o = 0 ∨ o = 1 ∨ o = 2 ∨ o = 3 ∨ o = 4 := by omega
  rcases h4 with rfl | rfl | rfl | rfl | rfl
  · unfold predF
    rw [if_pos rfl, Nat.zero_add, Int.zero_add]
    rfl
  · unfold predF
    rw [if_neg (by decide), if_pos rfl, hl, gi_take (by omega)]
    show _ + gi (diffs xs) i = _
    rw [gi_diffs (by omega), show 1 + i - 1 = i by omega, show 1 + i = i + 1 by omega]
    omega
  · unfold predF
    rw [if_neg (by decide), if_neg (by decide), if_pos rfl, hl, gi_take (by omega), gi_take (by omega)]
    show _ + gi (diffs (diffs xs)) i = _
    rw [gi_diffs2 (by omega), show 2 + i - 1 = i + 1 by omega, show 2 + i - 2 = i by omega, show 2 + i = i + 2 by omega]
    omega
  · unfold predF
    rw [if_neg (by decide), if_neg (by decide), if_neg (by decide), if_pos rfl, hl, gi_take (by omega), gi_take (by omega), gi_take (by omega)]
    show _ + gi (diffs (diffs (diffs xs))) i = _
    rw [gi_diffs3 (by omega), show 3 + i - 1 = i + 2 by omega, show 3 + i - 2 = i + 1 by omega, show 3 + i - 3 = i by omega, show 3 + i = i + 3 by omega]
    omega
  · unfold predF
    rw [if_neg (by decide), if_neg (by decide), if_neg (by decide), if_neg (by decide), hl, gi_take (by omega), gi_take (by omega), gi_take (by omega), gi_take (by omega)]
    show _ + gi (diffs (diffs (diffs (diffs xs)))) i = _
    rw [gi_diffs4 (by omega), show 4 + i - 1 = i + 3 by omega, show 4 + i - 2 = i + 2 by omega, show 4 + i - 3 = i + 1 by omega, show 4 + i - 4 = i by omega, show 4 + i = i + 4 by omega]
    omega
/-- within the limit -/
def within (lim : Option Int) (s : Int) : Bool := match lim with
  | none => true
  | some l => decide (-l ≤ s) && decide (s < l)
/-- the samples -/
def fsam (lim : Option Int) (o : Nat) : List Int → List Int → List Int
  | acc, [] => acc
  | acc, r :: rs => if within lim (predF o acc + r) = true then fsam lim o (acc ++ [predF o acc + r]) rs else acc
theorem take_snoc_gi {xs : List Int} {n : Nat} (h : n < xs.length) : xs.take (n + 1) = xs.take n ++ [gi xs n] := by
  rw [List.take_add_one, gi_get h]
  rfl
theorem drop_cons_gi {xs : List Int} {n : Nat} (h : n < xs.length) : xs.drop n = gi xs n :: xs.drop (n + 1) := by
  rw [List.drop_eq_getElem_cons h, Option.some.inj ((List.getElem?_eq_getElem h).symm.trans (gi_get h))]
theorem fsam_from {xs : List Int} {o : Nat} (ho : o ≤ 4) (hx : o ≤ xs.length) : ∀ k i, o + i + k = xs.length → fsam none o (xs.take (o + i)) ((diffsN o xs).drop i) = xs
  | 0, i, h => by
    rw [List.drop_of_length_le (by rw [diffsN_len]; omega)]
    show xs.take (o + i) = xs
    exact List.take_of_length_le (by omega)
  | k + 1, i, h => by
    rw [drop_cons_gi (by rw [diffsN_len]; omega)]
    show (if within none _ = true then _ else _) = xs
    rw [if_pos (show within none _ = true from rfl), pred_diffs ho (by omega), ← take_snoc_gi (by omega)]
    exact fsam_from ho hx k (i + 1) (by omega)
theorem fsam_diffs {xs : List Int} {o : Nat} (ho : o ≤ 4) (hx : o ≤ xs.length) : fsam none o (xs.take o) (diffsN o xs) = xs :=
  fsam_from ho hx (xs.length - o) 0 (by omega)
theorem fsam_len (o : Nat) : ∀ (rs acc : List Int), (fsam none o acc rs).length = acc.length + rs.length
  | [], acc => rfl
  | r :: rs, acc => by
    show (if within none _ = true then _ else _ : List Int).length = _
    rw [if_pos (show within none _ = true from rfl), fsam_len o rs]
    simp only [List.length_append, List.length_cons, List.length_nil]
    omega
theorem fsam_pre (o : Nat) : ∀ (rs acc : List Int) (n : Nat), n ≤ acc.length → (fsam none o acc rs).take n = acc.take n
  | [], acc, n, _ => rfl
  | r :: rs, acc, n, h => by
    show (if within none _ = true then _ else _ : List Int).take n = _
    rw [if_pos (show within none _ = true from rfl), fsam_pre o rs _ n (by rw [List.length_append]; omega), List.take_append_of_le_length h]
theorem gi_pre {xs ys : List Int} {n i : Nat} (h : xs.take n = ys.take n) (hi : i < n) : gi xs i = gi ys i := by
  rw [← gi_take (xs := xs) hi, h, gi_take hi]
theorem fsam_snoc (o : Nat) (rs acc : List Int) (z : Int) : gi (fsam none o (acc ++ [z]) rs) acc.length = z := by
  rw [gi_pre (ys := acc ++ [z]) (n := acc.length + 1) (fsam_pre o rs _ _ (by rw [List.length_append]; exact Nat.le_refl _)) (by omega)]
  unfold gi
  rw [List.getD_eq_getElem?_getD, List.getElem?_append_right (Nat.le_refl _), Nat.sub_self]
  rfl
/-- with a limit: the samples before the first one that exceeds it -/
theorem fsam_lim {o : Nat} {b : Int} : ∀ (rs acc : List Int) (j : Nat), acc.length ≤ j → (∀ t, acc.length ≤ t → t < j → within (some b) (gi (fsam none o acc rs) t) = true) → j ≤ (fsam none o acc rs).length →
    (j < (fsam none o acc rs).length → within (some b) (gi (fsam none o acc rs) j) = false) → fsam (some b) o acc rs = (fsam none o acc rs).take j
  | [], acc, j, h1, _, h3, _ => by
    show acc = acc.take j
    rw [List.take_of_length_le h1]
  | r :: rs, acc, j, h1, h2, h3, h4 => by
    have e : fsam none o acc (r :: rs) = fsam none o (acc ++ [predF o acc + r]) rs := by
      show (if within none _ = true then _ else _ : List Int) = _
      rw [if_pos (show within none _ = true from rfl)]
    rw [e] at h2 h3 h4 ⊢
    show (if within (some b) (predF o acc + r) = true then fsam (some b) o (acc ++ [predF o acc + r]) rs else acc) = _
    by_cases hj : j = acc.length
    · subst hj
      have h5 := h4 (by rw [fsam_len, List.length_append]; show acc.length < acc.length + 1 + _; omega)
      rw [fsam_snoc] at h5
      rw [if_neg (by rw [h5]; decide), fsam_pre o rs _ _ (by rw [List.length_append]; omega), List.take_append_of_le_length (Nat.le_refl _), List.take_length]
    · have h5 := h2 acc.length (Nat.le_refl _) (by omega)
      rw [fsam_snoc] at h5
      rw [if_pos h5]
      exact fsam_lim rs _ j (by rw [List.length_append]; show acc.length + 1 ≤ j; omega) (fun t ht => h2 t (by rw [List.length_append] at ht; omega)) h3 h4
def sp_fixed_residuals (K : PySem.W.Frag) : Sp := fun vs H Q _ => ∃ (a : Addr) (ns : List Int) (o : Nat), vs = [.ref a, .int o] ∧ SqL K H a (ns.map V.int) ∧ ns.length ≤ 10000 ∧ o ≤ 1000 ∧ RetL ((diffsN o ns).map V.int) H Q
theorem ok_fixed_residuals (T : TX K mg) : FnOk P w K mg base CX0 1 T.a_fixed_residuals T.d_fixed_residuals ["samples", "order"] (sp_fixed_residuals K) := by
  refine T.F_fixed_residuals.ok sc_fixed_residuals (fun vs H Q E h => by obtain ⟨a, ns, o, rfl, _⟩ := h; rfl) (fun cdv A outer s H vs Q E hr h => ?_)
  obtain ⟨a, ns, o, rfl, hS, hl, ho, k⟩ := h
  refine ⟨_, (pss_cons (ps_set (i := 2) sc_fixed_residuals.nd rfl (Or.inl rfl) (pe_callTy (r := rListS K) call_list_of (by rfl) T.m_list PyProof.Rows.boot_list (pa_cons (pv 0) pa_nil)))
      (pss_cons (ps_for PassesOwn.never rfl (pi_range1 (by rfl) T.m_range (pa_cons (pv 1) pa_nil)) (pg_name (i := 3) sc_fixed_residuals.nd rfl (Or.inl rfl)) (pss_one (ps_setLc (i := 2) (own := [("early", 4), ("late", 5)]) (g := (gTup K 2 (gCons (gName 4) (gCons (gName 5) gNil)))) (tt := tYes) rfl sc_fixed_residuals.nd rfl rfl (sw_true rfl rfl rfl (by decide +kernel)) (pi_zip (by rfl) T.m_zip (pa_cons (pv 2) (pa_cons (pe_slice (r := rSlL K) sl_list (pv 2) (po_some pe_int) po_none) pa_nil))) (blkOk_by (N := ["samples", "order", "residuals", "_", "early", "late"]) (sc := defScope s_fixed_residuals) (by decide +kernel)) (fun _ _ _ _ _ => (pg_tup rfl (pgs_cons (pg_name (i := 4) sc_fixed_residuals.nd rfl (Or.inl rfl)) (pgs_cons (pg_name (i := 5) sc_fixed_residuals.nd rfl (Or.inl rfl)) pgs_nil)))) (fun _ _ _ _ _ => pts_nil) (fun _ _ _ _ _ => (pe_op op_sub (pv 5) (pv 4))))))
      (pss_one (ps_ret (pv 2))))), ?_⟩
  walk_at "asgL"
  intro p H1 hp e1 g1
  refine q_forR1 (n := o) (by walk_at "ea") (by omega) (fun i σ' H' => ∃ p' z, σ' = [some (.ref a), some (.int o), some (.ref p'), z, none, none] ∧ Ex H H' ∧ H p' = none ∧ H' p' = some (.lst ((diffsN i ns).map V.int)))
    (fun H2 e2 => ⟨p, none, rfl, e1.trans e2, hp, e2 _ _ g1⟩) ?_ ?_
  · rintro i σ' H' hi ⟨p', z, rfl, e, hp', g⟩
    refine s_asgL (el_lcZ ((diffsN (i + 1) ns).map V.int) (Ev.s (ev_var rfl) (sq_of g)) (ys := ((diffsN i ns).drop 1).map V.int) (EvR.s (EvL.r (el_from (K := K) (i := 1) (by walk_at "evs") ev_c))) ?_ ?_ (fun x y => rfl) ?_) fun p2 H2 hp2 e2 g2 => ⟨p2, _, rfl, e.trans e2, fresh_back e hp2, g2⟩
    · show (List.map V.int (diffs (diffsN i ns))).length = _
      rw [List.length_map, diffs_len, List.length_map, List.length_map, List.length_drop]
      omega
    · rw [List.length_map, diffsN_len]
      omega
    · intro j x y H2 e2 hx hy
      obtain ⟨n, hn, hj, rfl⟩ := int_at hx
      obtain ⟨m, hm, hj2, rfl⟩ := int_at hy
      rw [List.getElem?_drop, Nat.add_comm 1 j] at hm
      refine ⟨.int (m - n), at_int (diffs_get hn hm), ?_⟩
      walk_at "ev"
  · rintro σ' H' ⟨p', z, rfl, e, hp', g⟩
    rw [Int.toNat_natCast] at g
    walk_at "ret"
    intro H2 e2
    exact k p' H2 hp' (e.trans e2) (e2 _ _ g)
theorem el_fixres {σ : L2.St} {H : Hp} {t1 t2 : TE} {E : XK} {ns : List Int} {o : Nat} (h1 : EvS K t1 σ H (ns.map V.int)) (h2 : Ev t2 σ H (.int o)) (hl : ns.length ≤ 10000) (ho : o ≤ 1000) :
    EvL (tCall (sp_fixed_residuals K) [] E (tCons t1 (tCons t2 tNil))) σ H ((diffsN o ns).map V.int) := fun H1 e Q q =>
  h1 H1 e _ fun p H2 e2 hp => h2 H2 (e.trans e2) _ fun H3 e3 => ⟨p, ns, o, rfl, ex_l e3 hp, hl, ho, fun r H4 hr e4 g4 => q r H4 (fresh_back (e2.trans e3) hr) ((e2.trans e3).trans e4) g4⟩

def sp_prediction_fixed (K : PySem.W.Frag) : Sp := fun vs H Q _ => ∃ (a : Addr) (ns : List Int) (o : Nat), vs = [.ref a, .int o] ∧ SqL K H a (ns.map V.int) ∧ o ≤ 4 ∧ o ≤ ns.length ∧ RetV (.int (predF o ns)) H Q
theorem at_last {ns : List Int} {j : Nat} (h1 : 1 ≤ j) (h2 : j ≤ ns.length) : atI (ns.map V.int) (-(j : Int)) = some (.int (gi ns (ns.length - j))) := by
  unfold atI ixN
  rw [if_neg (by omega), if_pos (by rw [List.length_map]; omega), List.length_map, show ((-(j : Int)) + (ns.length : Int)).toNat = ns.length - j by omega]
  exact at_int (gi_get (by omega))
theorem ev_back {σ : L2.St} {H : Hp} {tl : TE} {ns : List Int} (j : Nat) {i : Int} (h : EvS K tl σ H (ns.map V.int)) (h1 : 1 ≤ j) (h2 : j ≤ ns.length) (hi : i = (j : Int)) :
    Ev (tOp (rIxL K) tl (tUn (rU fun i => .int (-i)) (tC (.int i)))) σ H (.int (gi ns (ns.length - j))) := by
  subst hi
  exact ev_ixS (i := 0) h (ev_negI ev_c) (at_last h1 h2)
theorem dec_nat {a : Nat} {b : Int} {c : Nat} (hb : b = (c : Int)) {x : Bool} (h : decide (V.int (a : Int) = V.int b) = x) : decide (a = c) = x := by
  subst hb
  rw [← h]
  by_cases e : a = c
  · subst e
    simp
  · rw [decide_eq_false e, decide_eq_false]
    intro z
    exact e (Int.ofNat.inj (V.int.inj z))
theorem ok_prediction_fixed (T : TX K mg) : FnOk P w K mg base CX0 1 T.a_prediction_fixed T.d_prediction_fixed ["samples", "order"] (sp_prediction_fixed K) := by
  refine T.F_prediction_fixed.ok sc_prediction_fixed (fun vs H Q E h => by obtain ⟨a, ns, o, rfl, _⟩ := h; rfl) (fun cdv A outer s H vs Q E hr h => ?_)
  obtain ⟨a, ns, o, rfl, hS, ho, hl, k⟩ := h
  refine ⟨_, (pss_cons (ps_if (pt_cmpR op_eq (pv 1) pe_int (nomark _)) (pss_one (ps_ret pe_int)) pss_nil)
      (pss_cons (ps_if (pt_cmpR op_eq (pv 1) pe_int (nomark _)) (pss_one (ps_ret (pe_ix (r := rIxL K) ix_list (pv 0) (pe_un un_neg pe_int) (fun _ _ => rfl)))) pss_nil)
      (pss_cons (ps_if (pt_cmpR op_eq (pv 1) pe_int (nomark _)) (pss_one (ps_ret (pe_op op_sub (pe_op op_mul pe_int (pe_ix (r := rIxL K) ix_list (pv 0) (pe_un un_neg pe_int) (fun _ _ => rfl))) (pe_ix (r := rIxL K) ix_list (pv 0) (pe_un un_neg pe_int) (fun _ _ => rfl))))) pss_nil)
      (pss_cons (ps_if (pt_cmpR op_eq (pv 1) pe_int (nomark _)) (pss_one (ps_ret (pe_op op_add (pe_op op_sub (pe_op op_mul pe_int (pe_ix (r := rIxL K) ix_list (pv 0) (pe_un un_neg pe_int) (fun _ _ => rfl))) (pe_op op_mul pe_int (pe_ix (r := rIxL K) ix_list (pv 0) (pe_un un_neg pe_int) (fun _ _ => rfl)))) (pe_ix (r := rIxL K) ix_list (pv 0) (pe_un un_neg pe_int) (fun _ _ => rfl))))) pss_nil)
      (pss_one (ps_ret (pe_op op_sub (pe_op op_add (pe_op op_sub (pe_op op_mul pe_int (pe_ix (r := rIxL K) ix_list (pv 0) (pe_un un_neg pe_int) (fun _ _ => rfl))) (pe_op op_mul pe_int (pe_ix (r := rIxL K) ix_list (pv 0) (pe_un un_neg pe_int) (fun _ _ => rfl)))) (pe_op op_mul pe_int (pe_ix (r := rIxL K) ix_list (pv 0) (pe_un un_neg pe_int) (fun _ _ => rfl)))) (pe_ix (r := rIxL K) ix_list (pv 0) (pe_un un_neg pe_int) (fun _ _ => rfl))))))))), ?_⟩
  walk_at "when"
  · intro hb H1 e1
    have hb := of_decide_eq_true (dec_nat (c := 0) rfl hb)
    subst hb
    walk_at "ret"
    intro H2 e2
    exact ret_eq k (e1.trans e2) rfl
  intro hb H1 e1
  have hb1 := of_decide_eq_false (dec_nat (c := 0) rfl hb)
  walk_at "when"
  · intro hb H2 e2
    have hb := of_decide_eq_true (dec_nat (c := 1) rfl hb)
    subst hb
    refine s_ret (ev_back (K := K) (ns := ns) 1 (by walk_at "evs") (by omega) (by omega) rfl) fun H3 e3 => ?_
    exact ret_eq k ((e1.trans e2).trans e3) rfl
  intro hb H2 e2
  have hb2 := of_decide_eq_false (dec_nat (c := 1) rfl hb)
  walk_at "when"
  · intro hb H3 e3
    have hb := of_decide_eq_true (dec_nat (c := 2) rfl hb)
    subst hb
    have b1 : ∀ H4, Ex H H4 → Ev _ _ H4 _ := fun H4 e4 => ev_back (K := K) (ns := ns) (σ := start ["samples", "order"] [.ref a, .int ((2 : Nat) : Int)]) (tl := tVar 0) 1 (Ev.s (ev_var rfl) (ex_l e4 hS)) (by omega) (by omega) rfl
    have b2 : ∀ H4, Ex H H4 → Ev _ _ H4 _ := fun H4 e4 => ev_back (K := K) (ns := ns) (σ := start ["samples", "order"] [.ref a, .int ((2 : Nat) : Int)]) (tl := tVar 0) 2 (Ev.s (ev_var rfl) (ex_l e4 hS)) (by omega) (by omega) rfl
    have ex := (e1.trans e2).trans e3
    refine s_ret (ev_I0 (ev_I ev_c (b1 _ ex) (by walk_at "side")) (b2 _ ex)) fun H4 e4 => ?_
    exact ret_eq k (ex.trans e4) rfl
  intro hb H3 e3
  have hb3 := of_decide_eq_false (dec_nat (c := 2) rfl hb)
  walk_at "when"
  · intro hb H4 e4
    have hb := of_decide_eq_true (dec_nat (c := 3) rfl hb)
    subst hb
    have b : ∀ j : Nat, 1 ≤ j → j ≤ 3 → ∀ (i : Int), i = (j : Int) → ∀ H4, Ex H H4 → Ev (tOp (rIxL K) (tVar 0) (tUn (rU fun i => .int (-i)) (tC (.int i)))) (start ["samples", "order"] [.ref a, .int ((3 : Nat) : Int)]) H4 (.int (gi ns (ns.length - j))) :=
      fun j h1 h2 i hi H4 e4 => ev_back (K := K) (ns := ns) j (Ev.s (ev_var rfl) (ex_l e4 hS)) h1 (by omega) hi
    have ex := ((e1.trans e2).trans e3).trans e4
    refine s_ret (ev_I0 (ev_I0 (ev_I ev_c (b 1 (by omega) (by omega) 1 rfl _ ex) (by walk_at "side")) (ev_I ev_c (b 2 (by omega) (by omega) 2 rfl _ ex) (by walk_at "side"))) (b 3 (by omega) (by omega) 3 rfl _ ex)) fun H5 e5 => ?_
    exact ret_eq k (ex.trans e5) rfl
  intro hb H4 e4
  have hb4 := of_decide_eq_false (dec_nat (c := 3) rfl hb)
  have hb : o = 4 := by omega
  subst hb
  have b : ∀ j : Nat, 1 ≤ j → j ≤ 4 → ∀ (i : Int), i = (j : Int) → ∀ H4, Ex H H4 → Ev (tOp (rIxL K) (tVar 0) (tUn (rU fun i => .int (-i)) (tC (.int i)))) (start ["samples", "order"] [.ref a, .int ((4 : Nat) : Int)]) H4 (.int (gi ns (ns.length - j))) :=
    fun j h1 h2 i hi H4 e4 => ev_back (K := K) (ns := ns) j (Ev.s (ev_var rfl) (ex_l e4 hS)) h1 (by omega) hi
  have ex := ((e1.trans e2).trans e3).trans e4
  refine s_ret (ev_I0 (ev_I0 (ev_I0 (ev_I ev_c (b 1 (by omega) (by omega) 1 rfl _ ex) (by walk_at "side")) (ev_I ev_c (b 2 (by omega) (by omega) 2 rfl _ ex) (by walk_at "side"))) (ev_I ev_c (b 3 (by omega) (by omega) 3 rfl _ ex) (by walk_at "side"))) (b 4 (by omega) (by omega) 4 rfl _ ex)) fun H5 e5 => ?_
  exact ret_eq k (ex.trans e5) rfl
theorem ev_pred {σ : L2.St} {H : Hp} {t1 t2 : TE} {E : XK} {ns : List Int} {o : Nat} (h1 : EvS K t1 σ H (ns.map V.int)) (h2 : Ev t2 σ H (.int o)) (ho : o ≤ 4) (hl : o ≤ ns.length) :
    Ev (tCall (sp_prediction_fixed K) [] E (tCons t1 (tCons t2 tNil))) σ H (.int (predF o ns)) := fun H1 e Q q =>
  h1 H1 e _ fun p H2 e2 hp => h2 H2 (e.trans e2) _ fun H3 e3 => ⟨p, ns, o, rfl, ex_l e3 hp, ho, hl, fun H4 e4 => q H4 ((e2.trans e3).trans e4)⟩
def limV : Option Int → V
  | none => .non
  | some l => .int l
def sp_fixed_samples (K : PySem.W.Frag) : Sp := fun vs H Q _ => ∃ (a b : Addr) (ws rs : List Int) (lim : Option Int), vs = [.ref a, .ref b, limV lim] ∧ SqL K H a (ws.map V.int) ∧ SqL K H b (rs.map V.int) ∧ ws.length ≤ 4 ∧ rs.length ≤ 10000 ∧ RetL ((fsam lim ws.length ws rs).map V.int) H Q
theorem ok_fixed_samples (T : TX K mg) : FnOk P w K mg base CX0 2 T.a_fixed_samples T.d_fixed_samples ["warm_up", "residuals", "limit"] (sp_fixed_samples K) := by
  refine T.F_fixed_samples.ok sc_fixed_samples (fun vs H Q E h => by obtain ⟨a, b, ws, rs, lim, rfl, _⟩ := h; rfl) (fun cdv A outer s H vs Q E hr h => ?_)
  obtain ⟨a, b, ws, rs, lim, rfl, hS, hS2, hl, hl2, k⟩ := h
  refine ⟨_, (pss_cons (ps_set (i := 3) sc_fixed_samples.nd rfl (Or.inl rfl) (pe_callB (r := rLenS K) call_len_seq (by rfl) T.m_len PySem.boot_len (pa_cons (pv 0) pa_nil)))
      (pss_cons (ps_set (i := 4) sc_fixed_samples.nd rfl (Or.inl rfl) (pe_callTy (r := rListS K) call_list_of (by rfl) T.m_list PyProof.Rows.boot_list (pa_cons (pv 0) pa_nil)))
      (pss_cons (ps_for PassesOwn.leaving rfl (pi_list (pv 1)) (pg_name (i := 5) sc_fixed_samples.nd rfl (Or.inl rfl)) (pss_cons (ps_set (i := 6) sc_fixed_samples.nd rfl (Or.inl rfl) (pe_op op_add (pe_call (ok_prediction_fixed T) (hr.mono (by decide)) (by rfl) T.g_prediction_fixed T.F_prediction_fixed.kp T.b_prediction_fixed .nil pass0 (pa_cons (pv 4) (pa_cons (pv 3) pa_nil))) (pv 5)))
        (pss_cons (ps_if (PW.pt (pw_and (pt_cmpR op_notN1 (pv 2) pe_non (nomark _)) (pw_and1 (pt_not (pt_chain op_le op_lt (pe_un un_neg (pv 2)) (pv 6) (pv 2)))))) (pss_one ps_break) pss_nil)
        (pss_one (ps_expr (pe_bm PySem.F.plainAttrs_list PySem.F.slot_list_append PySem.F.type_list_append mt_append (pv 4) (pa_cons (pv 6) pa_nil)))))))
      (pss_one (ps_ret (pv 4)))))), ?_⟩
  refine q_asg (v := .int (ws.length : Int)) (ev_is (by walk_at "ev") (by rw [List.length_map])) fun H1 e1 => ?_
  walk_at "asgL"
  intro p H2 hp2 e2 g2
  have hp : H p = none := fresh_back e1 hp2
  generalize ho : ws.length = o at *
  have fin : ∀ (acc : List Int) σ' H', σ'[4]? = some (some (.ref p)) → Ex H H' → H' p = some (.lst (acc.map V.int)) → fsam lim o ws rs = acc → tRet (tVar 4) { nx := fun x H' => Q V.non H', rt := Q } σ' H' := fun acc σ' H' hv e g hf => by
    refine s_ret (ev_var hv) fun H3 e3 => ?_
    exact k p H3 hp (e.trans e3) (by rw [hf]; exact e3 _ _ g)
  refine q_forLn (xs := rs.map V.int) (a := b) (ev_var rfl) (by walk_at "sq") (fun i σ' H' => ∃ acc x5 x6, σ' = [some (.ref a), some (.ref b), some (limV lim), some (.int o), some (.ref p), x5, x6] ∧ Ex H H' ∧ H' p = some (.lst (acc.map V.int)) ∧ o ≤ acc.length ∧ acc.length ≤ 4 + i ∧ fsam lim o ws rs = fsam lim o acc (rs.drop i))
    (fun H3 e3 => ⟨ws, none, none, rfl, (e1.trans e2).trans e3, e3 _ _ g2, by omega, by omega, rfl⟩) (fun i σ' H' _ ⟨_, _, _, _, e, _⟩ => ex_l e hS2) ?_ ?_
  · rintro i x σ' H' hx ⟨acc, x5, x6, rfl, e, g, ha, hb, hf⟩
    obtain ⟨n, hn, hi, rfl⟩ := int_at hx
    rw [drop_cons_gi hi, gi_of hn] at hf
    refine q_asg (v := .int (predF o acc + n)) (ev_I0 (ev_pred (K := K) (ns := acc) (o := o) (by walk_at "evs") (ev_var rfl) (by omega) ha) (ev_var rfl)) fun H3 e3 => ?_
    generalize hs : predF o acc + n = z at *
    have hf : fsam lim o ws rs = if within lim z = true then fsam lim o (acc ++ [z]) (rs.drop (i + 1)) else acc := by
      rw [hf]
      show (if within lim (predF o acc + n) = true then fsam lim o (acc ++ [predF o acc + n]) (rs.drop (i + 1)) else acc) = _
      rw [hs]
    refine q_when (b := !within lim z) ?_ (fun hb H4 e4 => ?_) fun hb H4 e4 => ?_
    · cases lim with
      | none => exact et_is (et_and (a := false) (b := true) (et_is (by walk_at "et") (by decide)) (fun h => by cases h)) rfl
      | some l => exact et_is (by walk_at "et") (by simp [within, limV])
    · refine fin acc _ _ rfl ((e.trans e3).trans e4) (e4 _ _ (e3 _ _ g)) ?_
      rw [hf, if_neg]
      intro h
      rw [h] at hb
      cases hb
    · have hw : within lim z = true := by
        cases h : within lim z with
        | true => rfl
        | false => rw [h] at hb; cases hb
      refine s_app (e4 _ _ (e3 _ _ g)) (ev_var rfl) (ev_var rfl) (by rw [List.length_map]; omega) fun H5 e5 => ?_
      refine ⟨acc ++ [z], _, _, rfl, Ex.mut (((e.trans e3).trans e4).trans e5) hp, ?_, ?_, ?_, ?_⟩
      · rw [upd_same, List.map_append]
        rfl
      · rw [List.length_append]
        omega
      · rw [List.length_append]
        show acc.length + 1 ≤ _
        omega
      · rw [hf, if_pos hw]
  · rintro σ' H' ⟨acc, x5, x6, rfl, e, g, ha, hb, hf⟩
    rw [List.length_map, List.drop_of_length_le (Nat.le_refl _)] at hf
    exact fin acc _ _ rfl e g hf
theorem el_fixsamK {σ : L2.St} {H : Hp} {t1 t2 t3 : TE} {E : XK} {ws rs : List Int} {lim : Option Int} (h1 : EvS K t1 σ H (ws.map V.int)) (h2 : EvS K t2 σ H (rs.map V.int)) (h3 : Ev t3 σ H (limV lim)) (hl : ws.length ≤ 4) (hr : rs.length ≤ 10000) :
    EvL (tCallN 2 1 (sp_fixed_samples K) (fun us ws => us ++ ws) E (tCons t1 (tCons t2 tNil)) (tCons t3 tNil)) σ H ((fsam lim ws.length ws rs).map V.int) := fun H1 e Q q =>
  h1 H1 e _ fun p H2 e2 hp => h2 H2 (e.trans e2) _ fun r H3 e3 hr3 => h3 H3 ((e.trans e2).trans e3) _ fun H4 e4 => ⟨rfl, rfl, p, r, ws, rs, lim, rfl, ex_l (e3.trans e4) hp, ex_l e4 hr3, hl, hr, fun r H5 hr e5 g5 => q r H5 (fresh_back ((e2.trans e3).trans e4) hr) (((e2.trans e3).trans e4).trans e5) g5⟩

end FX
-- SUB
/-! ### objects that are made once -/
def EvN (te : TE) (σ : L2.St) (H : Hp) (R : Addr → Hp → Prop) : Prop := ∀ H1, Ex H H1 → ∀ Q : VK, (∀ p H2, H1 p = none → Ex H1 H2 → R p H2 → Q (.ref p) H2) → te σ H1 Q
section
variable {K : PySem.W.Frag} {σ : L2.St} {H : Hp} {te ta tb : TE} {C : Addr} {sp : Sp} {dvs vs zs : List V} {E : XK} {t tk : TA} {R : Addr → Hp → Prop} {D : Ends} {tz : TS} {n m i : Nat} {gV : List V → List V → List V}
theorem en_makeF (h : EvA t σ H vs) (k : ∀ a dx H1 (Q : VK) (E : XK), Ex H H1 → H a = none → H1 a = some (.ins C dx []) → (∀ H', FrO a H1 H' → R a H' → Q .non H') → sp (.ref a :: (vs ++ dvs)) H1 Q E) : EvN (tMake C sp dvs E t) σ H R := fun H1 e Q q =>
  h H1 e _ fun H2 e2 => fun x dx hx hdx hne => k x dx _ _ _ ((e.trans e2).trans (Ex.mut (Ex.new hdx) hx)) (fresh_back (e.trans e2) hx) upd_same fun H' hF hR => ⟨rfl, q x H' (fresh_back e2 hx) (fun b o hb => hF b o (fresh_ne hx (e2 b o hb)) ((Ex.mut (Ex.new hdx) hx) b o (e2 b o hb))) hR⟩
theorem en_makeKF (h : EvA t σ H vs) (hz : EvA tk σ H zs) (l1 : vs.length = n) (l2 : zs.length = m) (k : ∀ a dx H1 (Q : VK) (E : XK), Ex H H1 → H a = none → H1 a = some (.ins C dx []) → (∀ H', FrO a H1 H' → R a H' → Q .non H') → sp (gV (.ref a :: vs) zs) H1 Q E) : EvN (tMakeK C n m sp gV E t tk) σ H R := fun H1 e Q q =>
  h H1 e _ fun H2 e2 => hz H2 (e.trans e2) _ fun H3 e3 => ⟨l1, l2, fun x dx hx hdx hne => k x dx _ _ _ (((e.trans e2).trans e3).trans (Ex.mut (Ex.new hdx) hx)) (fresh_back ((e.trans e2).trans e3) hx) upd_same fun H' hF hR => ⟨rfl, q x H' (fresh_back (e2.trans e3) hx) (fun b o hb => hF b o (fresh_ne hx ((e2.trans e3) b o hb)) ((Ex.mut (Ex.new hdx) hx) b o ((e2.trans e3) b o hb))) hR⟩⟩
/-- what stood before the object was made stands -/
theorem q_asgN (h : EvN te σ H R) (k : ∀ p H1, H p = none → Ex H H1 → R p H1 → tz D (σ.set i (some (.ref p))) H1) : tSeq (tAsg te (gName i)) tz D σ H := h H (Ex.refl H) _ k
theorem s_asgN (h : EvN te σ H R) (k : ∀ p H1, H p = none → Ex H H1 → R p H1 → D.nx (σ.set i (some (.ref p))) H1) : tAsg te (gName i) D σ H := h H (Ex.refl H) _ k
theorem s_retN (h : EvN te σ H R) (k : ∀ p H1, H p = none → Ex H H1 → R p H1 → D.rt (.ref p) H1) : tRet te D σ H := h H (Ex.refl H) _ k
theorem el_if {c : TT} {b : Bool} {xs : List V} (h : EvT c σ H b) (h1 : b = true → EvL ta σ H xs) (h2 : b = false → EvL tb σ H xs) : EvL (tIf c ta tb) σ H xs := fun H1 e Q q => h H1 e _ fun H2 e2 => by
  cases b with
  | true =>
    rw [if_pos rfl]
    exact h1 rfl H2 (e.trans e2) Q fun p H3 hp e3 g => q p H3 (fresh_back e2 hp) (e2.trans e3) g
  | false =>
    rw [if_neg (by decide)]
    exact h2 rfl H2 (e.trans e2) Q fun p H3 hp e3 g => q p H3 (fresh_back e2 hp) (e2.trans e3) g
theorem s_fldL {a dx : Addr} {fs : List (Str × V)} {f : Str} {to tv : TE} {xs : List V} (c : Cls K C) (hn : NoAttr K C f) (hv : EvL tv σ H xs) (h : ∀ H1, Ex H H1 → Ev to σ H1 (.ref a)) (hx : H a = some (.ins C dx fs)) (hl : fs.length < 1000) (k : ∀ p H1, H p = none → Ex H H1 → H1 p = some (.lst xs) → D.nx σ (upd H1 a (.ins C dx (putF f (.ref p) fs)))) : sFld K to tv f D σ H :=
  hv H (Ex.refl H) _ fun p H1 hp e1 g1 => h H1 e1 H1 (Ex.refl H1) _ fun H2 e2 => ⟨a, C, dx, fs, rfl, (e1.trans e2) _ _ hx, c, hn, hl, k p H2 hp (e1.trans e2) (e2 _ _ g1)⟩
end

open FX (ok_fixed_residuals ok_fixed_samples)
theorem q_wr {C a L : Addr} {ms : List Bool} {w v : Nat} {wi : Int} {σ : L2.St} {H : Hp} {to tv : TE} {E : XK} {D : Ends} {tz : TS} (h : Ev to σ H (.ref a)) (hW : WrAt C H a L ms) (hwi : wi = (w : Int)) (hv : Ev tv σ H (.int (v : Int))) (hvw : v < 2 ^ w) (hw : w ≤ 64) (hl : ms.length ≤ 200000) (k : ∀ H1, Fr a L H H1 → WrAt C H1 a L (ms ++ bitsN w v) → tz D σ H1) : tSeq (tDrop (tMeth C "write" (sp_wwrite C) [] E to (tCons (tC (.int wi)) (tCons tv tNil)))) tz D σ H := by
  obtain ⟨dx, ws, hd, nn, ha, _⟩ := hW.len
  refine q_dropM (vs := [.int (w : Int), .int (v : Int)]) h ha rfl (ea_cons (Ev.is ev_c (congrArg V.int hwi)) (ea_cons hv ea_nil)) fun H1 e1 => ⟨a, L, ms, w, (v : Int), rfl, hW.ex e1, by omega, by omega, fun H2 hF hW2 => ?_⟩
  rw [self_mod hvw] at hW2
  exact k H2 ((Fr.ex e1).trans hF) hW2

/-! ### a field read -/
section
variable {C a d : Addr} {ds : List Nat} {pos w v : Nat} {wi : Int} {σ : L2.St} {H : Hp} {to tb : TE} {E : XK} {D : Ends} {tu tv tz : TS} {r : R2} {g : TG}
theorem rdv {Q : VK} (h : Ev to σ H (.ref a)) (hR : RdD C H a d ds pos) (hwi : wi = (w : Int)) (hB : Has (ds.flatMap bits8) pos (bitsN w v)) (hv : v < 2 ^ w) (hw : w ≤ 64) (k : ∀ H1, FrA a H H1 → RdD C H1 a d ds (pos + w) → Q (.int (v : Int)) H1) : tMeth C "read" (sp_readN C) [] E to (tCons (tC (.int wi)) tNil) σ H Q := by
  obtain ⟨dx, ha⟩ := id hR.1
  have hl := hB.len
  rw [bitsN_len, bits_flat_len] at hl
  refine mth (vs := [.int (w : Int)]) h ha rfl (ea_cons (Ev.is ev_c (congrArg V.int hwi)) ea_nil) fun H1 e1 => ⟨a, d, ds, pos, w, rfl, (hR.ex e1).1, (hR.ex e1).2.1, hR.2.2.1, hw, hR.2.2.2, hl, fun H2 hF hR2 => ?_⟩
  rw [hB.val hv]
  exact k H2 ((FrA.ex e1).trans hF) (hR.to ((FrA.ex e1).trans hF) hR2)
theorem q_asgRv {i : Nat} (h : Ev to σ H (.ref a)) (hR : RdD C H a d ds pos) (hwi : wi = (w : Int)) (hB : Has (ds.flatMap bits8) pos (bitsN w v)) (hv : v < 2 ^ w) (hw : w ≤ 64) (k : ∀ H1, FrA a H H1 → RdD C H1 a d ds (pos + w) → tz D (σ.set i (some (.int (v : Int)))) H1) : tSeq (tAsg (tMeth C "read" (sp_readN C) [] E to (tCons (tC (.int wi)) tNil)) (gName i)) tz D σ H := rdv h hR hwi hB hv hw k
theorem q_whenRv (h : Ev to σ H (.ref a)) (hR : RdD C H a d ds pos) (hwi : wi = (w : Int)) (hB : Has (ds.flatMap bits8) pos (bitsN w v)) (hv : v < 2 ^ w) (hw : w ≤ 64) (k : ∀ H1, FrA a H H1 → RdD C H1 a d ds (pos + w) → tSeq (tIfS (tTest (tOp r (tC (.int (v : Int))) tb)) tu tv) tz D σ H1) : tSeq (tIfS (tTest (tOp r (tMeth C "read" (sp_readN C) [] E to (tCons (tC (.int wi)) tNil)) tb)) tu tv) tz D σ H := rdv h hR hwi hB hv hw k
theorem s_whenRv (h : Ev to σ H (.ref a)) (hR : RdD C H a d ds pos) (hwi : wi = (w : Int)) (hB : Has (ds.flatMap bits8) pos (bitsN w v)) (hv : v < 2 ^ w) (hw : w ≤ 64) (k : ∀ H1, FrA a H H1 → RdD C H1 a d ds (pos + w) → tIfS (tTest (tOp r (tC (.int (v : Int))) tb)) tu tv D σ H1) : tIfS (tTest (tOp r (tMeth C "read" (sp_readN C) [] E to (tCons (tC (.int wi)) tNil)) tb)) tu tv D σ H := rdv h hR hwi hB hv hw k
theorem s_retRo (h : Ev to σ H (.ref a)) (hR : RdD C H a d ds pos) (hwi : wi = (w : Int)) (hB : Has (ds.flatMap bits8) pos (bitsN w v)) (hv : v < 2 ^ w) (hw : w ≤ 64) (k : ∀ H1, FrA a H H1 → RdD C H1 a d ds (pos + w) → tRet (tOp r (tC (.int (v : Int))) tb) D σ H1) : tRet (tOp r (tMeth C "read" (sp_readN C) [] E to (tCons (tC (.int wi)) tNil)) tb) D σ H := rdv h hR hwi hB hv hw k
theorem s_retRv (h : Ev to σ H (.ref a)) (hR : RdD C H a d ds pos) (hwi : wi = (w : Int)) (hB : Has (ds.flatMap bits8) pos (bitsN w v)) (hv : v < 2 ^ w) (hw : w ≤ 64) (k : ∀ H1, FrA a H H1 → RdD C H1 a d ds (pos + w) → D.rt (.int (v : Int)) H1) : tRet (tMeth C "read" (sp_readN C) [] E to (tCons (tC (.int wi)) tNil)) D σ H := rdv h hR hwi hB hv hw k
end

def cdD (c : Cd) : PyData := .tuple [.str (kstr c.raw), .int (c.num : Int)]
def planD (m n : Nat) (cds : List Cd) : PyData := .tuple [.int (m : Int), .int (n : Int), .tuple (cds.map cdD)]
theorem canLay_cds : ∀ cs : List Cd, PyData.canLayAll0 (cs.map cdD) = true
  | [] => rfl
  | c :: r => by
    have ih := canLay_cds r
    obtain ⟨raw, n⟩ := c
    cases raw with
    | true =>
      simp only [List.map_cons, PyData.canLayAll0, ih, cdD, PyData.canLay0]
      decide +kernel
    | false =>
      simp only [List.map_cons, PyData.canLayAll0, ih, cdD, PyData.canLay0]
      decide +kernel
theorem depth_cds : ∀ cs : List Cd, PyData.depthAll (cs.map cdD) ≤ 3
  | [] => by simp [PyData.depthAll]
  | c :: r => by
    have ih := depth_cds r
    simp only [List.map_cons, PyData.depthAll, cdD, PyData.depth]
    omega
theorem dpa_cds {H : Hp} : ∀ (qs : List Addr) (cds : List Cd), qs.length = cds.length → (∀ (i : Nat) q c, qs[i]? = some q → cds[i]? = some c → CdAt H q c) → DpAll K H (qs.map V.ref) (cds.map cdD)
  | [], [], _, _ => .nil
  | q :: qs, c :: cds, hl, h => .cons (.tup (st_of (h 0 q c rfl rfl)) (.cons (.str _) (.cons (.int _) .nil))) (dpa_cds qs cds (by simpa using hl) fun i q' c' h1 h2 => h (i + 1) q' c' h1 h2)
theorem dp_plan {H : Hp} {t tc : Addr} {m n : Nat} {qs : List Addr} {cds : List Cd} (ht : H t = some (.tup [.int (m : Int), .int (n : Int), .ref tc])) (hc : CdsT H tc qs cds) : Dp K H (.ref t) (planD m n cds) := .tup (st_of ht) (.cons (.int _) (.cons (.int _) (.cons (.tup (st_of hc.1) (dpa_cds qs cds hc.2.1 hc.2.2)) .nil)))

/-! ### subframes -/
inductive Kd where
  | con | ver | fix | lin
  deriving DecidableEq
structure Sf where
  kd : Kd
  o : Nat
  pr : Nat
  sh : Nat
  co : List Int
  m : Nat
  n : Nat
  cds : List Cd
  lo : Nat
def kdS : Kd → Str
  | .con => "constant"
  | .ver => "verbatim"
  | .fix => "fixed"
  | .lin => "linear"
def prd : Kd → Bool
  | .fix => true
  | .lin => true
  | _ => false
def fsS (k o p s c pl w : V) : List (Str × V) := [("kind", k), ("order", o), ("precision", p), ("shift", s), ("coefficients", c), ("plan", pl), ("wasted", w)]
def PlAt (H : Hp) (s : Sf) (x : V) : Prop := if prd s.kd then ∃ t tc qs, x = .ref t ∧ H t = some (.tup [.int (s.m : Int), .int (s.n : Int), .ref tc]) ∧ CdsT H tc qs s.cds else x = .non
def SfAt (K : PySem.W.Frag) (C : Addr) (H : Hp) (p : Addr) (s : Sf) : Prop := ∃ dx tco x, H p = some (.ins C dx (fsS (.str (kdS s.kd)) (.int (s.o : Int)) (.int (s.pr : Int)) (.int (s.sh : Int)) (.ref tco) x (.int (s.lo : Int)))) ∧ SqT K H tco (s.co.map V.int) ∧ PlAt H s x
theorem PlAt.ex {H H1 : Hp} {s : Sf} {x : V} (h : PlAt H s x) (e : Ex H H1) : PlAt H1 s x := by
  unfold PlAt at *
  split
  · rename_i hp
    rw [if_pos hp] at h
    obtain ⟨t, tc, qs, rfl, ht, hc⟩ := h
    exact ⟨t, tc, qs, rfl, e _ _ ht, hc.ex e⟩
  · rename_i hp
    rwa [if_neg hp] at h
theorem PlAt.fr {C a L : Addr} {H H1 : Hp} {ms : List Bool} {s : Sf} {x : V} (h : PlAt H s x) (hW : WrAt C H a L ms) (hF : Fr a L H H1) : PlAt H1 s x := by
  unfold PlAt at *
  split
  · rename_i hp
    rw [if_pos hp] at h
    obtain ⟨t, tc, qs, rfl, ht, hc⟩ := h
    exact ⟨t, tc, qs, rfl, hW.frT hF ht, hc.fr hW hF⟩
  · rename_i hp
    rwa [if_neg hp] at h
theorem sqt_fr {C a L t : Addr} {H H1 : Hp} {ms : List Bool} {xs : List V} (hW : WrAt C H a L ms) (hF : Fr a L H H1) (h : SqT K H t xs) : SqT K H1 t xs := by
  obtain ⟨dx', ws, hd, nn, ha, hL, _⟩ := hW
  rcases h with (h | ⟨o, h⟩) | h
  · exact st_of (hF _ _ (by rintro rfl; rw [ha] at h; cases h) (by rintro rfl; rw [hL] at h; cases h) h)
  · exact .inl (.inr ⟨o, hF _ _ (by rintro rfl; rw [ha] at h; cases h) (by rintro rfl; rw [hL] at h; cases h) h⟩)
  · exact .inr h
theorem SfAt.ex {C p : Addr} {H H1 : Hp} {s : Sf} (h : SfAt K C H p s) (e : Ex H H1) : SfAt K C H1 p s := by
  obtain ⟨dx, tco, x, hp, hc, hpl⟩ := h
  exact ⟨dx, tco, x, e _ _ hp, ex_t e hc, hpl.ex e⟩
theorem fsS_wF {k o p s c pl w : V} {L : Addr} {h n : Nat} : fsS k o p s c pl w ≠ wF L h n := fun e => absurd (congrArg List.length e) (by simp [fsS, wF])
theorem SfAt.fr {C CS a L p : Addr} {H H1 : Hp} {ms : List Bool} {s : Sf} (h : SfAt K CS H p s) (hW : WrAt C H a L ms) (hF : Fr a L H H1) : SfAt K CS H1 p s := by
  obtain ⟨dx, tco, x, hp, hc, hpl⟩ := h
  refine ⟨dx, tco, x, hF p _ ?_ ?_ hp, sqt_fr hW hF hc, hpl.fr hW hF⟩
  · rintro rfl
    obtain ⟨dx', ws, hd, nn, ha, _⟩ := hW
    rw [ha] at hp
    exact absurd (HO.ins.inj (Option.some.inj hp)).2.2.symm fsS_wF
  · rintro rfl
    obtain ⟨_, _, _, _, _, hL, _⟩ := hW
    rw [hL] at hp
    cases hp
def vls (s : Sf) (xs : List Int) : List Int := xs.map fun x => x / 2 ^ s.lo
def ordS (s : Sf) : Nat := if s.kd = .lin then s.co.length else s.o
def resS (s : Sf) (vs : List Int) : List Int := if s.kd = .lin then lres s.co s.sh vs else FX.diffsN s.o vs
def kcode (s : Sf) : Nat := match s.kd with
  | .con => 0
  | .ver => 1
  | .fix => 8 + s.o
  | .lin => 31 + s.co.length
abbrev sgB (w : Nat) (v : Int) : List Bool := valB ⟨true, w⟩ v
theorem sgB_eq (w : Nat) (v : Int) : sgB w v = bitsN w (v % 2 ^ w).toNat := by unfold sgB valB; rw [if_pos rfl]
theorem sgB_len (w : Nat) (v : Int) : (sgB w v).length = w := by rw [sgB_eq, bitsN_len]
theorem sgs_len (w : Nat) : ∀ vs : List Int, (vs.flatMap (sgB w)).length = vs.length * w
  | [] => by simp
  | v :: vs => by rw [List.flatMap_cons, List.length_append, sgs_len w vs, sgB_len, List.length_cons, Nat.succ_mul, Nat.add_comm]
def waS (lo : Nat) : List Bool := if lo = 0 then bitsN 1 0 else bitsN 1 1 ++ (List.replicate (lo - 1) false ++ [true])
def hdS (s : Sf) : List Bool := (bitsN 1 0 ++ bitsN 6 (kcode s)) ++ waS s.lo
def linB (s : Sf) : List Bool := if s.kd = .lin then (bitsN 4 (s.pr - 1) ++ sgB 5 (s.sh : Int)) ++ s.co.flatMap (sgB s.pr) else []
def prdB (s : Sf) (w : Nat) (vs : List Int) : List Bool := ((vs.take (ordS s)).flatMap (sgB w) ++ linB s) ++ planB s.m s.n s.cds (resS s vs) (ordS s) (vs.length / 2 ^ s.n) (2 ^ s.n)
def bodS (s : Sf) (w : Nat) (vs : List Int) : List Bool := match s.kd with
  | .con => sgB w (gi vs 0)
  | .ver => vs.flatMap (sgB w)
  | _ => prdB s w vs
def sfB (D : Nat) (s : Sf) (xs : List Int) : List Bool := hdS s ++ bodS s (D - s.lo) (vls s xs)
theorem waS_len (lo : Nat) : (waS lo).length = lo + 1 := by
  unfold waS
  split
  · rename_i h; rw [h]; rfl
  · rw [List.length_append, List.length_append, List.length_replicate, bitsN_len]
    show 1 + (lo - 1 + 1) = _
    omega
theorem hdS_len (s : Sf) : (hdS s).length = 8 + s.lo := by
  unfold hdS
  rw [List.length_append, List.length_append, bitsN_len, bitsN_len, waS_len]
  omega
/-- a plan fits the residuals -/
structure okPl (s : Sf) (vs : List Int) : Prop where
  m1 : s.m ≤ 1
  n15 : s.n ≤ 15
  cl : s.cds.length = 2 ^ s.n
  dv : vs.length = vs.length / 2 ^ s.n * 2 ^ s.n
  ow : ordS s < vs.length / 2 ^ s.n
  cd : ∀ c ∈ s.cds, cdOk s.m c
  vl : ∀ i, i < 2 ^ s.n → ∀ v ∈ partL (resS s vs) (ordS s) (vs.length / 2 ^ s.n) i, valW (s.cds.getD i ⟨false, 0⟩) v
structure okSf (D : Nat) (s : Sf) (xs : List Int) : Prop where
  lo : s.lo < D
  d33 : D ≤ 33
  l1 : 1 ≤ xs.length
  l2 : xs.length ≤ 5000
  dv : ∀ x ∈ xs, x % 2 ^ s.lo = 0
  ft : ∀ v ∈ vls s xs, fitR (D - s.lo) v = true
  con : s.kd = .con → ∀ v ∈ vls s xs, v = gi (vls s xs) 0
  np : prd s.kd = false → s.o = 0 ∧ s.pr = 0 ∧ s.sh = 0 ∧ s.co = []
  fx : s.kd = .fix → s.o ≤ 4 ∧ s.pr = 0 ∧ s.sh = 0 ∧ s.co = []
  ln : s.kd = .lin → s.o = s.co.length ∧ 1 ≤ s.co.length ∧ s.co.length ≤ 32 ∧ 1 ≤ s.pr ∧ s.pr ≤ 15 ∧ s.sh ≤ 15 ∧ ∀ c ∈ s.co, fitR s.pr c = true
  pl : prd s.kd = true → okPl s (vls s xs)
  bl : (sfB D s xs).length ≤ 40000
theorem vls_len (s : Sf) (xs : List Int) : (vls s xs).length = xs.length := List.length_map ..
theorem fitR_bd {n : Nat} {v : Int} (hn : n ≤ 60) (h : fitR n v = true) : -(2 ^ 60) < v ∧ v < 2 ^ 60 := by
  unfold fitR at h
  split at h
  · have := of_decide_eq_true h
    omega
  · rw [Bool.and_eq_true] at h
    have h1 := of_decide_eq_true h.1
    have h2 := of_decide_eq_true h.2
    have : 2 ^ (n - 1) ≤ 2 ^ 59 := Nat.pow_le_pow_right (by decide) (by omega)
    omega
theorem okSf.bd {D : Nat} {s : Sf} {xs : List Int} (h : okSf D s xs) (hk : s.kd = .lin) : Bd s.co := fun c hc => fitR_bd (by have := (h.ln hk).2.2.2.2.1; omega) ((h.ln hk).2.2.2.2.2.2 c hc)
theorem resS_len {s : Sf} (vs : List Int) : (resS s vs).length = vs.length - ordS s := by
  unfold resS ordS
  split
  · exact lres_len _ _ _
  · exact FX.diffsN_len _ _

/-! ### the class -/
def sp_sinit (C : Addr) : Sp := fun vs H Q _ => ∃ (a dx : Addr) (x0 x1 x2 x3 x4 x5 x6 : V), vs = [.ref a, x0, x1, x2, x3, x4, x5, x6] ∧ H a = some (.ins C dx []) ∧ ∀ H', FrO a H H' → H' a = some (.ins C dx (fsS x0 x1 x2 x3 x4 x5 x6)) → Q .non H'
theorem ok_Subframe_init (T : TX K mg) : FnOk P w K mg base CX0 1 T.a_Subframe_init T.d_Subframe_init ["self", "kind", "order", "precision", "shift", "coefficients", "plan", "wasted"] (sp_sinit T.C_Subframe) := by
  refine T.F_Subframe_init.ok sc_Subframe_init (fun vs H Q E h => by obtain ⟨a, dx, x0, x1, x2, x3, x4, x5, x6, rfl, _⟩ := h; rfl) (fun cdv A outer s H vs Q E hr h => ?_)
  obtain ⟨a, dx, x0, x1, x2, x3, x4, x5, x6, rfl, ha, k⟩ := h
  refine ⟨_, (pss_cons (ps_fld (pv 0) (pv 1) rfl)
      (pss_cons (ps_fld (pv 0) (pv 2) rfl)
      (pss_cons (ps_fld (pv 0) (pv 3) rfl)
      (pss_cons (ps_fld (pv 0) (pv 4) rfl)
      (pss_cons (ps_fld (pv 0) (pv 5) rfl)
      (pss_cons (ps_fld (pv 0) (pv 6) rfl)
      (pss_one (ps_fld (pv 0) (pv 7) rfl)))))))), ?_⟩
  refine q_fld T.cl_Subframe T.n_Subframe_kind (v := x0) (ev_var rfl) (ev_var rfl) ha (by decide) fun H1 e1 => ?_
  refine q_fld T.cl_Subframe T.n_Subframe_order (v := x1) (ev_var rfl) (ev_var rfl) upd_same (Nat.le_of_ble_eq_true rfl) fun H2 e2 => ?_
  refine q_fld T.cl_Subframe T.n_Subframe_precision (v := x2) (ev_var rfl) (ev_var rfl) upd_same (Nat.le_of_ble_eq_true rfl) fun H3 e3 => ?_
  refine q_fld T.cl_Subframe T.n_Subframe_shift (v := x3) (ev_var rfl) (ev_var rfl) upd_same (Nat.le_of_ble_eq_true rfl) fun H4 e4 => ?_
  refine q_fld T.cl_Subframe T.n_Subframe_coefficients (v := x4) (ev_var rfl) (ev_var rfl) upd_same (Nat.le_of_ble_eq_true rfl) fun H5 e5 => ?_
  refine q_fld T.cl_Subframe T.n_Subframe_plan (v := x5) (ev_var rfl) (ev_var rfl) upd_same (Nat.le_of_ble_eq_true rfl) fun H6 e6 => ?_
  refine s_fld T.cl_Subframe T.n_Subframe_wasted (v := x6) (ev_var rfl) (ev_var rfl) upd_same (Nat.le_of_ble_eq_true rfl) fun H7 e7 => ?_
  exact k _ (((((((FrO.ex (a := a) e1).upd.trans (FrO.ex e2)).upd.trans (FrO.ex e3)).upd.trans (FrO.ex e4)).upd.trans (FrO.ex e5)).upd.trans (FrO.ex e6)).upd.trans (FrO.ex e7)).upd upd_same
def planV (s : Sf) : PyData := if prd s.kd then planD s.m s.n s.cds else .none
theorem dp_planV {H : Hp} {s : Sf} {x : V} (h : PlAt H s x) : Dp K H x (planV s) := by
  unfold PlAt at h
  unfold planV
  split
  · rename_i hp
    rw [if_pos hp] at h
    obtain ⟨t, tc, qs, rfl, ht, hc⟩ := h
    exact dp_plan ht hc
  · rename_i hp
    rw [if_neg hp] at h
    rw [h]
    exact .non
theorem kd_lin (k : Kd) : decide (V.str (kdS k) = V.str "linear") = decide (k = .lin) := by cases k <;> decide
theorem kd_con (k : Kd) : decide (V.str (kdS k) = V.str "constant") = decide (k = .con) := by cases k <;> decide
theorem kd_ver (k : Kd) : decide (V.str (kdS k) = V.str "verbatim") = decide (k = .ver) := by cases k <;> decide
theorem kd_fix (k : Kd) : decide (V.str (kdS k) = V.str "fixed") = decide (k = .fix) := by cases k <;> decide
theorem ev_kdq {σ : L2.St} {H : Hp} {te : TE} {k : Kd} (x : Str) (b : Bool) (h : Ev te σ H (.str (kdS k))) (hx : decide (V.str (kdS k) = V.str x) = b) : EvT (tTest (tOp rEq te (tC (.str x)))) σ H b := et_test (Ev.is (ev_eq h ev_c rfl) (congrArg V.bl hx))
def sp_warm (K : PySem.W.Frag) (C : Addr) : Sp := fun vs H Q _ => ∃ (p : Addr) (s : Sf), vs = [.ref p] ∧ SfAt K C H p s ∧ RetV (.int (ordS s : Int)) H Q
theorem ok_warm_up_length (T : TX K mg) : FnOk P w K mg base CX0 1 T.a_warm_up_length T.d_warm_up_length ["subframe"] (sp_warm K T.C_Subframe) := by
  refine T.F_warm_up_length.ok sc_warm_up_length (fun vs H Q E h => by obtain ⟨p, s, rfl, _⟩ := h; rfl) (fun cdv A outer s0 H vs Q E hr h => ?_)
  obtain ⟨p, s, rfl, ⟨dx, tc, x, hp, hc, hpl⟩, k⟩ := h
  refine ⟨_, (pss_cons (ps_if (pt_cmpR op_eq (pe_fld (pv 0) rfl) pe_str (nomark _)) (pss_one (ps_ret (pe_callB (r := rLenS K) call_len_seq (by rfl) T.m_len PySem.boot_len (pa_cons (pe_fld (pv 0) rfl) pa_nil)))) pss_nil)
      (pss_one (ps_ret (pe_fld (pv 0) rfl)))), ?_⟩
  refine q_when (b := decide (s.kd = .lin)) (ev_kdq "linear" _ (ev_fld T.cl_Subframe T.n_Subframe_kind (v := .str (kdS s.kd)) (ev_var rfl) hp rfl) (kd_lin _)) (fun hb H1 e1 => ?_) (fun hb H1 e1 => ?_)
  · refine s_ret (v := .int (s.co.length : Int)) (Ev.is (ev_lenT (Ev.p (ev_fld T.cl_Subframe T.n_Subframe_coefficients (v := .ref tc) (ev_var rfl) (e1 _ _ hp) rfl) (ex_t e1 hc))) (by rw [List.length_map])) fun H2 e2 => ret_eq k (e1.trans e2) ?_
    unfold ordS
    rw [if_pos (of_decide_eq_true hb)]
  · refine s_ret (v := .int (s.o : Int)) (ev_fld T.cl_Subframe T.n_Subframe_order (ev_var rfl) (e1 _ _ hp) rfl) fun H2 e2 => ret_eq k (e1.trans e2) ?_
    unfold ordS
    rw [if_neg (of_decide_eq_false hb)]
theorem ev_warm {CS p : Addr} {s : Sf} {σ : L2.St} {H : Hp} {te : TE} {E : XK} (h : Ev te σ H (.ref p)) (hs : SfAt K CS H p s) : Ev (tCall (sp_warm K CS) [] E (tCons te tNil)) σ H (.int (ordS s : Int)) :=
  ev_call (ea_cons h ea_nil) fun H1 e Q q _ => ⟨p, s, rfl, hs.ex e, q⟩
def sp_sres (K : PySem.W.Frag) (C : Addr) : Sp := fun vs H Q _ => ∃ (q p : Addr) (s : Sf) (vl : List Int), vs = [.ref q, .ref p] ∧ SfAt K C H p s ∧ H q = some (.lst (vl.map V.int)) ∧ vl.length ≤ 10000 ∧ (s.kd = .lin → s.co.length ≤ vl.length ∧ s.co.length ≤ 1000 ∧ Bd s.co) ∧ (s.kd ≠ .lin → s.o ≤ 1000) ∧ RetL ((resS s vl).map V.int) H Q
theorem ok_residuals (T : TX K mg) : FnOk P w K mg base CX0 3 T.a_residuals T.d_residuals ["values", "subframe"] (sp_sres K T.C_Subframe) := by
  refine T.F_residuals.ok sc_residuals (fun vs H Q E h => by obtain ⟨q, p, s, vl, rfl, _⟩ := h; rfl) (fun cdv A outer s0 H vs Q E hr h => ?_)
  obtain ⟨q, p, s, vl, rfl, ⟨dx, tc, x, hp, hc, hpl⟩, hq, hl, h1, h2, k⟩ := h
  refine ⟨_, (pss_cons (ps_if (pt_cmpR op_eq (pe_fld (pv 1) rfl) pe_str (nomark _)) (pss_one (ps_ret (pe_call (ok_linear_residuals T) (hr.mono (by decide)) (by rfl) T.g_linear_residuals T.F_linear_residuals.kp T.b_linear_residuals .nil pass0 (pa_cons (pv 0) (pa_cons (pe_fld (pv 1) rfl) (pa_cons (pe_fld (pv 1) rfl) pa_nil)))))) pss_nil)
      (pss_one (ps_ret (pe_call (ok_fixed_residuals T) (hr.mono (by decide)) (by rfl) T.g_fixed_residuals T.F_fixed_residuals.kp T.b_fixed_residuals .nil pass0 (pa_cons (pv 0) (pa_cons (pe_fld (pv 1) rfl) pa_nil)))))), ?_⟩
  refine q_when (b := decide (s.kd = .lin)) (ev_kdq "linear" _ (ev_fld T.cl_Subframe T.n_Subframe_kind (v := .str (kdS s.kd)) (ev_var rfl) hp rfl) (kd_lin _)) (fun hb G e1 => ?_) (fun hb G e1 => ?_)
  · have hb := of_decide_eq_true hb
    obtain ⟨c1, c2, c3⟩ := h1 hb
    refine s_retL (xs := (lres s.co s.sh vl).map V.int) (el_linres (Ev.s (ev_var rfl) (sq_of (e1 _ _ hq))) (Ev.p (ev_fld T.cl_Subframe T.n_Subframe_coefficients (v := .ref tc) (ev_var rfl) (e1 _ _ hp) rfl) (ex_t e1 hc)) (ev_fld T.cl_Subframe T.n_Subframe_shift (v := .int (s.sh : Int)) (ev_var rfl) (e1 _ _ hp) rfl) c1 hl c2 c3) fun r G2 hr2 e2 g2 => ?_
    have e : resS s vl = lres s.co s.sh vl := by unfold resS; rw [if_pos hb]
    rw [e] at k
    exact k r G2 (fresh_back e1 hr2) (e1.trans e2) g2
  · have hb := of_decide_eq_false hb
    refine s_retL (xs := (FX.diffsN s.o vl).map V.int) (FX.el_fixres (Ev.s (ev_var rfl) (sq_of (e1 _ _ hq))) (ev_fld T.cl_Subframe T.n_Subframe_order (v := .int (s.o : Int)) (ev_var rfl) (e1 _ _ hp) rfl) hl (h2 hb)) fun r G2 hr2 e2 g2 => ?_
    have e : resS s vl = FX.diffsN s.o vl := by unfold resS; rw [if_neg hb]
    rw [e] at k
    exact k r G2 (fresh_back e1 hr2) (e1.trans e2) g2
def sp_kcode (K : PySem.W.Frag) (C : Addr) : Sp := fun vs H Q _ => ∃ (p : Addr) (s : Sf), vs = [.ref p] ∧ SfAt K C H p s ∧ RetV (.int (kcode s : Int)) H Q
theorem ok_kind_code (T : TX K mg) : FnOk P w K mg base CX0 2 T.a_kind_code T.d_kind_code ["subframe"] (sp_kcode K T.C_Subframe) := by
  refine T.F_kind_code.ok sc_kind_code (fun vs H Q E h => by obtain ⟨p, s, rfl, _⟩ := h; rfl) (fun cdv A outer s0 H vs Q E hr h => ?_)
  obtain ⟨p, s, rfl, hs, k⟩ := h
  obtain ⟨dx, tc, x, hp, hc, hpl⟩ := id hs
  refine ⟨_, (pss_cons (ps_if (pt_cmpR op_eq (pe_fld (pv 0) rfl) pe_str (nomark _)) (pss_one (ps_ret pe_int)) pss_nil)
      (pss_cons (ps_if (pt_cmpR op_eq (pe_fld (pv 0) rfl) pe_str (nomark _)) (pss_one (ps_ret pe_int)) pss_nil)
      (pss_cons (ps_if (pt_cmpR op_eq (pe_fld (pv 0) rfl) pe_str (nomark _)) (pss_one (ps_ret (pe_op op_add pe_int (pe_call (ok_warm_up_length T) (hr.mono (by decide)) (by rfl) T.g_warm_up_length T.F_warm_up_length.kp T.b_warm_up_length .nil pass0 (pa_cons (pv 0) pa_nil))))) pss_nil)
      (pss_one (ps_ret (pe_op op_add pe_int (pe_call (ok_warm_up_length T) (hr.mono (by decide)) (by rfl) T.g_warm_up_length T.F_warm_up_length.kp T.b_warm_up_length .nil pass0 (pa_cons (pv 0) pa_nil)))))))), ?_⟩
  have kdv : ∀ {H1 : Hp}, Ex H H1 → Ev (tFld K (tVar 0) "kind") [some (.ref p)] H1 (.str (kdS s.kd)) := fun e => ev_fld T.cl_Subframe T.n_Subframe_kind (ev_var rfl) (e _ _ hp) rfl
  refine q_when (b := decide (s.kd = .con)) (ev_kdq "constant" _ (kdv (Ex.refl _)) (kd_con _)) (fun hb H1 e1 => ?_) (fun b1 H1 e1 => ?_)
  · exact s_ret (v := .int 0) ev_c fun H2 e2 => ret_eq k (e1.trans e2) (by unfold kcode; rw [of_decide_eq_true hb]; rfl)
  refine q_when (b := decide (s.kd = .ver)) (ev_kdq "verbatim" _ (kdv e1) (kd_ver _)) (fun hb H2 e2 => ?_) (fun b2 H2 e2 => ?_)
  · exact s_ret (v := .int 1) ev_c fun H3 e3 => ret_eq k (e1.trans (e2.trans e3)) (by unfold kcode; rw [of_decide_eq_true hb]; rfl)
  have e12 := e1.trans e2
  refine q_when (b := decide (s.kd = .fix)) (ev_kdq "fixed" _ (kdv e12) (kd_fix _)) (fun hb H3 e3 => ?_) (fun b3 H3 e3 => ?_)
  · have hb := of_decide_eq_true hb
    refine s_ret (ev_I0 (g := fun i j => .int (i + j)) ev_c (ev_warm (ev_var rfl) (hs.ex (e12.trans e3)))) fun H4 e4 => ret_eq k (e12.trans (e3.trans e4)) ?_
    unfold kcode ordS
    rw [hb, if_neg (by decide)]
    show V.int (8 + (s.o : Int)) = V.int ((8 + s.o : Nat) : Int)
    congr 1
  · have hb : s.kd = .lin := by
      have c1 := of_decide_eq_false b1
      have c2 := of_decide_eq_false b2
      have c3 := of_decide_eq_false b3
      cases h : s.kd with
      | con => exact absurd h c1
      | ver => exact absurd h c2
      | fix => exact absurd h c3
      | lin => rfl
    refine s_ret (ev_I0 (g := fun i j => .int (i + j)) ev_c (ev_warm (ev_var rfl) (hs.ex (e12.trans e3)))) fun H4 e4 => ret_eq k (e12.trans (e3.trans e4)) ?_
    unfold kcode ordS
    rw [hb, if_pos rfl]
    show V.int (31 + (s.co.length : Int)) = V.int ((31 + s.co.length : Nat) : Int)
    congr 1

/-! ### arguments some of which are new objects -/
def EvAP (t : TA) (σ : L2.St) (H : Hp) (R : List V → Hp → Prop) : Prop := ∀ H1, Ex H H1 → ∀ Q : List V → Hp → Prop, (∀ vs H2, Ex H1 H2 → R vs H2 → Q vs H2) → t σ H1 Q
section
variable {K : PySem.W.Frag} {σ : L2.St} {H : Hp} {te : TE} {tr t : TA} {x : V} {xs : List V} {R : List V → Hp → Prop} {C : Addr} {sp : Sp} {dvs : List V} {E : XK} {S : Addr → Hp → Prop} {D : Ends} {tz : TS} {i : Nat}
theorem ap_nil : EvAP tNil σ H fun vs _ => vs = [] := fun H1 _ _ q => q [] H1 (Ex.refl H1) rfl
theorem ap_ev (h : Ev te σ H x) (hr : EvAP tr σ H R) : EvAP (tCons te tr) σ H fun vs G => ∃ r, vs = x :: r ∧ R r G := fun H1 e Q q =>
  h H1 e _ fun H2 e2 => hr H2 (e.trans e2) _ fun vs H3 e3 hR => q (x :: vs) H3 (e2.trans e3) ⟨vs, rfl, hR⟩
theorem ap_l (h : EvL te σ H xs) (hr : EvAP tr σ H R) : EvAP (tCons te tr) σ H fun vs G => ∃ p r, vs = .ref p :: r ∧ H p = none ∧ G p = some (.lst xs) ∧ R r G := fun H1 e Q q =>
  h H1 e _ fun p H2 hp e2 g => hr H2 (e.trans e2) _ fun vs H3 e3 hR => q (.ref p :: vs) H3 (e2.trans e3) ⟨p, vs, rfl, fresh_back e hp, e3 _ _ g, hR⟩
theorem ap_u (h : EvU te σ H xs) (hr : EvAP tr σ H R) : EvAP (tCons te tr) σ H fun vs G => ∃ p r, vs = .ref p :: r ∧ H p = none ∧ G p = some (.tup xs) ∧ R r G := fun H1 e Q q =>
  h H1 e _ fun p H2 hp e2 g => hr H2 (e.trans e2) _ fun vs H3 e3 hR => q (.ref p :: vs) H3 (e2.trans e3) ⟨p, vs, rfl, fresh_back e hp, e3 _ _ g, hR⟩
theorem s_retAP (h : EvAP t σ H R) (k : ∀ vs H1, Ex H H1 → R vs H1 → sp (vs ++ dvs) H1 D.rt E) : tRet (tCall sp dvs E t) D σ H := h H (Ex.refl H) _ fun vs H1 e hR => k vs H1 e hR
end

-- SUB2
/-! ### a subframe written -/
theorem s_wr {C a L : Addr} {ms : List Bool} {w v : Nat} {wi : Int} {σ : L2.St} {H : Hp} {to tv : TE} {E : XK} {D : Ends} (h : Ev to σ H (.ref a)) (hW : WrAt C H a L ms) (hwi : wi = (w : Int)) (hv : Ev tv σ H (.int (v : Int))) (hvw : v < 2 ^ w) (hw : w ≤ 64) (hl : ms.length ≤ 200000) (k : ∀ H1, Fr a L H H1 → WrAt C H1 a L (ms ++ bitsN w v) → D.nx σ H1) : tDrop (tMeth C "write" (sp_wwrite C) [] E to (tCons (tC (.int wi)) (tCons tv tNil))) D σ H := by
  obtain ⟨dx, ws, hd, nn, ha, _⟩ := hW.len
  refine s_dropM (vs := [.int (w : Int), .int (v : Int)]) h ha rfl (ea_cons (Ev.is ev_c (congrArg V.int hwi)) (ea_cons hv ea_nil)) fun H1 e1 => ⟨a, L, ms, w, (v : Int), rfl, hW.ex e1, by omega, by omega, fun H2 hF hW2 => ?_⟩
  rw [self_mod hvw] at hW2
  exact k H2 ((Fr.ex e1).trans hF) hW2
def sp_shead (K : PySem.W.Frag) (C CS : Addr) : Sp := fun vs H Q _ => ∃ (a L p : Addr) (ms : List Bool) (s : Sf), vs = [.ref a, .ref p] ∧ WrAt C H a L ms ∧ SfAt K CS H p s ∧ kcode s < 64 ∧ s.lo ≤ 100 ∧ ms.length ≤ 150000 ∧ ∀ H', Fr a L H H' → WrAt C H' a L (ms ++ hdS s) → Q .non H'
theorem ok_write_header (T : TX K mg) : FnOk P w K mg base CX0 3 T.a_write_header T.d_write_header ["writer", "subframe"] (sp_shead K T.C_BitWriter T.C_Subframe) := by
  refine T.F_write_header.ok sc_write_header (fun vs H Q E h => by obtain ⟨a, L, p, ms, s, rfl, _⟩ := h; rfl) (fun cdv A outer s0 H vs Q E hr h => ?_)
  obtain ⟨a, L, p, ms, s, rfl, hW, hs, hk, hlo, hl, k⟩ := h
  refine ⟨_, (pss_cons (ps_expr (pe_meth (pv 0) T.cl_BitWriter T.me_BitWriter_write (ok_BitWriter_write T) (hr.mono (by decide)) T.b_BitWriter_write .nil pass0 (pa_cons pe_int (pa_cons pe_int pa_nil))))
      (pss_cons (ps_expr (pe_meth (pv 0) T.cl_BitWriter T.me_BitWriter_write (ok_BitWriter_write T) (hr.mono (by decide)) T.b_BitWriter_write .nil pass0 (pa_cons pe_int (pa_cons (pe_call (ok_kind_code T) (hr.mono (by decide)) (by rfl) T.g_kind_code T.F_kind_code.kp T.b_kind_code .nil pass0 (pa_cons (pv 1) pa_nil)) pa_nil))))
      (pss_one (ps_if (pt_cmpR op_eq (pe_fld (pv 1) rfl) pe_int (nomark _)) (pss_one (ps_expr (pe_meth (pv 0) T.cl_BitWriter T.me_BitWriter_write (ok_BitWriter_write T) (hr.mono (by decide)) T.b_BitWriter_write .nil pass0 (pa_cons pe_int (pa_cons pe_int pa_nil))))) (pss_cons (ps_expr (pe_meth (pv 0) T.cl_BitWriter T.me_BitWriter_write (ok_BitWriter_write T) (hr.mono (by decide)) T.b_BitWriter_write .nil pass0 (pa_cons pe_int (pa_cons pe_int pa_nil))))
        (pss_one (ps_expr (pe_meth (pv 0) T.cl_BitWriter T.me_BitWriter_write_unary (ok_BitWriter_write_unary T) (hr.mono (by decide)) T.b_BitWriter_write_unary .nil pass0 (pa_cons (pe_op op_sub (pe_fld (pv 1) rfl) pe_int) pa_nil))))))))), ?_⟩
  refine q_wr (w := 1) (v := 0) (ev_var rfl) hW rfl ev_c (by decide) (by decide) (by omega) fun H1 F1 hW1 => ?_
  have hs1 := hs.fr hW F1
  refine q_wr (w := 6) (v := kcode s) (ev_var rfl) hW1 rfl (ev_call (ea_cons (ev_var rfl) ea_nil) fun G e Q2 q2 _ => ⟨p, s, rfl, hs1.ex e, q2⟩) hk (by decide) (by rw [List.length_append, bitsN_len]; omega) fun H2 F2 hW2 => ?_
  have hs2 := hs1.fr hW1 F2
  obtain ⟨dx, tc, x, hp, _⟩ := id hs2
  rw [List.append_assoc] at hW2
  have F02 := F1.trans F2
  have hml : (ms ++ (bitsN 1 0 ++ bitsN 6 (kcode s))).length = ms.length + 7 := by rw [List.length_append, List.length_append, bitsN_len, bitsN_len]
  have fin : ∀ H', Fr a L H2 H' → WrAt T.C_BitWriter H' a L ((ms ++ (bitsN 1 0 ++ bitsN 6 (kcode s))) ++ waS s.lo) → Q .non H' := fun H' F h => k H' (F02.trans F) (by unfold hdS; rw [← List.append_assoc]; exact h)
  refine s_if (b := decide (s.lo = 0)) (et_test (Ev.is (ev_eq (ev_fld T.cl_Subframe T.n_Subframe_wasted (v := .int (s.lo : Int)) (ev_var rfl) hp rfl) ev_c rfl) (congrArg V.bl (decide_eq_decide.mpr ⟨fun h => by have := V.int.inj h; omega, fun h => by rw [h]; rfl⟩)))) (fun hb H3 e3 => ?_) (fun hb H3 e3 => ?_)
  · have hb := of_decide_eq_true hb
    refine s_wr (w := 1) (v := 0) (ev_var rfl) (hW2.ex e3) rfl ev_c (by decide) (by decide) (by omega) fun H4 F4 hW4 => fin H4 ((Fr.ex e3).trans F4) ?_
    unfold waS
    rw [if_pos hb]
    exact hW4
  · have hb := of_decide_eq_false hb
    refine q_wr (w := 1) (v := 1) (ev_var rfl) (hW2.ex e3) rfl ev_c (by decide) (by decide) (by omega) fun H4 F4 hW4 => ?_
    have F04 := (Fr.ex e3).trans F4
    obtain ⟨dx4, tc4, x4, hp4, _⟩ := hs2.fr hW2 F04
    obtain ⟨dw, ws, hd, nn, ha4, _⟩ := hW4.len
    refine s_dropM (vs := [.int ((s.lo - 1 : Nat) : Int)]) (ev_var rfl) ha4 rfl (ea_cons (Ev.is (ev_I0 (g := fun i j => .int (i - j)) (ev_fld T.cl_Subframe T.n_Subframe_wasted (v := .int (s.lo : Int)) (ev_var rfl) hp4 rfl) ev_c) (congrArg V.int (by omega))) ea_nil) fun H5 e5 => ⟨a, L, _, s.lo - 1, rfl, hW4.ex e5, by rw [List.length_append, hml, bitsN_len]; omega, fun H6 F6 hW6 => fin H6 ((F04.trans (Fr.ex e5)).trans F6) ?_⟩
    unfold waS
    rw [if_neg hb, ← List.append_assoc]
    exact hW6
def sp_wvals (K : PySem.W.Frag) (C : Addr) : Sp := fun vs H Q _ => ∃ (a L q : Addr) (ms : List Bool) (wd : Nat) (xs : List Int), vs = [.ref a, .int (wd : Int), .ref q] ∧ WrAt C H a L ms ∧ ((H q = some (.lst (xs.map V.int)) ∧ q ≠ L) ∨ SqT K H q (xs.map V.int)) ∧ wd ≤ 64 ∧ ms.length + xs.length * wd ≤ 200000 ∧ ∀ H', Fr a L H H' → WrAt C H' a L (ms ++ xs.flatMap (sgB wd)) → Q .non H'
theorem ok_write_values (T : TX K mg) : FnOk P w K mg base CX0 3 T.a_write_values T.d_write_values ["writer", "width", "values"] (sp_wvals K T.C_BitWriter) := by
  refine T.F_write_values.ok sc_write_values (fun vs H Q E h => by obtain ⟨a, L, q, ms, wd, xs, rfl, _⟩ := h; rfl) (fun cdv A outer s0 H vs Q E hr h => ?_)
  obtain ⟨a, L, q, ms, wd, xs, rfl, hW, hq, hwd, hl, k⟩ := h
  obtain ⟨Pv, hPv⟩ : ∃ Pv : Nat → L2.St → Hp → Prop, Pv = fun j σ' H' => ∃ z : Option V, σ' = [some (.ref a), some (.int (wd : Int)), some (.ref q), z] ∧ Fr a L H H' ∧ WrAt T.C_BitWriter H' a L (ms ++ (xs.take j).flatMap (sgB wd)) := ⟨_, rfl⟩
  have h0 : ∀ H1, Ex H H1 → Pv 0 [some (.ref a), some (.int (wd : Int)), some (.ref q), none] H1 := fun H1 e1 => by
    rw [hPv]
    exact ⟨none, rfl, Fr.ex e1, by rw [List.take_zero, List.flatMap_nil, List.append_nil]; exact hW.ex e1⟩
  have hd : ∀ σ' H', Pv (xs.map V.int).length σ' H' → Q .non H' := fun σ' H' h => by
    rw [hPv] at h
    obtain ⟨z, _, hF, hW2⟩ := h
    rw [List.length_map, List.take_length] at hW2
    exact k H' hF hW2
  have st : ∀ (j : Nat) (x : V) (σ' : L2.St) (H' : Hp) (E1 : XK) (D : Ends), D.nx = Pv (j + 1) → (xs.map V.int)[j]? = some x → Pv j σ' H' → tDrop (tMeth T.C_BitWriter "write_signed" (sp_wwrite T.C_BitWriter) [] E1 (tVar 0) (tCons (tVar 1) (tCons (tVar 3) tNil))) D (σ'.set 3 (some x)) H' := fun j x σ' H' E1 D hD hx h => by
    rw [hPv] at h
    obtain ⟨z, rfl, hF, hW2⟩ := h
    obtain ⟨v, hvj, hj, rfl⟩ := int_at hx
    obtain ⟨dx, ws, hd, nn, ha, _⟩ := hW2.len
    have hfl := flat_snoc (f := sgB wd) hvj
    have hle := flat_take_le (f := sgB wd) (l := xs) (j + 1)
    rw [hfl, List.length_append, sgs_len wd xs, sgB_len] at hle
    refine s_dropM (vs := [.int (wd : Int), .int v]) (ev_var rfl) ha rfl (ea_cons (ev_var rfl) (ea_cons (ev_var rfl) ea_nil)) fun H5 e5 => ⟨a, L, _, wd, v, rfl, hW2.ex e5, by omega, by rw [List.length_append]; omega, fun H6 hF6 hW6 => ?_⟩
    rw [hD, hPv]
    refine ⟨_, rfl, (hF.trans (Fr.ex e5)).trans hF6, ?_⟩
    rw [hfl, ← List.append_assoc, sgB_eq]
    exact hW6
  rcases hq with ⟨hq, nqL⟩ | hq
  · have nqa := hW.neL hq
    refine ⟨_, (pss_one (ps_for PassesOwn.never rfl (pi_list (pv 2)) (pg_name (i := 3) sc_write_values.nd rfl (Or.inl rfl)) (pss_one (ps_expr (pe_meth (pv 0) T.cl_BitWriter T.me_BitWriter_write_signed (ok_BitWriter_write_signed T) (hr.mono (by decide)) T.b_BitWriter_write_signed .nil pass0 (pa_cons (pv 1) (pa_cons (pv 3) pa_nil))))))), ?_⟩
    exact s_forLn (K := K) (a := q) (ev_var rfl) (sq_of hq) Pv h0 (fun j σ' H' _ h => by rw [hPv] at h; obtain ⟨_, _, hF, _⟩ := h; exact sq_of (hF _ _ nqa nqL hq)) (fun j x σ' H' hx h => st j x σ' H' _ _ rfl hx h) hd
  · refine ⟨_, (pss_one (ps_for PassesOwn.never rfl (pi_tup (pv 2)) (pg_name (i := 3) sc_write_values.nd rfl (Or.inl rfl)) (pss_one (ps_expr (pe_meth (pv 0) T.cl_BitWriter T.me_BitWriter_write_signed (ok_BitWriter_write_signed T) (hr.mono (by decide)) T.b_BitWriter_write_signed .nil pass0 (pa_cons (pv 1) (pa_cons (pv 3) pa_nil))))))), ?_⟩
    exact s_forT (K := K) (a := q) (ev_var rfl) hq Pv h0 (fun j σ' H' _ h => by rw [hPv] at h; obtain ⟨_, _, hF, _⟩ := h; exact sqt_fr hW hF hq) (fun j x σ' H' hx h => st j x σ' H' _ _ rfl hx h) hd
theorem q_dropAP {σ : L2.St} {H : Hp} {t : TA} {R : List V → Hp → Prop} {sp : Sp} {dvs : List V} {E : XK} {D : Ends} {tz : TS} (h : EvAP t σ H R) (k : ∀ vs H1, Ex H H1 → R vs H1 → sp (vs ++ dvs) H1 (fun _ H2 => tz D σ H2) E) : tSeq (tDrop (tCall sp dvs E t)) tz D σ H := h H (Ex.refl H) _ fun vs H1 e hR => k vs H1 e hR
theorem s_dropAP {σ : L2.St} {H : Hp} {t : TA} {R : List V → Hp → Prop} {sp : Sp} {dvs : List V} {E : XK} {D : Ends} (h : EvAP t σ H R) (k : ∀ vs H1, Ex H H1 → R vs H1 → sp (vs ++ dvs) H1 (fun _ H2 => D.nx σ H2) E) : tDrop (tCall sp dvs E t) D σ H := h H (Ex.refl H) _ fun vs H1 e hR => k vs H1 e hR
theorem WrAt.ofL {C a L : Addr} {H : Hp} {ms : List Bool} {q : Addr} (hW : WrAt C H a L ms) (hq : H q = none) : q ≠ L := by
  obtain ⟨_, _, _, _, _, hL, _⟩ := hW
  rintro rfl
  rw [hL] at hq
  cases hq
/-- what of a subframe stands beside its plan -/
structure okLn (s : Sf) : Prop where
  p1 : s.kd = .lin → 1 ≤ s.pr ∧ s.pr ≤ 15 ∧ s.sh ≤ 15 ∧ s.co.length ≤ 32 ∧ Bd s.co
  o4 : s.kd ≠ .lin → s.o ≤ 4
def sp_wpred (K : PySem.W.Frag) (C CS : Addr) : Sp := fun vs H Q _ => ∃ (a L q p : Addr) (ms : List Bool) (wd : Nat) (s : Sf) (vl : List Int), vs = [.ref a, .int (wd : Int), .ref q, .ref p] ∧ WrAt C H a L ms ∧ SfAt K CS H p s ∧ H q = some (.lst (vl.map V.int)) ∧ q ≠ L ∧ prd s.kd = true ∧ okPl s vl ∧ okLn s ∧ wd ≤ 64 ∧ vl.length ≤ 5000 ∧ ms.length ≤ 90000 ∧ (prdB s wd vl).length ≤ 90000 ∧ ∀ H', Fr a L H H' → WrAt C H' a L (ms ++ prdB s wd vl) → Q .non H'
theorem ok_write_predicted (T : TX K mg) : FnOk P w K mg base CX0 6 T.a_write_predicted T.d_write_predicted ["writer", "width", "values", "subframe"] (sp_wpred K T.C_BitWriter T.C_Subframe) := by
  refine T.F_write_predicted.ok sc_write_predicted (fun vs H Q E h => by obtain ⟨a, L, q, p, ms, wd, s, vl, rfl, _⟩ := h; rfl) (fun cdv A outer s0 H vs Q E hr h => ?_)
  obtain ⟨a, L, q, p, ms, wd, s, vl, rfl, hW, hs, hq, nqL, hprd, hpl, hln, hwd, hvl, hml, hbl, k⟩ := h
  refine ⟨_, (pss_cons (ps_set (i := 4) sc_write_predicted.nd rfl (Or.inl rfl) (pe_call (ok_warm_up_length T) (hr.mono (by decide)) (by rfl) T.g_warm_up_length T.F_warm_up_length.kp T.b_warm_up_length .nil pass0 (pa_cons (pv 3) pa_nil)))
      (pss_cons (ps_expr (pe_call (ok_write_values T) (hr.mono (by decide)) (by rfl) T.g_write_values T.F_write_values.kp T.b_write_values .nil pass0 (pa_cons (pv 0) (pa_cons (pv 1) (pa_cons (pe_slice (r := rSlL K) sl_list (pv 2) po_none (po_some (pv 4))) pa_nil)))))
      (pss_cut (ps_if (pt_cmpR op_eq (pe_fld (pv 3) rfl) pe_str (nomark _)) (pss_cons (ps_expr (pe_meth (pv 0) T.cl_BitWriter T.me_BitWriter_write (ok_BitWriter_write T) (hr.mono (by decide)) T.b_BitWriter_write .nil pass0 (pa_cons pe_int (pa_cons (pe_op op_sub (pe_fld (pv 3) rfl) pe_int) pa_nil))))
        (pss_cons (ps_expr (pe_meth (pv 0) T.cl_BitWriter T.me_BitWriter_write_signed (ok_BitWriter_write_signed T) (hr.mono (by decide)) T.b_BitWriter_write_signed .nil pass0 (pa_cons pe_int (pa_cons (pe_fld (pv 3) rfl) pa_nil))))
        (pss_one (ps_expr (pe_call (ok_write_values T) (hr.mono (by decide)) (by rfl) T.g_write_values T.F_write_values.kp T.b_write_values .nil pass0 (pa_cons (pv 0) (pa_cons (pe_fld (pv 3) rfl) (pa_cons (pe_fld (pv 3) rfl) pa_nil)))))))) pss_nil)
      (pss_one (ps_expr (pe_call (ok_write_residuals T) (hr.mono (by decide)) (by rfl) T.g_write_residuals T.F_write_residuals.kp T.b_write_residuals .nil pass0 (pa_cons (pv 0) (pa_cons (pe_fld (pv 3) rfl) (pa_cons (pe_call (ok_residuals T) (hr.mono (by decide)) (by rfl) T.g_residuals T.F_residuals.kp T.b_residuals .nil pass0 (pa_cons (pv 2) (pa_cons (pv 3) pa_nil))) (pa_cons (pv 4) pa_nil)))))))))), ?_⟩
  have nqa := hW.neL hq
  unfold prdB at hbl
  rw [List.length_append, List.length_append, sgs_len] at hbl
  refine q_asg (v := .int (ordS s : Int)) (ev_warm (ev_var rfl) hs) fun H1 e1 => ?_
  refine q_dropAP (ap_ev (ev_var rfl) (ap_ev (ev_var rfl) (ap_l (el_to (Ev.s (ev_var rfl) (sq_of (e1 _ _ hq))) (ev_var rfl)) ap_nil))) ?_
  rintro _ H2 e2 ⟨_, rfl, _, rfl, r, _, rfl, hrn, hr2, rfl⟩
  have hW2 := hW.ex (e1.trans e2)
  refine ⟨a, L, r, ms, wd, vl.take (ordS s), rfl, hW2, .inl ⟨hr2, (hW.ex e1).ofL hrn⟩, hwd, by omega, fun H3 F3 hW3 => ?_⟩
  have hs3 := (hs.ex (e1.trans e2)).fr hW2 F3
  have F03 := (Fr.ex (e1.trans e2)).trans F3
  have hq3 := F03 _ _ nqa nqL hq
  have hl3 : (ms ++ (vl.take (ordS s)).flatMap (sgB wd)).length = ms.length + (vl.take (ordS s)).length * wd := by rw [List.length_append, sgs_len]
  show tCut _ _ _ [some (.ref a), some (.int (wd : Int)), some (.ref q), some (.ref p), some (.int (ordS s : Int))] _
  refine q_cut (M := fun σ' H' => σ' = [some (.ref a), some (.int (wd : Int)), some (.ref q), some (.ref p), some (.int (ordS s : Int))] ∧ Fr a L H H' ∧ WrAt T.C_BitWriter H' a L ((ms ++ (vl.take (ordS s)).flatMap (sgB wd)) ++ linB s) ∧ SfAt K T.C_Subframe H' p s) ?_ ?_
  · obtain ⟨dx, tc, x, hp, hc, hx⟩ := id hs3
    refine s_when (b := decide (s.kd = .lin)) (ev_kdq "linear" _ (ev_fld T.cl_Subframe T.n_Subframe_kind (v := .str (kdS s.kd)) (ev_var rfl) hp rfl) (kd_lin _)) (fun hb H4 e4 => ?_) (fun hb H4 e4 => ?_)
    · have hb := of_decide_eq_true hb
      obtain ⟨p1, p2, p3, p4, p5⟩ := hln.p1 hb
      have hlB : linB s = (bitsN 4 (s.pr - 1) ++ sgB 5 (s.sh : Int)) ++ s.co.flatMap (sgB s.pr) := by unfold linB; rw [if_pos hb]
      have hlL : (linB s).length = 9 + s.co.length * s.pr := by rw [hlB, List.length_append, List.length_append, bitsN_len, sgB_len, sgs_len]
      have hs4 := hs3.ex e4
      refine q_wr (w := 4) (v := s.pr - 1) (ev_var rfl) (hW3.ex e4) rfl (Ev.is (ev_I0 (g := fun i j => .int (i - j)) (ev_fld T.cl_Subframe T.n_Subframe_precision (v := .int (s.pr : Int)) (ev_var rfl) (e4 _ _ hp) rfl) ev_c) (congrArg V.int (by omega))) (by show _ < 16; omega) (by decide) (by omega) fun H5 F5 hW5 => ?_
      have hs5 := hs4.fr (hW3.ex e4) F5
      obtain ⟨dx5, tc5, x5, hp5, hc5, _⟩ := id hs5
      obtain ⟨dw, ws, hd, nn, ha5, _⟩ := hW5.len
      refine q_dropM (vs := [.int 5, .int (s.sh : Int)]) (ev_var rfl) ha5 rfl (ea_cons ev_c (ea_cons (ev_fld T.cl_Subframe T.n_Subframe_shift (v := .int (s.sh : Int)) (ev_var rfl) hp5 rfl) ea_nil)) fun H6 e6 => ⟨a, L, _, 5, (s.sh : Int), rfl, hW5.ex e6, by decide, by rw [List.length_append, hl3, bitsN_len]; omega, fun H7 F7 hW7 => ?_⟩
      have hs7 := (hs5.ex e6).fr (hW5.ex e6) F7
      obtain ⟨dx7, tc7, x7, hp7, hc7, _⟩ := id hs7
      have F47 := ((Fr.ex e4).trans F5).trans ((Fr.ex e6).trans F7)
      refine s_dropC (vs := [.ref a, .int (s.pr : Int), .ref tc7]) (ea_cons (ev_var rfl) (ea_cons (ev_fld T.cl_Subframe T.n_Subframe_precision (ev_var rfl) hp7 rfl) (ea_cons (ev_fld T.cl_Subframe T.n_Subframe_coefficients (ev_var rfl) hp7 rfl) ea_nil))) fun H8 e8 => ⟨a, L, tc7, _, s.pr, s.co, rfl, hW7.ex e8, .inr (ex_t e8 hc7), by omega, by rw [List.length_append, List.length_append, hl3, bitsN_len, bitsN_len]; omega, fun H9 F9 hW9 => ⟨rfl, F03.trans ((F47.trans (Fr.ex e8)).trans F9), ?_, (hs7.ex e8).fr (hW7.ex e8) F9⟩⟩
      rw [hlB, sgB_eq, ← List.append_assoc, ← List.append_assoc]
      exact hW9
    · have hb := of_decide_eq_false hb
      have hlB : linB s = [] := by unfold linB; rw [if_neg hb]
      exact ⟨rfl, F03.trans (Fr.ex e4), by rw [hlB, List.append_nil]; exact hW3.ex e4, hs3.ex e4⟩
  rintro σ' H4 ⟨rfl, F4, hW4, hs4⟩
  have hq4 := F4 _ _ nqa nqL hq
  obtain ⟨dx, tc, x, hp, hc, hx⟩ := id hs4
  unfold PlAt at hx
  rw [if_pos hprd] at hx
  obtain ⟨t, tcc, qs, rfl, ht, hcs⟩ := hx
  have ho : ordS s ≤ vl.length := by
    have h1 := hpl.ow
    have h2 := hpl.dv
    have h3 := Nat.two_pow_pos s.n
    have h4 : vl.length / 2 ^ s.n * 1 ≤ vl.length / 2 ^ s.n * 2 ^ s.n := Nat.mul_le_mul_left _ h3
    omega
  have hco : s.kd = .lin → s.co.length ≤ vl.length ∧ s.co.length ≤ 1000 ∧ Bd s.co := fun hb => by
    have e : ordS s = s.co.length := by unfold ordS; rw [if_pos hb]
    obtain ⟨_, _, _, p4, p5⟩ := hln.p1 hb
    exact ⟨by omega, by omega, p5⟩
  have hr0 := resS_len (s := s) vl
  refine s_dropAP (ap_ev (ev_var rfl) (ap_ev (ev_fld T.cl_Subframe T.n_Subframe_plan (v := .ref t) (ev_var rfl) hp rfl) (ap_l (xs := (resS s vl).map V.int) (el_call (ea_cons (ev_var rfl) (ea_cons (ev_var rfl) ea_nil)) fun G e Q2 q2 _ => ⟨q, p, s, vl, rfl, hs4.ex e, e _ _ hq4, by omega, hco, fun h => by have := hln.o4 h; omega, q2⟩) (ap_ev (ev_var rfl) ap_nil)))) ?_
  rintro _ H5 e5 ⟨_, rfl, _, rfl, r, _, rfl, hrn, hr5, _, rfl, rfl⟩
  have hW5 := hW4.ex e5
  have hl4 : ((ms ++ (vl.take (ordS s)).flatMap (sgB wd)) ++ linB s).length = ms.length + (vl.take (ordS s)).length * wd + (linB s).length := by rw [List.length_append, hl3]
  refine ⟨a, L, t, tcc, r, qs, s.cds, _, s.m, s.n, ordS s, vl.length / 2 ^ s.n, resS s vl, rfl, hW5, e5 _ _ ht, hcs.ex e5, hr5, hW4.ofL hrn, hpl.n15, hpl.m1, hpl.cl, by rw [hr0, ← hpl.dv]; omega, Nat.le_of_lt hpl.ow, by omega, hpl.cd, hpl.vl, by omega, fun H6 F6 hW6 => k H6 ((F4.trans (Fr.ex e5)).trans F6) ?_⟩
  unfold prdB
  rw [← List.append_assoc, ← List.append_assoc]
  exact hW6

-- SUB3
/-- a field in a comprehension: the reading names the block outside -/
theorem pe_fldK {X : Cx} {K : PySem.W.Frag} {e : Expr} {f : Str} {pos : Pos} {ta : TE} (he : PE X e ta) (hb : attributeBase e f X.env (eval e X.env) = eval e X.env) (hK : X.K = K) : PE X (.Attribute e f pos) (tFld K ta f) := hK ▸ pe_fld he hb
theorem okSf.k64 {D : Nat} {s : Sf} {xs : List Int} (h : okSf D s xs) : kcode s < 64 := by
  unfold kcode
  cases hk : s.kd with
  | con => exact (by decide : 0 < 64)
  | ver => exact (by decide : 1 < 64)
  | fix => have := (h.fx hk).1; show 8 + s.o < 64; omega
  | lin => have := (h.ln hk).2.2.1; show 31 + s.co.length < 64; omega
theorem okSf.okLn {D : Nat} {s : Sf} {xs : List Int} (h : okSf D s xs) : okLn s := ⟨fun hk => by
  obtain ⟨_, _, h3, h4, h5, h6, _⟩ := h.ln hk
  exact ⟨h4, h5, h6, h3, h.bd hk⟩, fun hk => by
  cases hd : s.kd with
  | con => have := (h.np (by rw [hd]; rfl)).1; omega
  | ver => have := (h.np (by rw [hd]; rfl)).1; omega
  | fix => exact (h.fx hd).1
  | lin => exact absurd hd hk⟩
theorem okSf.ordle {D : Nat} {s : Sf} {xs : List Int} (h : okSf D s xs) (hp : prd s.kd = true) : ordS s < xs.length := by
  have hpl := h.pl hp
  have h1 := hpl.ow
  have h2 := hpl.dv
  rw [vls_len] at h1 h2
  have h3 := Nat.two_pow_pos s.n
  have h4 : xs.length / 2 ^ s.n * 1 ≤ xs.length / 2 ^ s.n * 2 ^ s.n := Nat.mul_le_mul_left _ h3
  omega
theorem sfB_len (D : Nat) (s : Sf) (xs : List Int) : (sfB D s xs).length = 8 + s.lo + (bodS s (D - s.lo) (vls s xs)).length := by unfold sfB; rw [List.length_append, hdS_len]
theorem bod_prd {s : Sf} (hp : prd s.kd = true) (w : Nat) (vl : List Int) : bodS s w vl = prdB s w vl := by
  unfold bodS
  cases hk : s.kd with
  | con => rw [hk] at hp; cases hp
  | ver => rw [hk] at hp; cases hp
  | fix => rfl
  | lin => rfl
theorem prd_of {s : Sf} (h1 : s.kd ≠ .con) (h2 : s.kd ≠ .ver) : prd s.kd = true := by
  cases hk : s.kd with
  | con => exact absurd hk h1
  | ver => exact absurd hk h2
  | fix => rfl
  | lin => rfl
theorem el_vls {CS p q dx tc : Addr} {x : V} {H : Hp} {s : Sf} {xs : List Int} {σ : L2.St} {i ip : Nat} {vs : List Nat} (c : Cls K CS) (hn : NoAttr K CS "wasted") (hq : σ[i]? = some (some (.ref q))) (h : H q = some (.lst (xs.map V.int))) (hl : xs.length ≤ 5000) (hp : H p = some (.ins CS dx (fsS (.str (kdS s.kd)) (.int (s.o : Int)) (.int (s.pr : Int)) (.int (s.sh : Int)) (.ref tc) x (.int (s.lo : Int))))) {j : Nat} (hw : ∀ z : V, wipe ((wipe σ vs).set j (some z)) vs = wipe σ vs) (hj : ∀ z : V, ((wipe σ vs).set j (some z))[j]? = some (some z)) (hip : ∀ z : V, ((wipe σ vs).set j (some z))[ip]? = some (some (.ref p))) {tl : TE} (htl : tl = tVar i) :
    EvL (tLc (iList K tl) (gName j) tYes (tOp (rI (fun _ j => 0 ≤ j) fun i j => .int (i / 2 ^ j.toNat)) (tVar j) (tFld K (tVar ip) "wasted")) vs) σ H ((vls s xs).map V.int) := by
  subst htl
  refine el_lcS (K := K) (xs := xs.map V.int) _ (Ev.s (ev_var hq) (sq_of h)) (by rw [List.length_map, List.length_map, vls_len]) (by rw [List.length_map, vls_len]; omega) hw fun k z H1 e1 hz => ?_
  obtain ⟨n, hn', hk, rfl⟩ := int_at hz
  refine ⟨.int (n / 2 ^ s.lo), at_int (by unfold vls; rw [List.getElem?_map, hn']; rfl), Ev.is (ev_I (ev_var (hj _)) (ev_fld c hn (v := .int (s.lo : Int)) (ev_var (hip _)) (e1 _ _ hp) rfl) (by show (0 : Int) ≤ _; omega)) (by rw [Int.toNat_natCast])⟩
def sp_wsub (K : PySem.W.Frag) (C CS : Addr) : Sp := fun vs H Q _ => ∃ (a L q p : Addr) (ms : List Bool) (D : Nat) (s : Sf) (xs : List Int), vs = [.ref a, .int (D : Int), .ref q, .ref p] ∧ WrAt C H a L ms ∧ SfAt K CS H p s ∧ H q = some (.lst (xs.map V.int)) ∧ okSf D s xs ∧ ms.length ≤ 80000 ∧ ∀ H', Fr a L H H' → WrAt C H' a L (ms ++ sfB D s xs) → Q .non H'
theorem ok_write_subframe (T : TX K mg) : FnOk P w K mg base CX0 7 T.a_write_subframe T.d_write_subframe ["writer", "depth", "samples", "subframe"] (sp_wsub K T.C_BitWriter T.C_Subframe) := by
  refine T.F_write_subframe.ok sc_write_subframe (fun vs H Q E h => by obtain ⟨a, L, q, p, ms, D, s, xs, rfl, _⟩ := h; rfl) (fun cdv A outer s0 H vs Q E hr h => ?_)
  obtain ⟨a, L, q, p, ms, D, s, xs, rfl, hW, hs, hq, ok, hml, k⟩ := h
  refine ⟨_, (pss_cons (ps_set (i := 4) sc_write_subframe.nd rfl (Or.inl rfl) (pe_op op_sub (pv 1) (pe_fld (pv 3) rfl)))
      (pss_cons (ps_setLc (i := 5) (own := [("sample", 6)]) (g := gName 6) (tt := tYes) rfl sc_write_subframe.nd rfl rfl (sw_true rfl rfl rfl (by decide +kernel)) (pi_list (pv 2)) (blkOk_by (N := ["writer", "depth", "samples", "subframe", "width", "values", "sample"]) (sc := defScope s_write_subframe) (by decide +kernel)) (fun _ _ _ _ _ => pg_name (i := 6) sc_write_subframe.nd rfl (Or.inl rfl)) (fun _ _ _ _ _ => pts_nil) (fun _ _ _ _ _ => (pe_op op_shr (pv 6) (pe_fldK (K:=K) (pv 3) rfl rfl))))
      (pss_cons (ps_expr (pe_call (ok_write_header T) (hr.mono (by decide)) (by rfl) T.g_write_header T.F_write_header.kp T.b_write_header .nil pass0 (pa_cons (pv 0) (pa_cons (pv 3) pa_nil))))
      (pss_one (ps_if (pt_cmpR op_eq (pe_fld (pv 3) rfl) pe_str (nomark _)) (pss_one (ps_expr (pe_meth (pv 0) T.cl_BitWriter T.me_BitWriter_write_signed (ok_BitWriter_write_signed T) (hr.mono (by decide)) T.b_BitWriter_write_signed .nil pass0 (pa_cons (pv 4) (pa_cons (pe_ix (r := rIxL K) ix_list (pv 5) pe_int (fun _ _ => rfl)) pa_nil))))) (pss_one (ps_if (pt_cmpR op_eq (pe_fld (pv 3) rfl) pe_str (nomark _)) (pss_one (ps_expr (pe_call (ok_write_values T) (hr.mono (by decide)) (by rfl) T.g_write_values T.F_write_values.kp T.b_write_values .nil pass0 (pa_cons (pv 0) (pa_cons (pv 4) (pa_cons (pv 5) pa_nil)))))) (pss_one (ps_expr (pe_call (ok_write_predicted T) (hr.mono (by decide)) (by rfl) T.g_write_predicted T.F_write_predicted.kp T.b_write_predicted .nil pass0 (pa_cons (pv 0) (pa_cons (pv 4) (pa_cons (pv 5) (pa_cons (pv 3) pa_nil)))))))))))))), ?_⟩
  obtain ⟨dx, tc, x, hp, hc, hx⟩ := id hs
  have hlo := ok.lo
  have hd33 := ok.d33
  have hx2 := ok.l2
  have hbl := ok.bl
  have hsl := sfB_len D s xs
  have hvl := vls_len s xs
  refine q_asg (v := .int ((D - s.lo : Nat) : Int)) (Ev.is (ev_I0 (g := fun i j => .int (i - j)) (ev_var rfl) (ev_fld T.cl_Subframe T.n_Subframe_wasted (v := .int (s.lo : Int)) (ev_var rfl) hp rfl)) (congrArg V.int (by omega))) fun H1 e1 => ?_
  refine q_asgL (xs := (vls s xs).map V.int) (el_vls (p := p) T.cl_Subframe T.n_Subframe_wasted rfl (e1 _ _ hq) hx2 (e1 _ _ hp) (fun _ => rfl) (fun _ => rfl) (fun _ => rfl) rfl) fun pv H2 hpv e2 g2 => ?_
  have e12 := e1.trans e2
  have nvL := (hW.ex e1).ofL hpv
  refine q_dropC (vs := [.ref a, .ref p]) (ea_cons (ev_var rfl) (ea_cons (ev_var rfl) ea_nil)) fun H3 e3 => ⟨a, L, p, ms, s, rfl, hW.ex (e12.trans e3), hs.ex (e12.trans e3), ok.k64, by omega, by omega, fun H4 F4 hW4 => ?_⟩
  have hs4 := (hs.ex (e12.trans e3)).fr (hW.ex (e12.trans e3)) F4
  have g4 := F4 _ _ ((hW.ex e12).neL g2) nvL (e3 _ _ g2)
  have F04 := (Fr.ex (e12.trans e3)).trans F4
  obtain ⟨dx4, tc4, x4, hp4, hc4, hx4⟩ := id hs4
  have hml4 : (ms ++ hdS s).length = ms.length + 8 + s.lo := by rw [List.length_append, hdS_len]; omega
  show tIfS _ _ _ _ [some (.ref a), some (.int (D : Int)), some (.ref q), some (.ref p), some (.int ((D - s.lo : Nat) : Int)), some (.ref pv), none] _
  have kdv : ∀ {G : Hp}, Ex H4 G → Ev (tFld K (tVar 3) "kind") [some (.ref a), some (.int (D : Int)), some (.ref q), some (.ref p), some (.int ((D - s.lo : Nat) : Int)), some (.ref pv), none] G (.str (kdS s.kd)) := fun e => ev_fld T.cl_Subframe T.n_Subframe_kind (ev_var rfl) (e _ _ hp4) rfl
  have fin : ∀ H', Fr a L H4 H' → WrAt T.C_BitWriter H' a L ((ms ++ hdS s) ++ bodS s (D - s.lo) (vls s xs)) → Q .non H' := fun H' F h => k H' (F04.trans F) (by unfold sfB; rw [← List.append_assoc]; exact h)
  refine s_if (b := decide (s.kd = .con)) (ev_kdq "constant" _ (kdv (Ex.refl _)) (kd_con _)) (fun hb H5 e5 => ?_) (fun hb1 H5 e5 => ?_)
  · have hb := of_decide_eq_true hb
    have hbo : bodS s (D - s.lo) (vls s xs) = sgB (D - s.lo) (gi (vls s xs) 0) := by unfold bodS; rw [hb]
    obtain ⟨dw, ws, hd, nn, ha5, _⟩ := (hW4.ex e5).len
    have h0 : 0 < (vls s xs).length := by have := ok.l1; omega
    refine s_dropM (vs := [.int ((D - s.lo : Nat) : Int), .int (gi (vls s xs) 0)]) (ev_var rfl) ha5 rfl (ea_cons (ev_var rfl) (ea_cons (ev_at (K := K) (n := 0) (Ev.s (ev_var rfl) (sq_of (e5 _ _ g4))) ev_c (at_of (j := 0) rfl (at_int (gi_get h0)))) ea_nil)) fun H6 e6 => ⟨a, L, _, D - s.lo, _, rfl, hW4.ex (e5.trans e6), by omega, by omega, fun H7 F7 hW7 => fin H7 ((Fr.ex (e5.trans e6)).trans F7) ?_⟩
    rw [hbo, sgB_eq]
    exact hW7
  refine s_if (b := decide (s.kd = .ver)) (ev_kdq "verbatim" _ (kdv e5) (kd_ver _)) (fun hb H6 e6 => ?_) (fun hb2 H6 e6 => ?_)
  · have hb := of_decide_eq_true hb
    have hbo : bodS s (D - s.lo) (vls s xs) = (vls s xs).flatMap (sgB (D - s.lo)) := by unfold bodS; rw [hb]
    rw [hbo, sgs_len] at hsl
    refine s_dropC (vs := [.ref a, .int ((D - s.lo : Nat) : Int), .ref pv]) (ea_cons (ev_var rfl) (ea_cons (ev_var rfl) (ea_cons (ev_var rfl) ea_nil))) fun H7 e7 => ⟨a, L, pv, _, D - s.lo, vls s xs, rfl, hW4.ex (e5.trans (e6.trans e7)), .inl ⟨(e5.trans (e6.trans e7)) _ _ g4, nvL⟩, by omega, by omega, fun H8 F8 hW8 => fin H8 ((Fr.ex (e5.trans (e6.trans e7))).trans F8) ?_⟩
    rw [hbo]
    exact hW8
  have hprd := prd_of (of_decide_eq_false hb1) (of_decide_eq_false hb2)
  have hbo := bod_prd hprd (D - s.lo) (vls s xs)
  rw [hbo] at hsl
  refine s_dropC (vs := [.ref a, .int ((D - s.lo : Nat) : Int), .ref pv, .ref p]) (ea_cons (ev_var rfl) (ea_cons (ev_var rfl) (ea_cons (ev_var rfl) (ea_cons (ev_var rfl) ea_nil)))) fun H7 e7 => ⟨a, L, pv, p, _, D - s.lo, s, vls s xs, rfl, hW4.ex (e5.trans (e6.trans e7)), hs4.ex (e5.trans (e6.trans e7)), (e5.trans (e6.trans e7)) _ _ g4, nvL, hprd, ok.pl hprd, ok.okLn, by omega, by omega, by omega, by omega, fun H8 F8 hW8 => fin H8 ((Fr.ex (e5.trans (e6.trans e7))).trans F8) ?_⟩
  rw [hbo]
  exact hW8
def sp_sbits (K : PySem.W.Frag) (CS : Addr) : Sp := fun vs H Q _ => ∃ (q p : Addr) (D : Nat) (s : Sf) (xs : List Int), vs = [.int (D : Int), .ref q, .ref p] ∧ SfAt K CS H p s ∧ H q = some (.lst (xs.map V.int)) ∧ okSf D s xs ∧ RetV (.int ((sfB D s xs).length : Int)) H Q
theorem ok_subframe_bits (T : TX K mg) : FnOk P w K mg base CX0 5 T.a_subframe_bits T.d_subframe_bits ["depth", "samples", "subframe"] (sp_sbits K T.C_Subframe) := by
  refine T.F_subframe_bits.ok sc_subframe_bits (fun vs H Q E h => by obtain ⟨q, p, D, s, xs, rfl, _⟩ := h; rfl) (fun cdv A outer s0 H vs Q E hr h => ?_)
  obtain ⟨q, p, D, s, xs, rfl, hs, hq, ok, k⟩ := h
  refine ⟨_, (pss_cons (ps_set (i := 3) sc_subframe_bits.nd rfl (Or.inl rfl) (pe_op op_sub (pv 0) (pe_fld (pv 2) rfl)))
      (pss_cons (ps_set (i := 4) sc_subframe_bits.nd rfl (Or.inl rfl) (pe_op op_add pe_int (pe_fld (pv 2) rfl)))
      (pss_cons (ps_if (pt_cmpR op_eq (pe_fld (pv 2) rfl) pe_str (nomark _)) (pss_one (ps_ret (pe_op op_add (pv 4) (pv 3)))) pss_nil)
      (pss_cons (ps_if (pt_cmpR op_eq (pe_fld (pv 2) rfl) pe_str (nomark _)) (pss_one (ps_ret (pe_op op_add (pv 4) (pe_op op_mul (pv 3) (pe_callB (r := rLenS K) call_len_seq (by rfl) T.m_len PySem.boot_len (pa_cons (pv 1) pa_nil)))))) pss_nil)
      (pss_cons (ps_setLc (i := 5) (own := [("sample", 9)]) (g := gName 9) (tt := tYes) rfl sc_subframe_bits.nd rfl rfl (sw_true rfl rfl rfl (by decide +kernel)) (pi_list (pv 1)) (blkOk_by (N := ["depth", "samples", "subframe", "width", "header", "values", "order", "residuals", "bits", "sample"]) (sc := defScope s_subframe_bits) (by decide +kernel)) (fun _ _ _ _ _ => pg_name (i := 9) sc_subframe_bits.nd rfl (Or.inl rfl)) (fun _ _ _ _ _ => pts_nil) (fun _ _ _ _ _ => (pe_op op_shr (pv 9) (pe_fldK (K:=K) (pv 2) rfl rfl))))
      (pss_cons (ps_set (i := 6) sc_subframe_bits.nd rfl (Or.inl rfl) (pe_call (ok_warm_up_length T) (hr.mono (by decide)) (by rfl) T.g_warm_up_length T.F_warm_up_length.kp T.b_warm_up_length .nil pass0 (pa_cons (pv 2) pa_nil)))
      (pss_cons (ps_set (i := 7) sc_subframe_bits.nd rfl (Or.inl rfl) (pe_call (ok_residuals T) (hr.mono (by decide)) (by rfl) T.g_residuals T.F_residuals.kp T.b_residuals .nil pass0 (pa_cons (pv 5) (pa_cons (pv 2) pa_nil))))
      (pss_cons (ps_set (i := 8) sc_subframe_bits.nd rfl (Or.inl rfl) (pe_op op_add (pe_op op_add (pv 4) (pe_op op_mul (pv 3) (pv 6))) (pe_call (ok_residual_bits T) (hr.mono (by decide)) (by rfl) T.g_residual_bits T.F_residual_bits.kp T.b_residual_bits .nil pass0 (pa_cons (pe_fld (pv 2) rfl) (pa_cons (pv 7) (pa_cons (pv 6) pa_nil))))))
      (pss_cut (ps_if (pt_cmpR op_eq (pe_fld (pv 2) rfl) pe_str (nomark _)) (pss_one (ps_aug (i := 8) sc_subframe_bits.nd rfl (Or.inl rfl) (pe_op op_add (pe_op op_add pe_int pe_int) (pe_op op_mul (pe_fld (pv 2) rfl) (pv 6))) ip_add)) pss_nil)
      (pss_one (ps_ret (pv 8)))))))))))), ?_⟩
  obtain ⟨dx, tc, x, hp, hc, hx⟩ := id hs
  have hlo := ok.lo
  have hd33 := ok.d33
  have hx2 := ok.l2
  have hsl := sfB_len D s xs
  have hvl := vls_len s xs
  have wst : ∀ {σ : L2.St} {G : Hp}, Ex H G → σ[2]? = some (some (.ref p)) → Ev (tFld K (tVar 2) "wasted") σ G (.int (s.lo : Int)) := fun e h => ev_fld T.cl_Subframe T.n_Subframe_wasted (ev_var h) (e _ _ hp) rfl
  have kdv : ∀ {σ : L2.St} {G : Hp}, Ex H G → σ[2]? = some (some (.ref p)) → Ev (tFld K (tVar 2) "kind") σ G (.str (kdS s.kd)) := fun e h => ev_fld T.cl_Subframe T.n_Subframe_kind (ev_var h) (e _ _ hp) rfl
  refine q_asg (v := .int ((D - s.lo : Nat) : Int)) (Ev.is (ev_I0 (g := fun i j => .int (i - j)) (ev_var rfl) (wst (Ex.refl _) rfl)) (congrArg V.int (by omega))) fun H1 e1 => ?_
  refine q_asg (v := .int ((8 + s.lo : Nat) : Int)) (Ev.is (ev_I0 (g := fun i j => .int (i + j)) ev_c (wst e1 rfl)) (congrArg V.int (by omega))) fun H2 e2 => ?_
  have e12 := e1.trans e2
  refine q_when (b := decide (s.kd = .con)) (ev_kdq "constant" _ (kdv e12 rfl) (kd_con _)) (fun hb H3 e3 => ?_) (fun hb1 H3 e3 => ?_)
  · have hb := of_decide_eq_true hb
    have hbo : bodS s (D - s.lo) (vls s xs) = sgB (D - s.lo) (gi (vls s xs) 0) := by unfold bodS; rw [hb]
    rw [hbo, sgB_len] at hsl
    exact s_ret (Ev.is (ev_I0 (g := fun i j => .int (i + j)) (ev_var rfl) (ev_var rfl)) (congrArg V.int (show ((8 + s.lo : Nat) : Int) + ((D - s.lo : Nat) : Int) = ((sfB D s xs).length : Int) by omega))) fun H4 e4 => k H4 (e12.trans (e3.trans e4))
  have e13 := e12.trans e3
  refine q_when (b := decide (s.kd = .ver)) (ev_kdq "verbatim" _ (kdv e13 rfl) (kd_ver _)) (fun hb H4 e4 => ?_) (fun hb2 H4 e4 => ?_)
  · have hb := of_decide_eq_true hb
    have hbo : bodS s (D - s.lo) (vls s xs) = (vls s xs).flatMap (sgB (D - s.lo)) := by unfold bodS; rw [hb]
    rw [hbo, sgs_len, hvl, Nat.mul_comm] at hsl
    refine s_ret (Ev.is (ev_I0 (g := fun i j => .int (i + j)) (ev_var rfl) (ev_I (ev_var rfl) (Ev.is (ev_lenS (K := K) (Ev.s (ev_var rfl) (sq_of ((e13.trans e4) _ _ hq)))) (by rw [List.length_map])) (show CMul ((D - s.lo : Nat) : Int) (xs.length : Int) from .inl (by omega)))) (congrArg V.int (show ((8 + s.lo : Nat) : Int) + ((D - s.lo : Nat) : Int) * (xs.length : Int) = ((sfB D s xs).length : Int) from ?_))) fun H5 e5 => k H5 (e13.trans (e4.trans e5))
    rw [hsl, ← Int.natCast_mul]
    omega
  have e14 := e13.trans e4
  have hprd := prd_of (of_decide_eq_false hb1) (of_decide_eq_false hb2)
  have hbo := bod_prd hprd (D - s.lo) (vls s xs)
  have hpl := ok.pl hprd
  have ho := ok.ordle hprd
  refine q_asgL (xs := (vls s xs).map V.int) (el_vls (p := p) T.cl_Subframe T.n_Subframe_wasted rfl (e14 _ _ hq) hx2 (e14 _ _ hp) (fun _ => rfl) (fun _ => rfl) (fun _ => rfl) rfl) fun pv H5 hpv e5 g5 => ?_
  refine q_asg (v := .int (ordS s : Int)) (ev_warm (ev_var rfl) (hs.ex (e14.trans e5))) fun H6 e6 => ?_
  have e16 := e14.trans (e5.trans e6)
  have hco : s.kd = .lin → s.co.length ≤ (vls s xs).length ∧ s.co.length ≤ 1000 ∧ Bd s.co := fun hb => by
    have e : ordS s = s.co.length := by unfold ordS; rw [if_pos hb]
    obtain ⟨_, _, _, p4, p5⟩ := ok.okLn.p1 hb
    exact ⟨by omega, by omega, p5⟩
  refine q_asgL (xs := (resS s (vls s xs)).map V.int) (el_call (ea_cons (ev_var rfl) (ea_cons (ev_var rfl) ea_nil)) fun G e Q2 q2 _ => ⟨pv, p, s, vls s xs, rfl, hs.ex (e16.trans e), (e6.trans e) _ _ g5, by omega, hco, fun h => by have := ok.okLn.o4 h; omega, q2⟩) fun pr H7 hpr e7 g7 => ?_
  have e17 := e16.trans e7
  unfold PlAt at hx
  rw [if_pos hprd] at hx
  obtain ⟨t, tcc, qs, rfl, ht, hcs⟩ := hx
  have hr0 := resS_len (s := s) (vls s xs)
  obtain ⟨rb, hrb⟩ : ∃ rb, rbits s.m s.cds (resS s (vls s xs)) (ordS s) ((vls s xs).length / 2 ^ s.n) s.cds.length = rb := ⟨_, rfl⟩
  have hpb := planB_len s.m s.n s.cds (resS s (vls s xs)) (ordS s) ((vls s xs).length / 2 ^ s.n) (2 ^ s.n)
  have hrb2 := hrb
  rw [hpl.cl] at hrb2
  rw [hrb2] at hpb
  have hws : (vls s xs).take (ordS s) ≠ [] ∨ True := .inr trivial
  have htk : ((vls s xs).take (ordS s)).length = ordS s := by rw [List.length_take]; omega
  rw [hbo] at hsl
  unfold prdB at hsl
  rw [List.length_append, List.length_append, sgs_len, htk, hpb] at hsl
  refine q_asg (v := .int (((8 + s.lo) + (ordS s) * (D - s.lo) + rb : Nat) : Int)) (Ev.is (ev_I0 (g := fun i j => .int (i + j)) (ev_I0 (g := fun i j => .int (i + j)) (ev_var rfl) (ev_I (ev_var rfl) (ev_var rfl) (show CMul ((D - s.lo : Nat) : Int) (ordS s : Int) from .inl (by omega)))) (ev_call (z := .int (rb : Int)) (ea_cons (ev_fld T.cl_Subframe T.n_Subframe_plan (v := .ref t) (ev_var rfl) (e17 _ _ hp) rfl) (ea_cons (ev_var rfl) (ea_cons (ev_var rfl) ea_nil))) fun G e Q2 q2 _ => ⟨t, tcc, pr, qs, s.cds, s.m, s.n, ordS s, (vls s xs).length / 2 ^ s.n, resS s (vls s xs), rfl, (e17.trans e) _ _ ht, ⟨st_of ((e17.trans e) _ _ hcs.1), hcs.2.1, fun i q c h1 h2 => (e17.trans e) _ _ (hcs.2.2 i q c h1 h2)⟩, e _ _ g7, by have := hpl.n15; omega, by omega, fun c hc => by have := (hpl.cd c hc).1; omega, hpl.cl, by rw [hr0, ← hpl.dv]; omega, Nat.le_of_lt hpl.ow, by rw [hrb]; exact q2⟩)) (congrArg V.int (show ((8 + s.lo : Nat) : Int) + ((D - s.lo : Nat) : Int) * (ordS s : Int) + (rb : Int) = (((8 + s.lo) + (ordS s) * (D - s.lo) + rb : Nat) : Int) from ?_))) fun H8 e8 => ?_
  · rw [← Int.natCast_mul, Nat.mul_comm]
    omega
  have e18 := e17.trans e8
  show tCut _ _ _ [some (.int (D : Int)), some (.ref q), some (.ref p), some (.int ((D - s.lo : Nat) : Int)), some (.int ((8 + s.lo : Nat) : Int)), some (.ref pv), some (.int (ordS s : Int)), some (.ref pr), some (.int (((8 + s.lo) + (ordS s) * (D - s.lo) + rb : Nat) : Int)), none] _
  refine q_cut (M := fun σ' H' => σ'[8]? = some (some (.int ((sfB D s xs).length : Int))) ∧ Ex H H') ?_ ?_
  · refine s_when (b := decide (s.kd = .lin)) (ev_kdq "linear" _ (kdv e18 rfl) (kd_lin _)) (fun hb H9 e9 => ?_) (fun hb H9 e9 => ?_)
    · have hb := of_decide_eq_true hb
      have eo : ordS s = s.co.length := by unfold ordS; rw [if_pos hb]
      have hlB : linB s = (bitsN 4 (s.pr - 1) ++ sgB 5 (s.sh : Int)) ++ s.co.flatMap (sgB s.pr) := by unfold linB; rw [if_pos hb]
      have hlL : (linB s).length = 9 + ordS s * s.pr := by rw [hlB, List.length_append, List.length_append, bitsN_len, sgB_len, sgs_len, eo]
      have p2 := (ok.okLn.p1 hb).2.1
      refine s_augR (a := (((8 + s.lo) + (ordS s) * (D - s.lo) + rb : Nat) : Int)) (b := ((9 + ordS s * s.pr : Nat) : Int)) rfl (Ev.is (ev_I0 (g := fun i j => .int (i + j)) (ev_I0 (g := fun i j => .int (i + j)) ev_c ev_c) (ev_I (ev_fld T.cl_Subframe T.n_Subframe_precision (v := .int (s.pr : Int)) (ev_var rfl) ((e18.trans e9) _ _ hp) rfl) (ev_var rfl) (show CMul (s.pr : Int) (ordS s : Int) from .inl (by omega)))) (congrArg V.int (show (4 : Int) + 5 + (s.pr : Int) * (ordS s : Int) = ((9 + ordS s * s.pr : Nat) : Int) by rw [← Int.natCast_mul, Nat.mul_comm]; omega))) fun H10 e10 => ⟨?_, e18.trans (e9.trans e10)⟩
      show some (some (V.int ((((8 + s.lo) + (ordS s) * (D - s.lo) + rb : Nat) : Int) + ((9 + ordS s * s.pr : Nat) : Int)))) = _
      rw [← Int.natCast_add]
      congr 4
      omega
    · have hb := of_decide_eq_false hb
      have hlB : linB s = [] := by unfold linB; rw [if_neg hb]
      rw [hlB, List.length_nil] at hsl
      refine ⟨?_, e18.trans e9⟩
      show some (some (V.int _)) = _
      congr 4
      omega
  · rintro σ' H9 ⟨h8, e9⟩
    exact s_ret (ev_var h8) fun H10 e10 => k H10 (e9.trans e10)

-- SUB4
/-! ### a subframe read -/
theorem rds {C a d : Addr} {H : Hp} {ds : List Nat} {pos w : Nat} {v : Int} {σ : L2.St} {to tw : TE} {E : XK} {Q : VK} (h : Ev to σ H (.ref a)) (hw0 : Ev tw σ H (.int (w : Int))) (hR : RdD C H a d ds pos) (hB : Has (ds.flatMap bits8) pos (sgB w v)) (hw1 : 1 ≤ w) (hw : w ≤ 64) (hv : fitR w v = true) (k : ∀ H1, FrA a H H1 → RdD C H1 a d ds (pos + w) → Q (.int v) H1) : tMeth C "read_signed" (sp_readSN C) [] E to (tCons tw tNil) σ H Q := by
  obtain ⟨dx, ha⟩ := id hR.1
  have hl := hB.len
  rw [sgB_len, bits_flat_len] at hl
  rw [sgB_eq] at hB
  refine mth (vs := [.int (w : Int)]) h ha rfl (ea_cons hw0 ea_nil) fun H1 e1 => ⟨a, d, ds, pos, w, rfl, (hR.ex e1).1, (hR.ex e1).2.1, hR.2.2.1, hw, hR.2.2.2, hl, fun H2 hF hR2 => ?_⟩
  have hlt : (v % 2 ^ w).toNat < 2 ^ w := by
    have hp := Nat.two_pow_pos w
    have h1 := Int.emod_lt_of_pos v (show (0 : Int) < ((2 ^ w : Nat) : Int) by omega)
    rw [← pow_cast] at h1
    rw [pow_cast] at h1 ⊢
    omega
  rw [hB.val hlt, sg_fit (by omega) hv]
  exact k H2 ((FrA.ex e1).trans hF) (hR.to ((FrA.ex e1).trans hF) hR2)
theorem sqt_frA {C a d t : Addr} {H H1 : Hp} {pos : Nat} {xs : List V} (hR : RdAt C H a d pos) (hF : FrA a H H1) (h : SqT K H t xs) : SqT K H1 t xs := by
  obtain ⟨dx, ha⟩ := hR
  rcases h with (h | ⟨o, h⟩) | h
  · exact st_of (hF _ _ (by rintro rfl; rw [ha] at h; cases h) h)
  · exact .inl (.inr ⟨o, hF _ _ (by rintro rfl; rw [ha] at h; cases h) h⟩)
  · exact .inr h
def sp_rkind (C : Addr) : Sp := fun vs H Q _ => ∃ (a d : Addr) (ds : List Nat) (pos : Nat) (s : Sf), vs = [.ref a] ∧ RdD C H a d ds pos ∧ Has (ds.flatMap bits8) pos (bitsN 1 0 ++ bitsN 6 (kcode s)) ∧ (s.kd = .fix → s.o ≤ 4) ∧ (s.kd = .lin → 1 ≤ s.co.length ∧ s.co.length ≤ 32) ∧ ∀ t H', FrA a H H' → H' t = some (.tup [.str (kdS s.kd), .int ((if prd s.kd then ordS s else 0 : Nat) : Int)]) → RdD C H' a d ds (pos + 7) → Q (.ref t) H'
theorem ok_read_kind (T : TX K mg) : FnOk P w K mg base CX0 2 T.a_read_kind T.d_read_kind ["reader"] (sp_rkind T.C_BitReader) := by
  refine T.F_read_kind.ok sc_read_kind (fun vs H Q E h => by obtain ⟨a, d, ds, pos, s, rfl, _⟩ := h; rfl) (fun cdv A outer s0 H vs Q E hr h => ?_)
  obtain ⟨a, d, ds, pos, s, rfl, hR, hB, hf, hl, k⟩ := h
  refine ⟨_, (pss_cons (ps_set (i := 1) sc_read_kind.nd rfl (Or.inl rfl) (pe_meth0 (pv 0) T.cl_BitReader T.me_BitReader_byte_place (ok_BitReader_byte_place T) (hr.mono (by decide)) T.b_BitReader_byte_place .nil pass0))
      (pss_cons (ps_if (pt_cmpR op_eq (pe_meth (pv 0) T.cl_BitReader T.me_BitReader_read (ok_BitReader_read T) (hr.mono (by decide)) T.b_BitReader_read .nil pass0 (pa_cons pe_int pa_nil)) pe_int (nomark _)) (pss_one ps_never) pss_nil)
      (pss_cons (ps_set (i := 1) sc_read_kind.nd rfl (Or.inl rfl) (pe_meth0 (pv 0) T.cl_BitReader T.me_BitReader_byte_place (ok_BitReader_byte_place T) (hr.mono (by decide)) T.b_BitReader_byte_place .nil pass0))
      (pss_cons (ps_set (i := 2) sc_read_kind.nd rfl (Or.inl rfl) (pe_meth (pv 0) T.cl_BitReader T.me_BitReader_read (ok_BitReader_read T) (hr.mono (by decide)) T.b_BitReader_read .nil pass0 (pa_cons pe_int pa_nil)))
      (pss_cons (ps_if (pt_cmpR op_eq (pv 2) pe_int (nomark _)) (pss_one (ps_ret (pe_tup (pa_cons pe_str (pa_cons pe_int pa_nil))))) pss_nil)
      (pss_cons (ps_if (pt_cmpR op_eq (pv 2) pe_int (nomark _)) (pss_one (ps_ret (pe_tup (pa_cons pe_str (pa_cons pe_int pa_nil))))) pss_nil)
      (pss_cons (ps_if (pt_chain op_le op_le pe_int (pv 2) pe_int) (pss_one (ps_ret (pe_tup (pa_cons pe_str (pa_cons (pe_op op_sub (pv 2) pe_int) pa_nil))))) pss_nil)
      (pss_cons (ps_if (pt_cmpR op_ge (pv 2) pe_int (nomark _)) (pss_one (ps_ret (pe_tup (pa_cons pe_str (pa_cons (pe_op op_sub (pv 2) pe_int) pa_nil))))) pss_nil)
      (pss_one ps_never))))))))), ?_⟩
  have hB2 := hB.r
  rw [bitsN_len] at hB2
  have hk : kcode s < 2 ^ 6 := by
    unfold kcode
    cases hd : s.kd with
    | con => exact (by decide : 0 < 64)
    | ver => exact (by decide : 1 < 64)
    | fix => have := hf hd; show 8 + s.o < 64; omega
    | lin => have := hl hd; show 31 + s.co.length < 64; omega
  refine q_asg (ev_place (f := fun pos => (pos / 8 : Nat)) (ev_var rfl) hR.1 rfl) fun H1 e1 => ?_
  refine q_whenRv (w := 1) (v := 0) (ev_var rfl) (hR.ex e1) rfl hB.l (by decide) (by decide) fun H2 F2 hR2 => ?_
  refine q_when (b := false) (et_is (et_test (ev_eq ev_c ev_c rfl)) (by decide +kernel)) (fun hb => by cases hb) fun _ H3 e3 => ?_
  have hR3 := hR2.ex e3
  refine q_asg (ev_place (f := fun pos => (pos / 8 : Nat)) (ev_var rfl) hR3.1 rfl) fun H4 e4 => ?_
  refine q_asgRv (w := 6) (v := kcode s) (ev_var rfl) (hR3.ex e4) rfl hB2 hk (by decide) fun H5 F5 hR5 => ?_
  have F05 := (((FrA.ex e1).trans F2).trans (FrA.ex (e3.trans e4))).trans F5
  have fin : ∀ (t : Addr) (H' G : Hp) (x y : V), Ex H5 H' → H' t = none → G = upd H' t (.tup [x, y]) → x = .str (kdS s.kd) → y = .int ((if prd s.kd then ordS s else 0 : Nat) : Int) → Q (.ref t) G := fun t H' G x y e hn hG hx hy => by
    subst hG hx hy
    exact k t _ (F05.trans (FrA.ex (e.trans (Ex.new hn)))) upd_same (hR5.ex (e.trans (Ex.new hn)))
  have ret : ∀ {t1 t2 : TE} {x y : V} {σ : L2.St} {G : Hp} {D : Ends}, D.rt = Q → Ex H5 G → Ev t1 σ G x → Ev t2 σ G y → x = .str (kdS s.kd) → y = .int ((if prd s.kd then ordS s else 0 : Nat) : Int) → tRet (tTup (tCons t1 (tCons t2 tNil))) D σ G := fun hD e h1 h2 hx hy => h1 _ (Ex.refl _) _ fun G1 e1 => h2 G1 e1 _ fun G2 e2 => ⟨sz_of (show 2 ≤ 100000 by decide), fun t ht => by rw [hD]; exact fin t G2 _ _ _ (e.trans (e1.trans e2)) ht rfl hx hy⟩
  have kc : ∀ {σ : L2.St} {G : Hp} (n : Nat), σ[2]? = some (some (.int (kcode s : Int))) → EvT (tTest (tOp rEq (tVar 2) (tC (.int (n : Int))))) σ G (decide (kcode s = n)) := fun n h => et_test (Ev.is (ev_eq (ev_var h) ev_c rfl) (congrArg V.bl (decide_eq_decide.mpr ⟨fun h => by have := V.int.inj h; omega, fun h => by rw [h]⟩)))
  refine q_when (b := decide (kcode s = 0)) (kc 0 rfl) (fun hb H6 e6 => ?_) (fun b0 H6 e6 => ?_)
  · have hb := of_decide_eq_true hb
    have hd : s.kd = .con := by
      unfold kcode at hb
      cases hd : s.kd with
      | con => rfl
      | ver => rw [hd] at hb; cases hb
      | fix => rw [hd] at hb; simp at hb
      | lin => rw [hd] at hb; simp at hb
    exact ret rfl e6 ev_c ev_c (by rw [hd]; rfl) (by rw [hd]; rfl)
  refine q_when (b := decide (kcode s = 1)) (kc 1 rfl) (fun hb H7 e7 => ?_) (fun b1 H7 e7 => ?_)
  · have hb := of_decide_eq_true hb
    have hd : s.kd = .ver := by
      unfold kcode at hb
      cases hd : s.kd with
      | con => rw [hd] at hb; cases hb
      | ver => rfl
      | fix => rw [hd] at hb; simp at hb; omega
      | lin => rw [hd] at hb; simp at hb; have := hl hd; omega
    exact ret rfl (e6.trans e7) ev_c ev_c (by rw [hd]; rfl) (by rw [hd]; rfl)
  have b0 := of_decide_eq_false b0
  have b1 := of_decide_eq_false b1
  have hfl : (s.kd = .fix ∧ kcode s = 8 + s.o ∧ s.o ≤ 4) ∨ (s.kd = .lin ∧ kcode s = 31 + s.co.length ∧ 1 ≤ s.co.length ∧ s.co.length ≤ 32) := by
    cases hd : s.kd with
    | con => exact absurd (by unfold kcode; rw [hd]) b0
    | ver => exact absurd (by unfold kcode; rw [hd]) b1
    | fix => exact .inl ⟨rfl, by unfold kcode; rw [hd], hf hd⟩
    | lin => exact .inr ⟨rfl, by unfold kcode; rw [hd], hl hd⟩
  have e67 := e6.trans e7
  rcases hfl with ⟨hd, hkc, ho⟩ | ⟨hd, hkc, h1, h2⟩
  · refine q_when (b := true) (et_is (by walk_at "et") ?_) (fun _ H8 e8 => ?_) (fun hb => by cases hb)
    · simp only [Bool.and_eq_true, decide_eq_true_eq]
      omega
    · refine ret rfl (e67.trans e8) ev_c (ev_I0 (g := fun i j => .int (i - j)) (ev_var rfl) ev_c) (by rw [hd]; rfl) ?_
      rw [hd, if_pos (by decide)]
      unfold ordS
      rw [if_neg (by rw [hd]; decide)]
      show V.int _ = _
      congr 1
      omega
  · refine q_when (b := false) (et_is (by walk_at "et") ?_) (fun hb => by cases hb) (fun _ H8 e8 => ?_)
    · rw [Bool.and_eq_false_iff]
      simp only [decide_eq_false_iff_not]
      omega
    refine q_when (b := true) (et_is (by walk_at "et") ?_) (fun _ H9 e9 => ?_) (fun hb => by cases hb)
    · simp only [decide_eq_true_eq]
      omega
    · refine ret rfl (e67.trans (e8.trans e9)) ev_c (ev_I0 (g := fun i j => .int (i - j)) (ev_var rfl) ev_c) (by rw [hd]; rfl) ?_
      rw [hd, if_pos (by decide)]
      unfold ordS
      rw [if_pos hd]
      show V.int _ = _
      congr 1
      omega
theorem q_asgMo {σ : L2.St} {H : Hp} {r : R2} {C : Addr} {m : Str} {sp : Sp} {dvs : List V} {E : XK} {to tb : TE} {t : TA} {g : TG} {D : Ends} {tz : TS} (h : tMeth C m sp dvs E to t σ H (fun x H2 => tSeq (tAsg (tOp r (tC x) tb) g) tz D σ H2)) : tSeq (tAsg (tOp r (tMeth C m sp dvs E to t) tb) g) tz D σ H := h
theorem q_asgMm {σ : L2.St} {H : Hp} {C : Addr} {m : Str} {sp : Sp} {dvs : List V} {E : XK} {to : TE} {t : TA} {i : Nat} {D : Ends} {tz : TS} (h : tMeth C m sp dvs E to t σ H (fun x H2 => tz D (σ.set i (some x)) H2)) : tSeq (tAsg (tMeth C m sp dvs E to t) (gName i)) tz D σ H := h
theorem Has.runz {B : List Bool} {pos z : Nat} (h : Has B pos (List.replicate z false ++ [true])) : zrun B pos z := by
  have e : codeB 0 z = List.replicate z false ++ [true] := by
    unfold codeB
    rw [show z / 2 ^ 0 = z by rw [Nat.pow_zero, Nat.div_one]]
    rfl
  rw [← e] at h
  have := h.code.1
  rwa [show z / 2 ^ 0 = z by rw [Nat.pow_zero, Nat.div_one]] at this
def sp_rwast (C : Addr) : Sp := fun vs H Q _ => ∃ (a d : Addr) (ds : List Nat) (pos D lo : Nat), vs = [.ref a, .int (D : Int)] ∧ RdD C H a d ds pos ∧ lo < D ∧ Has (ds.flatMap bits8) pos (waS lo) ∧ ∀ H', FrA a H H' → RdD C H' a d ds (pos + (lo + 1)) → Q (.int (lo : Int)) H'
theorem ok_read_wasted (T : TX K mg) : FnOk P w K mg base CX0 4 T.a_read_wasted T.d_read_wasted ["reader", "depth"] (sp_rwast T.C_BitReader) := by
  refine T.F_read_wasted.ok sc_read_wasted (fun vs H Q E h => by obtain ⟨a, d, ds, pos, D, lo, rfl, _⟩ := h; rfl) (fun cdv A outer s0 H vs Q E hr h => ?_)
  obtain ⟨a, d, ds, pos, D, lo, rfl, hR, hlo, hB, k⟩ := h
  refine ⟨_, (pss_cons (ps_if (pt_cmpR op_eq (pe_meth (pv 0) T.cl_BitReader T.me_BitReader_read (ok_BitReader_read T) (hr.mono (by decide)) T.b_BitReader_read .nil pass0 (pa_cons pe_int pa_nil)) pe_int (nomark _)) (pss_one (ps_ret pe_int)) pss_nil)
      (pss_cons (ps_set (i := 2) sc_read_wasted.nd rfl (Or.inl rfl) (pe_meth0 (pv 0) T.cl_BitReader T.me_BitReader_byte_place (ok_BitReader_byte_place T) (hr.mono (by decide)) T.b_BitReader_byte_place .nil pass0))
      (pss_cons (ps_set (i := 3) sc_read_wasted.nd rfl (Or.inl rfl) (pe_op op_add (pe_meth0 (pv 0) T.cl_BitReader T.me_BitReader_read_unary (ok_BitReader_read_unary T) (hr.mono (by decide)) T.b_BitReader_read_unary .nil pass0) pe_int))
      (pss_cons (ps_if (pt_cmpR op_ge (pv 3) (pv 1) (nomark _)) (pss_one ps_never) pss_nil)
      (pss_one (ps_ret (pv 3))))))), ?_⟩
  by_cases h0 : lo = 0
  · subst h0
    refine q_whenRv (w := 1) (v := 0) (ev_var rfl) hR rfl hB (by decide) (by decide) fun H2 F2 hR2 => ?_
    refine q_when (b := true) (et_is (et_test (ev_eq ev_c ev_c rfl)) (by decide +kernel)) (fun _ H3 e3 => ?_) (fun hb => by cases hb)
    exact s_ret (v := .int 0) ev_c fun H4 e4 => k H4 (F2.trans (FrA.ex (e3.trans e4))) (hR2.ex (e3.trans e4))
  · have hB' : Has (ds.flatMap bits8) pos (bitsN 1 1 ++ (List.replicate (lo - 1) false ++ [true])) := by unfold waS at hB; rwa [if_neg h0] at hB
    have hB2 := hB'.r
    rw [bitsN_len] at hB2
    refine q_whenRv (w := 1) (v := 1) (ev_var rfl) hR rfl hB'.l (by decide) (by decide) fun H2 F2 hR2 => ?_
    refine q_when (b := false) (et_is (et_test (ev_eq ev_c ev_c rfl)) (by decide +kernel)) (fun hb => by cases hb) fun _ H3 e3 => ?_
    have hR3 := hR2.ex e3
    refine q_asg (ev_place (f := fun pos => (pos / 8 : Nat)) (ev_var rfl) hR3.1 rfl) fun H4 e4 => ?_
    have hR4 := hR3.ex e4
    obtain ⟨dx, ha⟩ := id hR4.1
    refine q_asgMo (mth (vs := []) (ev_var rfl) ha rfl ea_nil fun H5 e5 => ⟨a, d, ds, pos + 1, lo - 1, rfl, (hR4.ex e5).1, (hR4.ex e5).2.1, hR.2.2.1, hR.2.2.2, hB2.runz, fun H6 F6 hR6 => ?_⟩)
    have F06 := ((F2.trans (FrA.ex (e3.trans e4))).trans (FrA.ex e5)).trans F6
    have hR6 : RdD T.C_BitReader H6 a d ds (pos + (lo + 1)) := by
      have := hR.to F06 hR6
      rwa [show pos + 1 + (lo - 1) + 1 = pos + (lo + 1) by omega] at this
    refine q_asg (v := .int (lo : Int)) (Ev.is (ev_I0 (g := fun i j => .int (i + j)) ev_c ev_c) (congrArg V.int (by omega))) fun H6b e6b => ?_
    have F06 := F06.trans (FrA.ex e6b)
    have hR6 := hR6.ex e6b
    refine q_when (b := false) (et_is (by walk_at "et") ?_) (fun hb => by cases hb) fun _ H7 e7 => ?_
    · simp only [decide_eq_false_iff_not]
      omega
    exact s_ret (v := .int (lo : Int)) (ev_var rfl) fun H8 e8 => k H8 (F06.trans (FrA.ex (e7.trans e8))) (hR6.ex (e7.trans e8))
def sp_rvals (C : Addr) : Sp := fun vs H Q _ => ∃ (a d : Addr) (ds : List Nat) (pos wd n : Nat) (xs : List Int), vs = [.ref a, .int (wd : Int), .int (n : Int)] ∧ RdD C H a d ds pos ∧ xs.length = n ∧ 1 ≤ wd ∧ wd ≤ 64 ∧ (∀ v ∈ xs, fitR wd v = true) ∧ n ≤ 40000 ∧ Has (ds.flatMap bits8) pos (xs.flatMap (sgB wd)) ∧ ∀ p H', H p = none → FrA a H H' → H' p = some (.lst (xs.map V.int)) → RdD C H' a d ds (pos + (xs.flatMap (sgB wd)).length) → Q (.ref p) H'
theorem ok_read_values (T : TX K mg) : FnOk P w K mg base CX0 3 T.a_read_values T.d_read_values ["reader", "width", "count"] (sp_rvals T.C_BitReader) := by
  refine T.F_read_values.ok sc_read_values (fun vs H Q E h => by obtain ⟨a, d, ds, pos, wd, n, xs, rfl, _⟩ := h; rfl) (fun cdv A outer s0 H vs Q E hr h => ?_)
  obtain ⟨a, d, ds, pos, wd, n, xs, rfl, hR, rfl, hw1, hw, hv, hn, hB, k⟩ := h
  refine ⟨_, (pss_one (ps_ret (pe_lc (own := [("_", 3)]) (g := gName 3) (tt := tYes) rfl sc_read_values.nd (pi_range1 (by rfl) T.m_range (pa_cons (pv 2) pa_nil)) (blkOk_by (N := ["reader", "width", "count", "_"]) (sc := defScope s_read_values) (by decide +kernel)) (fun _ _ _ _ _ => pg_name (i := 3) sc_read_values.nd rfl (Or.inl rfl)) (fun _ _ _ _ _ => pts_nil) (fun _ _ _ _ _ => (pe_meth (pv 0) T.cl_BitReader T.me_BitReader_read_signed (ok_BitReader_read_signed T) (hr.mono (by decide)) T.b_BitReader_read_signed .nil pass0 (pa_cons (pv 1) pa_nil)))))), ?_⟩
  refine s_retRd (c := ⟨true, wd⟩) (part := xs) hR hn hB (ea_cons (ev_var rfl) ea_nil) (fun _ => rfl) (fun i v H3 p1 Q3 hvi hR3 hB3 q3 => ?_) fun p H3 hp hF hg hR3 => k p H3 hp hF hg (hR.to hF hR3)
  rw [show (valB ⟨true, wd⟩ v).length = wd from sgB_len wd v] at q3
  exact rds (ev_var rfl) (ev_var rfl) hR3 hB3 hw1 hw (hv v (List.mem_of_getElem? hvi)) fun H4 F4 hR4 => q3 H4 F4 hR4.1
def sp_rprec (C : Addr) (f : Nat → Nat) : Sp := fun vs H Q _ => ∃ (a d : Addr) (ds : List Nat) (pos v : Nat), vs = [.ref a] ∧ RdD C H a d ds pos ∧ v < 15 ∧ Has (ds.flatMap bits8) pos (bitsN 4 v) ∧ ∀ H', FrA a H H' → RdD C H' a d ds (pos + 4) → Q (.int (f v : Int)) H'
theorem ok_read_precision (T : TX K mg) : FnOk P w K mg base CX0 2 T.a_read_precision T.d_read_precision ["reader"] (sp_rprec T.C_BitReader (· + 1)) := by
  refine T.F_read_precision.ok sc_read_precision (fun vs H Q E h => by obtain ⟨a, d, ds, pos, v, rfl, _⟩ := h; rfl) (fun cdv A outer s0 H vs Q E hr h => ?_)
  obtain ⟨a, d, ds, pos, v, rfl, hR, hv, hB, k⟩ := h
  refine ⟨_, (pss_cons (ps_set (i := 1) sc_read_precision.nd rfl (Or.inl rfl) (pe_meth0 (pv 0) T.cl_BitReader T.me_BitReader_byte_place (ok_BitReader_byte_place T) (hr.mono (by decide)) T.b_BitReader_byte_place .nil pass0))
      (pss_cons (ps_set (i := 2) sc_read_precision.nd rfl (Or.inl rfl) (pe_meth (pv 0) T.cl_BitReader T.me_BitReader_read (ok_BitReader_read T) (hr.mono (by decide)) T.b_BitReader_read .nil pass0 (pa_cons pe_int pa_nil)))
      (pss_cons (ps_if (pt_cmpR op_eq (pv 2) pe_int (nomark _)) (pss_one ps_never) pss_nil)
      (pss_one (ps_ret (pe_op op_add (pv 2) pe_int)))))), ?_⟩
  refine q_asg (ev_place (f := fun pos => (pos / 8 : Nat)) (ev_var rfl) hR.1 rfl) fun H1 e1 => ?_
  refine q_asgRv (w := 4) (v := v) (ev_var rfl) (hR.ex e1) rfl hB (by show v < 16; omega) (by decide) fun H2 F2 hR2 => ?_
  refine q_when (b := false) (et_is (by walk_at "et") ?_) (fun hb => by cases hb) fun _ H3 e3 => ?_
  · simp
    omega
  exact s_ret (v := .int ((v + 1 : Nat) : Int)) (Ev.is (ev_I0 (g := fun i j => .int (i + j)) (ev_var rfl) ev_c) (congrArg V.int (by omega))) fun H4 e4 => k H4 (((FrA.ex e1).trans F2).trans (FrA.ex (e3.trans e4))) (hR2.ex (e3.trans e4))
def sp_rshift (C : Addr) : Sp := fun vs H Q _ => ∃ (a d : Addr) (ds : List Nat) (pos v : Nat), vs = [.ref a] ∧ RdD C H a d ds pos ∧ v < 16 ∧ Has (ds.flatMap bits8) pos (sgB 5 (v : Int)) ∧ ∀ H', FrA a H H' → RdD C H' a d ds (pos + 5) → Q (.int (v : Int)) H'
theorem ok_read_shift (T : TX K mg) : FnOk P w K mg base CX0 3 T.a_read_shift T.d_read_shift ["reader"] (sp_rshift T.C_BitReader) := by
  refine T.F_read_shift.ok sc_read_shift (fun vs H Q E h => by obtain ⟨a, d, ds, pos, v, rfl, _⟩ := h; rfl) (fun cdv A outer s0 H vs Q E hr h => ?_)
  obtain ⟨a, d, ds, pos, v, rfl, hR, hv, hB, k⟩ := h
  refine ⟨_, (pss_cons (ps_set (i := 1) sc_read_shift.nd rfl (Or.inl rfl) (pe_meth0 (pv 0) T.cl_BitReader T.me_BitReader_byte_place (ok_BitReader_byte_place T) (hr.mono (by decide)) T.b_BitReader_byte_place .nil pass0))
      (pss_cons (ps_set (i := 2) sc_read_shift.nd rfl (Or.inl rfl) (pe_meth (pv 0) T.cl_BitReader T.me_BitReader_read_signed (ok_BitReader_read_signed T) (hr.mono (by decide)) T.b_BitReader_read_signed .nil pass0 (pa_cons pe_int pa_nil)))
      (pss_cons (ps_if (pt_cmpR op_lt (pv 2) pe_int (nomark _)) (pss_one ps_never) pss_nil)
      (pss_one (ps_ret (pv 2)))))), ?_⟩
  refine q_asg (ev_place (f := fun pos => (pos / 8 : Nat)) (ev_var rfl) hR.1 rfl) fun H1 e1 => ?_
  have hfit : fitR 5 (v : Int) = true := by
    unfold fitR
    rw [if_neg (by decide), Bool.and_eq_true]
    exact ⟨decide_eq_true (by show -((16 : Nat) : Int) ≤ _; omega), decide_eq_true (by show _ < ((16 : Nat) : Int); omega)⟩
  refine q_asgMm (rds (w := 5) (v := (v : Int)) (ev_var rfl) ev_c (hR.ex e1) hB (by decide) (by decide) hfit fun H2 F2 hR2 => ?_)
  refine q_when (b := false) (et_is (by walk_at "et") ?_) (fun hb => by cases hb) fun _ H3 e3 => ?_
  · simp only [decide_eq_false_iff_not]
    omega
  exact s_ret (v := .int (v : Int)) (ev_var rfl) fun H4 e4 => k H4 (((FrA.ex e1).trans F2).trans (FrA.ex (e3.trans e4))) (hR2.ex (e3.trans e4))
def sp_limit : Sp := fun vs H Q _ => ∃ wd : Nat, vs = [.int (wd : Int)] ∧ 1 ≤ wd ∧ wd ≤ 1000 ∧ RetV (.int ((2 ^ (wd - 1) : Nat) : Int)) H Q
theorem ok_limit (T : TX K mg) : FnOk P w K mg base CX0 1 T.a_limit T.d_limit ["width"] sp_limit := by
  refine T.F_limit.ok sc_limit (fun vs H Q E h => by obtain ⟨wd, rfl, _⟩ := h; rfl) (fun cdv A outer s0 H vs Q E hr h => ?_)
  obtain ⟨wd, rfl, h1, h2, k⟩ := h
  refine ⟨_, (pss_one (ps_ret (pe_op op_shl pe_int (pe_op op_sub (pv 0) pe_int)))), ?_⟩
  refine s_ret (ev_I ev_c (Ev.is (ev_I0 (g := fun i j => .int (i - j)) (ev_var rfl) ev_c) (congrArg V.int (show (wd : Int) - 1 = ((wd - 1 : Nat) : Int) by omega))) (show CPow 1 ((wd - 1 : Nat) : Int) from ⟨by omega, by omega, by decide⟩)) fun H1 e1 => ret_eq k e1 (congrArg V.int ?_)
  rw [Int.toNat_natCast, Int.one_mul, pow_cast]

-- SUB5
theorem fit_within {w : Nat} {v : Int} (hw : 1 ≤ w) (h : fitR w v = true) : -((2 ^ (w - 1) : Nat) : Int) ≤ v ∧ v < ((2 ^ (w - 1) : Nat) : Int) := by
  unfold fitR at h
  rw [if_neg (by omega), Bool.and_eq_true] at h
  exact ⟨of_decide_eq_true h.1, of_decide_eq_true h.2⟩
theorem FX.fsam_all {o w : Nat} {vl : List Int} (ho : o ≤ 4) (hl : o ≤ vl.length) (hw : 1 ≤ w) (hf : ∀ v ∈ vl, fitR w v = true) : FX.fsam (some ((2 ^ (w - 1) : Nat) : Int)) o (vl.take o) (FX.diffsN o vl) = vl := by
  have h := FX.fsam_diffs ho hl
  have h2 := FX.fsam_lim (o := o) (b := ((2 ^ (w - 1) : Nat) : Int)) (FX.diffsN o vl) (vl.take o) vl.length (by rw [List.length_take]; omega) (fun t _ ht => by
    rw [h]
    have hm : FX.gi vl t ∈ vl := List.mem_of_getElem? (FX.gi_get ht)
    obtain ⟨h1, h2⟩ := fit_within hw (hf _ hm)
    unfold FX.within
    rw [Bool.and_eq_true]
    exact ⟨decide_eq_true h1, decide_eq_true h2⟩) (by rw [h]; exact Nat.le_refl _) (fun hlt => by rw [h] at hlt; omega)
  rw [h2, h, List.take_length]
theorem gsam_all {cs : List Int} {sh w : Nat} {vl : List Int} (hl : cs.length ≤ vl.length) (hw : 1 ≤ w) (hf : ∀ v ∈ vl, fitR w v = true) : gsam (prL cs sh) (some ((2 ^ (w - 1) : Nat) : Int)) (vl.take cs.length) (lres cs sh vl) = vl := by
  have h := lsam_lres (sh := sh) hl
  have h2 := gsam_lim (pr := prL cs sh) (b := ((2 ^ (w - 1) : Nat) : Int)) (lres cs sh vl) (vl.take cs.length) vl.length (by rw [List.length_take]; omega) (fun t _ ht => by
    rw [h]
    have hm : gi vl t ∈ vl := List.mem_of_getElem? (gi_get ht)
    obtain ⟨h1, h2⟩ := fit_within hw (hf _ hm)
    unfold within
    rw [Bool.and_eq_true]
    exact ⟨decide_eq_true h1, decide_eq_true h2⟩) (by rw [h]; exact Nat.le_refl _) (fun hlt => by rw [h] at hlt; omega)
  rw [h2, h, List.take_length]
theorem s_ret2N {σ : L2.St} {H : Hp} {t1 t2 : TE} {x : V} {R : Addr → Hp → Prop} {D : Ends} (h1 : Ev t1 σ H x) (h2 : EvN t2 σ H R) (k : ∀ t p H2, H p = none → Ex H H2 → R p H2 → H2 t = none → D.rt (.ref t) (upd H2 t (.tup [x, .ref p]))) : tRet (tTup (tCons t1 (tCons t2 tNil))) D σ H :=
  h1 H (Ex.refl H) _ fun H1 e1 => h2 H1 e1 _ fun p H2 hp e2 hR => ⟨sz_of (show 2 ≤ 100000 by decide), fun t ht => k t p H2 (fresh_back e1 hp) (e1.trans e2) hR ht⟩
theorem s_ret2V {σ : L2.St} {H : Hp} {t1 t2 : TE} {x y : V} {D : Ends} (h1 : Ev t1 σ H x) (h2 : Ev t2 σ H y) (k : ∀ t H2, Ex H H2 → H2 t = none → D.rt (.ref t) (upd H2 t (.tup [x, y]))) : tRet (tTup (tCons t1 (tCons t2 tNil))) D σ H :=
  h1 H (Ex.refl H) _ fun H1 e1 => h2 H1 e1 _ fun H2 e2 => ⟨sz_of (show 2 ≤ 100000 by decide), fun t ht => k t H2 (e1.trans e2) ht⟩
theorem s_ret2L {σ : L2.St} {H : Hp} {t1 t2 : TE} {xs : List V} {y : V} {D : Ends} (h1 : EvL t1 σ H xs) (h2 : Ev t2 σ H y) (k : ∀ t p H2, H p = none → Ex H H2 → H2 p = some (.lst xs) → H2 t = none → D.rt (.ref t) (upd H2 t (.tup [.ref p, y]))) : tRet (tTup (tCons t1 (tCons t2 tNil))) D σ H :=
  h1 H (Ex.refl H) _ fun p H1 hp e1 g1 => h2 H1 e1 _ fun H2 e2 => ⟨sz_of (show 2 ≤ 100000 by decide), fun t ht => k t p H2 hp (e1.trans e2) (e2 _ _ g1) ht⟩
theorem q_asgPair {σ : L2.St} {H : Hp} {i j : Nat} {t : Addr} {x y : V} {D : Ends} {tz : TS} (hT : H t = some (.tup [x, y])) (k : tz D ((σ.set i (some x)).set j (some y)) H) : tSeq (tAsg (tC (.ref t)) (gTup K 2 (gCons (gName i) (gCons (gName j) gNil)))) tz D σ H := ⟨t, [x, y], rfl, st_of hT, rfl, x, [y], rfl, y, [], rfl, rfl, k⟩
theorem s_asgPair {σ : L2.St} {H : Hp} {i j : Nat} {t : Addr} {x y : V} {D : Ends} (hT : H t = some (.tup [x, y])) (k : D.nx ((σ.set i (some x)).set j (some y)) H) : tAsg (tC (.ref t)) (gTup K 2 (gCons (gName i) (gCons (gName j) gNil))) D σ H := ⟨t, [x, y], rfl, st_of hT, rfl, x, [y], rfl, y, [], rfl, rfl, k⟩
theorem q_asgCg {σ : L2.St} {H : Hp} {tA : TA} {vs dvs : List V} {sp : Sp} {E : XK} {g : TG} {D : Ends} {tz : TS} (h : EvA tA σ H vs) (k : ∀ H1, Ex H H1 → sp (vs ++ dvs) H1 (fun x H2 => tSeq (tAsg (tC x) g) tz D σ H2) E) : tSeq (tAsg (tCall sp dvs E tA) g) tz D σ H := h H (Ex.refl H) _ fun H1 e => k H1 e
theorem s_asgCg {σ : L2.St} {H : Hp} {tA : TA} {vs dvs : List V} {sp : Sp} {E : XK} {g : TG} {D : Ends} (h : EvA tA σ H vs) (k : ∀ H1, Ex H H1 → sp (vs ++ dvs) H1 (fun x H2 => tAsg (tC x) g D σ H2) E) : tAsg (tCall sp dvs E tA) g D σ H := h H (Ex.refl H) _ fun H1 e => k H1 e
theorem q_asgCBC {σ : L2.St} {H : Hp} {r : List V → Hp → VK → Prop} {tA : TA} {vs dvs : List V} {sp : Sp} {E : XK} {i : Nat} {D : Ends} {tz : TS} (h : EvA tA σ H vs) (k : ∀ H1, Ex H H1 → sp (vs ++ dvs) H1 (fun x H2 => r [x] H2 (fun y H3 => tz D (σ.set i (some y)) H3)) E) : tSeq (tAsg (tCB r (tCons (tCall sp dvs E tA) tNil)) (gName i)) tz D σ H := h H (Ex.refl H) _ fun H1 e => k H1 e
def sp_rpred (K : PySem.W.Frag) (C CS : Addr) (kd : Kd) : Sp := fun vs H Q _ => ∃ (a d : Addr) (ds : List Nat) (pos wd : Nat) (s : Sf) (vl : List Int), vs = [.ref a, .int (wd : Int), .int (vl.length : Int), .int (ordS s : Int), .int (s.lo : Int)] ∧ RdD C H a d ds pos ∧ s.kd = kd ∧ (kd = .fix → s.o ≤ 4 ∧ s.pr = 0 ∧ s.sh = 0 ∧ s.co = []) ∧ (kd = .lin → s.o = s.co.length ∧ 1 ≤ s.co.length ∧ s.co.length ≤ 32 ∧ 1 ≤ s.pr ∧ s.pr ≤ 15 ∧ s.sh ≤ 15 ∧ ∀ c ∈ s.co, fitR s.pr c = true) ∧ okPl s vl ∧ (∀ v ∈ vl, fitR wd v = true) ∧ 1 ≤ wd ∧ wd ≤ 64 ∧ vl.length ≤ 5000 ∧ ordS s < vl.length ∧ Has (ds.flatMap bits8) pos (prdB s wd vl) ∧
  ∀ t pv p H', H pv = none → FrA a H H' → H' t = some (.tup [.ref pv, .ref p]) → H' pv = some (.lst (vl.map V.int)) → SfAt K CS H' p s → RdD C H' a d ds (pos + (prdB s wd vl).length) → Q (.ref t) H'
theorem ok_read_fixed (T : TX K mg) : FnOk P w K mg base CX0 8 T.a_read_fixed T.d_read_fixed ["reader", "width", "size", "order", "wasted"] (sp_rpred K T.C_BitReader T.C_Subframe .fix) := by
  refine T.F_read_fixed.ok sc_read_fixed (fun vs H Q E h => by obtain ⟨a, d, ds, pos, wd, s, vl, rfl, _⟩ := h; rfl) (fun cdv A outer s0 H vs Q E hr h => ?_)
  obtain ⟨a, d, ds, pos, wd, s, vl, rfl, hR, hk, hfx, _, hpl, hft, hw1, hw, hvl, hol, hB, k⟩ := h
  refine ⟨_, (pss_cons (ps_set (i := 5) sc_read_fixed.nd rfl (Or.inl rfl) (pe_call (ok_read_values T) (hr.mono (by decide)) (by rfl) T.g_read_values T.F_read_values.kp T.b_read_values .nil pass0 (pa_cons (pv 0) (pa_cons (pv 1) (pa_cons (pv 3) pa_nil)))))
      (pss_cons (ps_asg (pe_call (ok_read_residuals T) (hr.mono (by decide)) (by rfl) T.g_read_residuals T.F_read_residuals.kp T.b_read_residuals .nil pass0 (pa_cons (pv 0) (pa_cons (pv 2) (pa_cons (pv 3) pa_nil)))) (pg_tup rfl (pgs_cons (pg_name (i := 6) sc_read_fixed.nd rfl (Or.inl rfl)) (pgs_cons (pg_name (i := 7) sc_read_fixed.nd rfl (Or.inl rfl)) pgs_nil))))
      (pss_cons (ps_set (i := 8) sc_read_fixed.nd rfl (Or.inl rfl) (pe_callN (ok_fixed_samples T) (hr.mono (by decide)) (by rfl) T.g_fixed_samples T.F_fixed_samples.kp T.k2_limit_fixed_samples pass0 (pa_cons (pv 5) (pa_cons (pv 7) pa_nil)) (pk_cons (pe_call (ok_limit T) (hr.mono (by decide)) (by rfl) T.g_limit T.F_limit.kp T.b_limit .nil pass0 (pa_cons (pv 1) pa_nil)) pk_nil)))
      (pss_one (ps_ret (pe_tup (pa_cons (pv 8) (pa_cons (pe_makeK T.M_Subframe (ok_Subframe_init T) (hr.mono (by decide)) (by rfl) T.g_Subframe T.k2_order_plan_wasted_Subframe_init pass0 (pa_cons pe_str pa_nil) (pk_cons (pv 3) (pk_cons (pv 6) (pk_cons (pv 4) pk_nil)))) pa_nil)))))))), ?_⟩
  obtain ⟨ho4, hpr0, hsh, hco⟩ := hfx rfl
  have eo : ordS s = s.o := by unfold ordS; rw [if_neg (by rw [hk]; decide)]
  have hlB : linB s = [] := by unfold linB; rw [if_neg (by rw [hk]; decide)]
  have hrs : resS s vl = FX.diffsN s.o vl := by unfold resS; rw [if_neg (by rw [hk]; decide)]
  have htk : (vl.take (ordS s)).length = ordS s := by rw [List.length_take]; omega
  have hr0 := resS_len (s := s) vl
  have hpb : prdB s wd vl = (vl.take (ordS s)).flatMap (sgB wd) ++ planB s.m s.n s.cds (resS s vl) (ordS s) (vl.length / 2 ^ s.n) (2 ^ s.n) := by unfold prdB; rw [hlB, List.append_nil]
  rw [hpb] at hB k
  have hoa : ∃ o, H a = some o := by obtain ⟨⟨dx, ha⟩, _⟩ := hR; exact ⟨_, ha⟩
  refine q_asgC (vs := [.ref a, .int (wd : Int), .int (ordS s : Int)]) (ea_cons (ev_var rfl) (ea_cons (ev_var rfl) (ea_cons (ev_var rfl) ea_nil))) fun H1 e1 => ⟨a, d, ds, pos, wd, ordS s, vl.take (ordS s), rfl, hR.ex e1, htk, hw1, hw, fun v hv => hft v (List.mem_of_mem_take hv), by omega, hB.l, fun pw H2 hpw F2 g2 hR2 => ?_⟩
  have F02 := (FrA.ex e1).trans F2
  have npw := hR2.1.ne g2
  have e : ((vl.length / 2 ^ s.n * 2 ^ s.n : Nat) : Int) = (vl.length : Int) := by rw [← hpl.dv]
  refine q_asgCg (vs := [.ref a, .int (vl.length : Int), .int (ordS s : Int)]) (ea_cons (ev_var rfl) (ea_cons (ev_var rfl) (ea_cons (ev_var rfl) ea_nil))) fun H3 e3 => ⟨a, d, ds, _, s.m, s.n, ordS s, vl.length / 2 ^ s.n, s.cds, resS s vl, by rw [e]; rfl, hR2.ex e3, hpl.n15, hpl.m1, hpl.cl, by rw [hr0, ← hpl.dv]; omega, hpl.ow, by omega, hpl.cd, hpl.vl, hB.r, fun t tp tc pr qs H4 ht hpr F4 gt gtp hcs gr hR4 => q_asgPair gt ?_⟩
  have F04 := F02.trans ((FrA.ex e3).trans F4)
  have hRD4 := hR.to F04 hR4
  have g4 := F4 _ _ npw (e3 _ _ g2)
  rw [hrs] at gr
  refine q_asgL (xs := vl.map V.int) (EvL.is (FX.el_fixsamK (ws := vl.take s.o) (rs := FX.diffsN s.o vl) (lim := some ((2 ^ (wd - 1) : Nat) : Int)) (Ev.s (ev_var rfl) (sq_of (by rw [← eo]; exact g4))) (Ev.s (ev_var rfl) (sq_of gr)) (ev_call (ea_cons (ev_var rfl) ea_nil) fun G e Q2 q2 _ => ⟨wd, rfl, hw1, by omega, q2⟩) (by rw [List.length_take]; omega) (by rw [FX.diffsN_len]; omega)) (by rw [show (vl.take s.o).length = s.o by rw [← eo]; exact htk, FX.fsam_all ho4 (by omega) hw1 hft])) fun pv H5 hpv e5 g5 => ?_
  have F05 := F04.trans (FrA.ex e5)
  show tRet _ _ [some (.ref a), some (.int (wd : Int)), some (.int (vl.length : Int)), some (.int (ordS s : Int)), some (.int (s.lo : Int)), some (.ref pw), some (.ref tp), some (.ref pr), some (.ref pv)] _
  refine s_ret2N (R := fun p H' => SfAt K T.C_Subframe H' p s) (ev_var rfl) (en_makeKF (vs := [.str "fixed"]) (zs := [.int (ordS s : Int), .ref tp, .int (s.lo : Int)]) (ea_cons ev_c ea_nil) (ea_cons (ev_var rfl) (ea_cons (ev_var rfl) (ea_cons (ev_var rfl) ea_nil))) rfl rfl fun a' dx G Q' E' eG hn hG k' => ⟨a', dx, _, _, _, _, _, _, _, rfl, hG, fun H' hF hA => k' H' hF ?_⟩) fun t2 p H6 hp e6 hS ht2 => ?_
  · have eH := FrO.after hF eG hn
    refine ⟨dx, T.e_Subframe_init_coefficients, .ref tp, ?_, ?_, ?_⟩
    · rw [hA, hk, hpr0, hsh, eo]
      rfl
    · rw [hco]
      exact T.ze_Subframe_init_coefficients _
    · unfold PlAt
      rw [if_pos (by rw [hk]; rfl)]
      exact ⟨tp, tc, qs, rfl, eH _ _ (e5 _ _ gtp), (hcs.ex e5).ex eH⟩
  · have x6 := Ex.new (o := .tup [.ref pv, .ref p]) ht2
    refine k t2 pv p _ (F04.back hpv (by obtain ⟨dx, ha⟩ := hR4; exact ⟨_, ha⟩)) (F05.trans (FrA.ex (e6.trans x6))) upd_same ((e6.trans x6) _ _ g5) (hS.ex x6) ?_
    rw [List.length_append, ← Nat.add_assoc]
    exact hRD4.ex (e5.trans (e6.trans x6))
theorem ok_read_linear (T : TX K mg) : FnOk P w K mg base CX0 8 T.a_read_linear T.d_read_linear ["reader", "width", "size", "order", "wasted"] (sp_rpred K T.C_BitReader T.C_Subframe .lin) := by
  refine T.F_read_linear.ok sc_read_linear (fun vs H Q E h => by obtain ⟨a, d, ds, pos, wd, s, vl, rfl, _⟩ := h; rfl) (fun cdv A outer s0 H vs Q E hr h => ?_)
  obtain ⟨a, d, ds, pos, wd, s, vl, rfl, hR, hk, _, hln, hpl, hft, hw1, hw, hvl, hol, hB, k⟩ := h
  refine ⟨_, (pss_cons (ps_set (i := 5) sc_read_linear.nd rfl (Or.inl rfl) (pe_call (ok_read_values T) (hr.mono (by decide)) (by rfl) T.g_read_values T.F_read_values.kp T.b_read_values .nil pass0 (pa_cons (pv 0) (pa_cons (pv 1) (pa_cons (pv 3) pa_nil)))))
      (pss_cons (ps_set (i := 6) sc_read_linear.nd rfl (Or.inl rfl) (pe_call (ok_read_precision T) (hr.mono (by decide)) (by rfl) T.g_read_precision T.F_read_precision.kp T.b_read_precision .nil pass0 (pa_cons (pv 0) pa_nil)))
      (pss_cons (ps_set (i := 7) sc_read_linear.nd rfl (Or.inl rfl) (pe_call (ok_read_shift T) (hr.mono (by decide)) (by rfl) T.g_read_shift T.F_read_shift.kp T.b_read_shift .nil pass0 (pa_cons (pv 0) pa_nil)))
      (pss_cons (ps_set (i := 8) sc_read_linear.nd rfl (Or.inl rfl) (pe_callTy call_tuple_of (by rfl) T.m_tuple PyProof.Rows.boot_tuple (pa_cons (pe_call (ok_read_values T) (hr.mono (by decide)) (by rfl) T.g_read_values T.F_read_values.kp T.b_read_values .nil pass0 (pa_cons (pv 0) (pa_cons (pv 6) (pa_cons (pv 3) pa_nil)))) pa_nil)))
      (pss_cons (ps_asg (pe_call (ok_read_residuals T) (hr.mono (by decide)) (by rfl) T.g_read_residuals T.F_read_residuals.kp T.b_read_residuals .nil pass0 (pa_cons (pv 0) (pa_cons (pv 2) (pa_cons (pv 3) pa_nil)))) (pg_tup rfl (pgs_cons (pg_name (i := 9) sc_read_linear.nd rfl (Or.inl rfl)) (pgs_cons (pg_name (i := 10) sc_read_linear.nd rfl (Or.inl rfl)) pgs_nil))))
      (pss_cons (ps_set (i := 11) sc_read_linear.nd rfl (Or.inl rfl) (pe_callN (ok_linear_samples T) (hr.mono (by decide)) (by rfl) T.g_linear_samples T.F_linear_samples.kp T.k4_limit_linear_samples pass0 (pa_cons (pv 5) (pa_cons (pv 10) (pa_cons (pv 8) (pa_cons (pv 7) pa_nil)))) (pk_cons (pe_call (ok_limit T) (hr.mono (by decide)) (by rfl) T.g_limit T.F_limit.kp T.b_limit .nil pass0 (pa_cons (pv 1) pa_nil)) pk_nil)))
      (pss_cons (ps_set (i := 12) sc_read_linear.nd rfl (Or.inl rfl) (pe_makeK T.M_Subframe (ok_Subframe_init T) (hr.mono (by decide)) (by rfl) T.g_Subframe T.k2_order_precision_shift_coefficients_plan_wasted_Subframe_init pass0 (pa_cons pe_str pa_nil) (pk_cons (pv 3) (pk_cons (pv 6) (pk_cons (pv 7) (pk_cons (pv 8) (pk_cons (pv 9) (pk_cons (pv 4) pk_nil))))))))
      (pss_one (ps_ret (pe_tup (pa_cons (pv 11) (pa_cons (pv 12) pa_nil)))))))))))), ?_⟩
  obtain ⟨hso, hc1, hc32, hp1, hp15, hsh, hcf⟩ := hln rfl
  have eo : ordS s = s.co.length := by unfold ordS; rw [if_pos hk]
  have hlB : linB s = (bitsN 4 (s.pr - 1) ++ sgB 5 (s.sh : Int)) ++ s.co.flatMap (sgB s.pr) := by unfold linB; rw [if_pos hk]
  have hrs : resS s vl = lres s.co s.sh vl := by unfold resS; rw [if_pos hk]
  have htk : (vl.take (ordS s)).length = ordS s := by rw [List.length_take]; omega
  have hr0 := resS_len (s := s) vl
  have hbd : Bd s.co := fun c hc => fitR_bd (by omega) (hcf c hc)
  have hB0 : Has (ds.flatMap bits8) pos (((vl.take (ordS s)).flatMap (sgB wd) ++ linB s) ++ planB s.m s.n s.cds (resS s vl) (ordS s) (vl.length / 2 ^ s.n) (2 ^ s.n)) := hB
  have hBw := hB0.l.l
  have hBl := hB0.l.r
  have hBp := hB0.r
  rw [hlB] at hBl
  have hB4 := hBl.l.l
  have hB5 := hBl.l.r
  have hBc := hBl.r
  refine q_asgC (vs := [.ref a, .int (wd : Int), .int (ordS s : Int)]) (ea_cons (ev_var rfl) (ea_cons (ev_var rfl) (ea_cons (ev_var rfl) ea_nil))) fun H1 e1 => ⟨a, d, ds, pos, wd, ordS s, vl.take (ordS s), rfl, hR.ex e1, htk, hw1, hw, fun v hv => hft v (List.mem_of_mem_take hv), by omega, hBw, fun pw H2 hpw F2 g2 hR2 => ?_⟩
  have F02 := (FrA.ex e1).trans F2
  have npw := hR2.1.ne g2
  refine q_asgC (vs := [.ref a]) (ea_cons (ev_var rfl) ea_nil) fun H3 e3 => ⟨a, d, ds, _, s.pr - 1, rfl, hR2.ex e3, by omega, hB4, fun H4 F4 hR4 => ?_⟩
  refine q_asgC (vs := [.ref a]) (ea_cons (ev_var rfl) ea_nil) fun H5 e5 => ⟨a, d, ds, _, s.sh, rfl, hR4.ex e5, by omega, by rw [bitsN_len] at hB5; exact hB5, fun H6 F6 hR6 => ?_⟩
  have F26 := ((FrA.ex e3).trans F4).trans ((FrA.ex e5).trans F6)
  show tSeq _ _ _ [some (.ref a), some (.int (wd : Int)), some (.int (vl.length : Int)), some (.int (ordS s : Int)), some (.int (s.lo : Int)), some (.ref pw), some (.int ((s.pr - 1 + 1 : Nat) : Int)), some (.int (s.sh : Int)), none, none, none, none, none] _
  rw [show s.pr - 1 + 1 = s.pr by omega]
  rw [List.length_append, bitsN_len, sgB_len] at hBc
  have hR6 : RdD T.C_BitReader H6 a d ds (pos + ((vl.take (ordS s)).flatMap (sgB wd)).length + (4 + 5)) := by rw [← Nat.add_assoc]; exact hR6
  refine q_asgCBC (vs := [.ref a, .int (s.pr : Int), .int (ordS s : Int)]) (ea_cons (ev_var rfl) (ea_cons (ev_var rfl) (ea_cons (ev_var rfl) ea_nil))) fun H7 e7 => ⟨a, d, ds, _, s.pr, ordS s, s.co, rfl, hR6.ex e7, by omega, hp1, by omega, hcf, by omega, hBc, fun pc H8 hpc F8 g8 hR8 => ⟨pc, _, rfl, .inl ⟨sq_of g8, fun tc htc => ?_⟩⟩⟩
  have x8 := Ex.new (o := .tup (s.co.map V.int)) htc
  have F68 := ((FrA.ex e7).trans F8).trans (FrA.ex x8)
  have hR9 := hR8.ex x8
  have gtc : (upd H8 tc (.tup (s.co.map V.int))) tc = some (.tup (s.co.map V.int)) := upd_same
  have F09 := (F02.trans F26).trans F68
  have gw9 := F68 _ _ npw (F26 _ _ npw g2)
  have ntc : tc ≠ a := by obtain ⟨⟨dx, ha⟩, _⟩ := hR8; rintro rfl; rw [ha] at htc; cases htc
  clear F68 F26 hR6 hR8 g8 x8
  generalize upd H8 tc (.tup (s.co.map V.int)) = H9 at *
  have hlL : pos + ((vl.take (ordS s)).flatMap (sgB wd)).length + (4 + 5) + (s.co.flatMap (sgB s.pr)).length = pos + ((vl.take (ordS s)).flatMap (sgB wd) ++ linB s).length := by
    rw [hlB, List.length_append, List.length_append, List.length_append, bitsN_len, sgB_len]
    omega
  rw [hlL] at hR9
  have e : ((vl.length / 2 ^ s.n * 2 ^ s.n : Nat) : Int) = (vl.length : Int) := by rw [← hpl.dv]
  show tSeq _ _ _ [some (.ref a), some (.int (wd : Int)), some (.int (vl.length : Int)), some (.int (ordS s : Int)), some (.int (s.lo : Int)), some (.ref pw), some (.int (s.pr : Int)), some (.int (s.sh : Int)), some (.ref tc), none, none, none, none] _
  refine q_asgCg (vs := [.ref a, .int (vl.length : Int), .int (ordS s : Int)]) (ea_cons (ev_var rfl) (ea_cons (ev_var rfl) (ea_cons (ev_var rfl) ea_nil))) fun G3 e3' => ⟨a, d, ds, _, s.m, s.n, ordS s, vl.length / 2 ^ s.n, s.cds, resS s vl, by rw [e]; rfl, hR9.ex e3', hpl.n15, hpl.m1, hpl.cl, by rw [hr0, ← hpl.dv]; omega, hpl.ow, by omega, hpl.cd, hpl.vl, hBp, fun t tp tcc pr qs G4 ht hpr F4' gt gtp hcs gr hR4' => q_asgPair gt ?_⟩
  have F94 := (FrA.ex e3').trans F4'
  have F04 := F09.trans F94
  have hRD4 := hR.to F04 hR4'
  have g4 := F94 _ _ npw gw9
  have gtc4 := F94 _ _ ntc gtc
  rw [hrs] at gr
  refine q_asgL (xs := vl.map V.int) (EvL.is (el_linsamK (ws := vl.take s.co.length) (rs := lres s.co s.sh vl) (cs := s.co) (sh := s.sh) (lim := some ((2 ^ (wd - 1) : Nat) : Int)) (Ev.s (ev_var rfl) (sq_of (by rw [← eo]; exact g4))) (Ev.s (ev_var rfl) (sq_of gr)) (Ev.p (ev_var rfl) (st_of gtc4)) (ev_var rfl) (ev_call (ea_cons (ev_var rfl) ea_nil) fun G e Q2 q2 _ => ⟨wd, rfl, hw1, by omega, q2⟩) (by rw [← eo, htk]) (by rw [lres_len]; omega) (by omega) hbd) (by rw [gsam_all (by omega) hw1 hft])) fun pv H5' hpv e5' g5 => ?_
  have F05 := F04.trans (FrA.ex e5')
  show tSeq _ _ _ [some (.ref a), some (.int (wd : Int)), some (.int (vl.length : Int)), some (.int (ordS s : Int)), some (.int (s.lo : Int)), some (.ref pw), some (.int (s.pr : Int)), some (.int (s.sh : Int)), some (.ref tc), some (.ref tp), some (.ref pr), some (.ref pv), none] _
  refine q_asgN (R := fun p H' => SfAt K T.C_Subframe H' p s) (en_makeKF (vs := [.str "linear"]) (zs := [.int (ordS s : Int), .int (s.pr : Int), .int (s.sh : Int), .ref tc, .ref tp, .int (s.lo : Int)]) (ea_cons ev_c ea_nil) (ea_cons (ev_var rfl) (ea_cons (ev_var rfl) (ea_cons (ev_var rfl) (ea_cons (ev_var rfl) (ea_cons (ev_var rfl) (ea_cons (ev_var rfl) ea_nil)))))) rfl rfl fun a' dx G Q' E' eG hn hG k' => ⟨a', dx, _, _, _, _, _, _, _, rfl, hG, fun H' hF hA => k' H' hF ?_⟩) fun p H6' hp e6 hS => ?_
  · have eH := FrO.after hF eG hn
    refine ⟨dx, tc, .ref tp, ?_, st_of (eH _ _ (e5' _ _ gtc4)), ?_⟩
    · rw [hA, hk, hso, eo]
      rfl
    · unfold PlAt
      rw [if_pos (by rw [hk]; rfl)]
      exact ⟨tp, tcc, qs, rfl, eH _ _ (e5' _ _ gtp), (hcs.ex e5').ex eH⟩
  · refine s_ret2V (ev_var rfl) (ev_var rfl) fun t2 H7' e7' ht2 => ?_
    have x6 := e7'.trans (Ex.new (o := .tup [.ref pv, .ref p]) ht2)
    refine k t2 pv p _ (F04.back hpv (by obtain ⟨dx, ha⟩ := hR4'; exact ⟨_, ha⟩)) (F05.trans (FrA.ex (e6.trans x6))) upd_same ((e6.trans x6) _ _ g5) (hS.ex x6) ?_
    unfold prdB
    rw [List.length_append, ← Nat.add_assoc]
    exact hRD4.ex (e5'.trans (e6.trans x6))

-- SUB6
theorem q_asgRepM {σ : L2.St} {H : Hp} {r : R2} {C : Addr} {m : Str} {sp : Sp} {dvs : List V} {E : XK} {to tb : TE} {t : TA} {g : TG} {D : Ends} {tz : TS} (h : tMeth C m sp dvs E to t σ H (fun v H1 => tLst (tCons (tC v) tNil) σ H1 (fun x H2 => tSeq (tAsg (tOp r (tC x) tb) g) tz D σ H2))) : tSeq (tAsg (tOp r (tLst (tCons (tMeth C m sp dvs E to t) tNil)) tb) g) tz D σ H := h
theorem el_goS {σ : L2.St} {H : Hp} {te : TE} {xs : List V} {Q : VK} (h : EvL te σ H xs) (k : ∀ p H1, H p = none → Ex H H1 → H1 p = some (.lst xs) → Q (.ref p) H1) : te σ H Q := h H (Ex.refl H) Q k
def sp_rsub (K : PySem.W.Frag) (C CS : Addr) : Sp := fun vs H Q _ => ∃ (a d : Addr) (ds : List Nat) (pos D : Nat) (s : Sf) (xs : List Int), vs = [.ref a, .int (D : Int), .int (xs.length : Int)] ∧ RdD C H a d ds pos ∧ okSf D s xs ∧ Has (ds.flatMap bits8) pos (sfB D s xs) ∧
  ∀ t pv p H', H pv = none → FrA a H H' → H' t = some (.tup [.ref pv, .ref p]) → H' pv = some (.lst (xs.map V.int)) → SfAt K CS H' p s → RdD C H' a d ds (pos + (sfB D s xs).length) → Q (.ref t) H'
theorem ok_read_subframe (T : TX K mg) : FnOk P w K mg base CX0 9 T.a_read_subframe T.d_read_subframe ["reader", "depth", "size"] (sp_rsub K T.C_BitReader T.C_Subframe) := by
  refine T.F_read_subframe.ok sc_read_subframe (fun vs H Q E h => by obtain ⟨a, d, ds, pos, D, s, xs, rfl, _⟩ := h; rfl) (fun cdv A outer s0 H vs Q E hr h => ?_)
  obtain ⟨a, d, ds, pos, D, s, xs, rfl, hR, ok, hB, k⟩ := h
  refine ⟨_, (pss_cons (ps_set (i := 3) sc_read_subframe.nd rfl (Or.inl rfl) (pe_meth0 (pv 0) T.cl_BitReader T.me_BitReader_byte_place (ok_BitReader_byte_place T) (hr.mono (by decide)) T.b_BitReader_byte_place .nil pass0))
      (pss_cons (ps_asg (pe_call (ok_read_kind T) (hr.mono (by decide)) (by rfl) T.g_read_kind T.F_read_kind.kp T.b_read_kind .nil pass0 (pa_cons (pv 0) pa_nil)) (pg_tup rfl (pgs_cons (pg_name (i := 4) sc_read_subframe.nd rfl (Or.inl rfl)) (pgs_cons (pg_name (i := 5) sc_read_subframe.nd rfl (Or.inl rfl)) pgs_nil))))
      (pss_cons (ps_set (i := 6) sc_read_subframe.nd rfl (Or.inr rfl) (pe_call (ok_read_wasted T) (hr.mono (by decide)) (by rfl) T.g_read_wasted T.F_read_wasted.kp T.b_read_wasted .nil pass0 (pa_cons (pv 0) (pa_cons (pv 1) pa_nil))))
      (pss_cons (ps_set (i := 7) sc_read_subframe.nd rfl (Or.inl rfl) (pe_op op_sub (pv 1) (pv 6)))
      (pss_cut (ps_if (pt_cmpR op_eq (pv 4) pe_str (nomark _)) (pss_cons (ps_set (i := 8) sc_read_subframe.nd rfl (Or.inl rfl) (pe_op op_rep (pe_lst (pa_cons (pe_meth (pv 0) T.cl_BitReader T.me_BitReader_read_signed (ok_BitReader_read_signed T) (hr.mono (by decide)) T.b_BitReader_read_signed .nil pass0 (pa_cons (pv 7) pa_nil)) pa_nil)) (pv 2)))
        (pss_one (ps_set (i := 9) sc_read_subframe.nd rfl (Or.inl rfl) (pe_makeK T.M_Subframe (ok_Subframe_init T) (hr.mono (by decide)) (by rfl) T.g_Subframe T.k2_wasted_Subframe_init pass0 (pa_cons (pv 4) pa_nil) (pk_cons (pv 6) pk_nil))))) (pss_one (ps_if (pt_cmpR op_eq (pv 4) pe_str (nomark _)) (pss_cons (ps_set (i := 8) sc_read_subframe.nd rfl (Or.inl rfl) (pe_call (ok_read_values T) (hr.mono (by decide)) (by rfl) T.g_read_values T.F_read_values.kp T.b_read_values .nil pass0 (pa_cons (pv 0) (pa_cons (pv 7) (pa_cons (pv 2) pa_nil)))))
          (pss_one (ps_set (i := 9) sc_read_subframe.nd rfl (Or.inl rfl) (pe_makeK T.M_Subframe (ok_Subframe_init T) (hr.mono (by decide)) (by rfl) T.g_Subframe T.k2_wasted_Subframe_init pass0 (pa_cons (pv 4) pa_nil) (pk_cons (pv 6) pk_nil))))) (pss_one (ps_if (pt_cmpR op_eq (pv 4) pe_str (nomark _)) (pss_one (ps_asg (pe_call (ok_read_fixed T) (hr.mono (by decide)) (by rfl) T.g_read_fixed T.F_read_fixed.kp T.b_read_fixed .nil pass0 (pa_cons (pv 0) (pa_cons (pv 7) (pa_cons (pv 2) (pa_cons (pv 5) (pa_cons (pv 6) pa_nil)))))) (pg_tup rfl (pgs_cons (pg_name (i := 8) sc_read_subframe.nd rfl (Or.inl rfl)) (pgs_cons (pg_name (i := 9) sc_read_subframe.nd rfl (Or.inl rfl)) pgs_nil))))) (pss_one (ps_asg (pe_call (ok_read_linear T) (hr.mono (by decide)) (by rfl) T.g_read_linear T.F_read_linear.kp T.b_read_linear .nil pass0 (pa_cons (pv 0) (pa_cons (pv 7) (pa_cons (pv 2) (pa_cons (pv 5) (pa_cons (pv 6) pa_nil)))))) (pg_tup rfl (pgs_cons (pg_name (i := 8) sc_read_subframe.nd rfl (Or.inl rfl)) (pgs_cons (pg_name (i := 9) sc_read_subframe.nd rfl (Or.inl rfl)) pgs_nil))))))))))
      (pss_cons (ps_if (pt_cmpR op_lt (pe_callB (r := rLenS K) call_len_seq (by rfl) T.m_len PySem.boot_len (pa_cons (pv 8) pa_nil)) (pv 2) (nomark _)) (pss_one ps_never) pss_nil)
      (pss_one (ps_ret (pe_tup (pa_cons (pe_lc (own := [("value", 10)]) (g := gName 10) (tt := tYes) rfl sc_read_subframe.nd (pi_list (pv 8)) (blkOk_by (N := ["reader", "depth", "size", "start", "kind", "order", "wasted", "width", "values", "subframe", "value"]) (sc := defScope s_read_subframe) (by decide +kernel)) (fun _ _ _ _ _ => pg_name (i := 10) sc_read_subframe.nd rfl (Or.inl rfl)) (fun _ _ _ _ _ => pts_nil) (fun _ _ _ _ _ => (pe_op op_shl (pv 10) (pv 6)))) (pa_cons (pv 9) pa_nil))))))))))), ?_⟩
  have hlo := ok.lo
  have hd33 := ok.d33
  have hx2 := ok.l2
  have hvl := vls_len s xs
  have hft := ok.ft
  have hBk : Has (ds.flatMap bits8) pos (bitsN 1 0 ++ bitsN 6 (kcode s)) := (hB.l : Has _ _ (hdS s)).l
  have hBw : Has (ds.flatMap bits8) (pos + 7) (waS s.lo) := by
    have := (hB.l : Has _ _ (hdS s)).r
    rwa [List.length_append, bitsN_len, bitsN_len] at this
  have hBb := hB.r
  rw [hdS_len] at hBb
  have hsl := sfB_len D s xs
  refine q_asg (ev_place (f := fun pos => (pos / 8 : Nat)) (ev_var rfl) hR.1 rfl) fun H1 e1 => ?_
  refine q_asgCg (vs := [.ref a]) (ea_cons (ev_var rfl) ea_nil) fun H2 e2 => ⟨a, d, ds, pos, s, rfl, hR.ex (e1.trans e2), hBk, fun h => (ok.fx h).1, fun h => ⟨(ok.ln h).2.1, (ok.ln h).2.2.1⟩, fun t H3 F3 gt hR3 => q_asgPair gt ?_⟩
  have F03 := (FrA.ex (e1.trans e2)).trans F3
  refine q_asgC (vs := [.ref a, .int (D : Int)]) (ea_cons (ev_var rfl) (ea_cons (ev_var rfl) ea_nil)) fun H4 e4 => ⟨a, d, ds, _, D, s.lo, rfl, hR3.ex e4, hlo, hBw, fun H5 F5 hR5 => ?_⟩
  have F05 := F03.trans ((FrA.ex e4).trans F5)
  refine q_asg (v := .int ((D - s.lo : Nat) : Int)) (Ev.is (ev_I0 (g := fun i j => .int (i - j)) (ev_var rfl) (ev_var rfl)) (congrArg V.int (by omega))) fun H6 e6 => ?_
  have F06 := F05.trans (FrA.ex e6)
  have hR6 : RdD T.C_BitReader H6 a d ds (pos + (8 + s.lo)) := by
    have := hR5.ex e6
    rwa [show pos + 7 + (s.lo + 1) = pos + (8 + s.lo) by omega] at this
  obtain ⟨st0, hst0⟩ : ∃ v : V, v = .int ((pos / 8 : Nat) : Int) := ⟨_, rfl⟩
  rw [← hst0]
  clear F03 F05 hR3 hR5
  have hoa : ∃ o, H6 a = some o := by obtain ⟨⟨dx, ha⟩, _⟩ := hR6; exact ⟨_, ha⟩
  obtain ⟨oz, hoz⟩ : ∃ v : V, v = .int ((if prd s.kd then ordS s else 0 : Nat) : Int) := ⟨_, rfl⟩
  rw [← hoz]
  show tCut _ _ _ [some (.ref a), some (.int (D : Int)), some (.int (xs.length : Int)), some st0, some (.str (kdS s.kd)), some oz, some (.int (s.lo : Int)), some (.int ((D - s.lo : Nat) : Int)), none, none, none] _
  have mk : ∀ {σ : L2.St} {G : Hp} {t1 t2 : TE} {E1 : XK}, prd s.kd = false → Ev t1 σ G (.str (kdS s.kd)) → Ev t2 σ G (.int (s.lo : Int)) → EvN (tMakeK T.C_Subframe 1 1 (sp_sinit T.C_Subframe) (fun us ws => us ++ ((List.take 5 (List.drop 0 [V.int 0, V.int 0, V.int 0, V.ref T.e_Subframe_init_coefficients, V.non])) ++ (List.take 1 (List.drop 0 ws)))) E1 (tCons t1 tNil) (tCons t2 tNil)) σ G (fun p H' => SfAt K T.C_Subframe H' p s) := fun hnp h1 h2 => en_makeKF (vs := [.str (kdS s.kd)]) (zs := [.int (s.lo : Int)]) (ea_cons h1 ea_nil) (ea_cons h2 ea_nil) rfl rfl fun a' dx G Q' E' eG hn hG k' => ⟨a', dx, _, _, _, _, _, _, _, rfl, hG, fun H' hF hA => k' H' hF (by
    obtain ⟨n1, n2, n3, n4⟩ := ok.np hnp
    refine ⟨dx, T.e_Subframe_init_coefficients, .non, ?_, ?_, ?_⟩
    · rw [hA, n1, n2, n3]
      rfl
    · rw [n4]
      exact T.ze_Subframe_init_coefficients _
    · unfold PlAt
      rw [if_neg (by rw [hnp]; decide)])⟩
  refine q_cut (M := fun σ' H' => ∃ (pv p : Addr), σ' = [some (.ref a), some (.int (D : Int)), some (.int (xs.length : Int)), some st0, some (.str (kdS s.kd)), some oz, some (.int (s.lo : Int)), some (.int ((D - s.lo : Nat) : Int)), some (.ref pv), some (.ref p), none] ∧ FrA a H H' ∧ H6 pv = none ∧ H' pv = some (.lst ((vls s xs).map V.int)) ∧ SfAt K T.C_Subframe H' p s ∧ RdD T.C_BitReader H' a d ds (pos + (sfB D s xs).length)) ?_ ?_
  · have hkd : ∀ {G : Hp}, Ev (tVar 4) [some (.ref a), some (.int (D : Int)), some (.int (xs.length : Int)), some st0, some (.str (kdS s.kd)), some oz, some (.int (s.lo : Int)), some (.int ((D - s.lo : Nat) : Int)), none, none, none] G (.str (kdS s.kd)) := ev_var rfl
    refine s_if (b := decide (s.kd = .con)) (ev_kdq "constant" _ hkd (kd_con _)) (fun hb H7 e7 => ?_) (fun hb1 H7 e7 => ?_)
    · have hb := of_decide_eq_true hb
      have hbo : bodS s (D - s.lo) (vls s xs) = sgB (D - s.lo) (gi (vls s xs) 0) := by unfold bodS; rw [hb]
      rw [hbo, sgB_len] at hsl
      rw [hbo] at hBb
      have h0 : 0 < (vls s xs).length := by have := ok.l1; omega
      refine q_asgRepM (rds (ev_var rfl) (ev_var rfl) (hR6.ex e7) hBb (by omega) (by omega) (hft _ (List.mem_of_getElem? (gi_get h0))) fun H8 F8 hR8 => ?_)
      refine el_goS (el_lst (ea_cons ev_c ea_nil) (Nat.le_of_ble_eq_true rfl)) fun p1 H9 hp1 e9 g9 => ?_
      have hrep : List.replicate xs.length (gi (vls s xs) 0) = vls s xs := by
        refine (List.eq_replicate_iff.mpr ⟨hvl, fun v hv => ok.con hb v hv⟩).symm
      refine q_asgL (xs := (vls s xs).map V.int) (EvL.is (el_rep (xs := [V.int (gi (vls s xs) 0)]) (k := (xs.length : Int)) (Ev.r ev_c g9) (ev_var rfl) (by omega) (by rw [Int.toNat_natCast]; show 1 * _ ≤ _; omega)) (by rw [Int.toNat_natCast, rep_one, ← List.map_replicate (f := V.int), hrep])) fun pv H10 hpv e10 g10 => ?_
      refine s_asgN (mk (by rw [hb]; rfl) (ev_var rfl) (ev_var rfl)) fun p H11 hp e11 hS => ⟨pv, p, rfl, F06.trans ((FrA.ex e7).trans (F8.trans (FrA.ex (e9.trans (e10.trans e11))))), ?_, e11 _ _ g10, hS, ?_⟩
      · exact ((FrA.ex e7).trans (F8.trans (FrA.ex e9))).back hpv (by obtain ⟨⟨dx, ha⟩, _⟩ := hR8.ex e9; exact ⟨_, ha⟩)
      · have := hR8.ex (e9.trans (e10.trans e11))
        rwa [show pos + (8 + s.lo) + (D - s.lo) = pos + (sfB D s xs).length by omega] at this
    refine s_if (b := decide (s.kd = .ver)) (ev_kdq "verbatim" _ hkd (kd_ver _)) (fun hb H8 e8 => ?_) (fun hb2 H8 e8 => ?_)
    · have hb := of_decide_eq_true hb
      have hbo : bodS s (D - s.lo) (vls s xs) = (vls s xs).flatMap (sgB (D - s.lo)) := by unfold bodS; rw [hb]
      rw [hbo] at hsl hBb
      have e78 := e7.trans e8
      refine q_asgC (vs := [.ref a, .int ((D - s.lo : Nat) : Int), .int (xs.length : Int)]) (ea_cons (ev_var rfl) (ea_cons (ev_var rfl) (ea_cons (ev_var rfl) ea_nil))) fun H9 e9 => ⟨a, d, ds, _, D - s.lo, xs.length, vls s xs, rfl, hR6.ex (e78.trans e9), hvl, by omega, by omega, hft, by omega, hBb, fun pv H10 hpv F10 g10 hR10 => ?_⟩
      refine s_asgN (mk (by rw [hb]; rfl) (ev_var rfl) (ev_var rfl)) fun p H11 hp e11 hS => ⟨pv, p, rfl, F06.trans ((FrA.ex (e78.trans e9)).trans (F10.trans (FrA.ex e11))), fresh_back (e78.trans e9) hpv, e11 _ _ g10, hS, ?_⟩
      have := hR10.ex e11
      rwa [Nat.add_assoc, ← hsl] at this
    have hprd := prd_of (of_decide_eq_false hb1) (of_decide_eq_false hb2)
    have hbo := bod_prd hprd (D - s.lo) (vls s xs)
    rw [hbo] at hsl hBb
    have ho := ok.ordle hprd
    rw [if_pos hprd] at hoz
    subst hoz
    refine s_if (b := decide (s.kd = .fix)) (ev_kdq "fixed" _ hkd (kd_fix _)) (fun hb H9 e9 => ?_) (fun hb3 H9 e9 => ?_)
    · have hb := of_decide_eq_true hb
      have e79 := e7.trans (e8.trans e9)
      refine s_asgCg (vs := [.ref a, .int ((D - s.lo : Nat) : Int), .int (xs.length : Int), .int (ordS s : Int), .int (s.lo : Int)]) (ea_cons (ev_var rfl) (ea_cons (ev_var rfl) (ea_cons (ev_var rfl) (ea_cons (ev_var rfl) (ea_cons (ev_var rfl) ea_nil))))) fun H10 e10 => ⟨a, d, ds, _, D - s.lo, s, vls s xs, by rw [hvl]; rfl, hR6.ex (e79.trans e10), hb, fun _ => ok.fx hb, (fun h => by cases h), ok.pl hprd, hft, by omega, by omega, by omega, by omega, hBb, fun t2 pv p H11 hpv F11 gt2 gv hS hR11 => s_asgPair gt2 ⟨pv, p, rfl, F06.trans ((FrA.ex (e79.trans e10)).trans F11), fresh_back (e79.trans e10) hpv, gv, hS, ?_⟩⟩
      rwa [Nat.add_assoc, ← hsl] at hR11
    · have hb : s.kd = .lin := by
        cases hd : s.kd with
        | con => rw [hd] at hprd; cases hprd
        | ver => rw [hd] at hprd; cases hprd
        | fix => exact absurd hd (of_decide_eq_false hb3)
        | lin => rfl
      have e79 := e7.trans (e8.trans e9)
      refine s_asgCg (vs := [.ref a, .int ((D - s.lo : Nat) : Int), .int (xs.length : Int), .int (ordS s : Int), .int (s.lo : Int)]) (ea_cons (ev_var rfl) (ea_cons (ev_var rfl) (ea_cons (ev_var rfl) (ea_cons (ev_var rfl) (ea_cons (ev_var rfl) ea_nil))))) fun H10 e10 => ⟨a, d, ds, _, D - s.lo, s, vls s xs, by rw [hvl]; rfl, hR6.ex (e79.trans e10), hb, (fun h => by cases h), fun _ => ok.ln hb, ok.pl hprd, hft, by omega, by omega, by omega, by omega, hBb, fun t2 pv p H11 hpv F11 gt2 gv hS hR11 => s_asgPair gt2 ⟨pv, p, rfl, F06.trans ((FrA.ex (e79.trans e10)).trans F11), fresh_back (e79.trans e10) hpv, gv, hS, ?_⟩⟩
      rwa [Nat.add_assoc, ← hsl] at hR11
  rintro σ' H7 ⟨pv, p, rfl, F7, hpv6, gv, hS, hR7⟩
  refine q_when (b := false) (et_is (et_test (ev_I0 (g := fun i j => .bl (decide (i < j))) (Ev.is (ev_lenS (K := K) (Ev.s (ev_var rfl) (sq_of gv))) (by rw [List.length_map, hvl])) (ev_var rfl))) (by simp)) (fun hb => by cases hb) fun _ H8 e8 => ?_
  have hun : (vls s xs).map (fun v => v * 2 ^ s.lo) = xs := by
    unfold vls
    rw [List.map_map]
    refine (List.map_congr_left fun x hx => ?_).trans (List.map_id _)
    exact Int.ediv_mul_cancel_of_emod_eq_zero (ok.dv x hx)
  refine s_ret2L (xs := xs.map V.int) (el_lcS (K := K) (xs := (vls s xs).map V.int) _ (Ev.s (ev_var rfl) (sq_of (e8 _ _ gv))) (by rw [List.length_map, List.length_map, hvl]) (by rw [List.length_map]; omega) (fun _ => rfl) fun i z G eG hz => ?_) (ev_var rfl) fun t2 p2 H9 hp2 e9 g9 ht2 => ?_
  · obtain ⟨n, hn, hi, rfl⟩ := int_at hz
    have hnb := fitR_bd (n := D - s.lo) (by omega) (hft n (List.mem_of_getElem? hn))
    refine ⟨.int (n * 2 ^ s.lo), at_int (by rw [← hun, List.getElem?_map, hn]; rfl), Ev.is (ev_I (ev_var rfl) (ev_var rfl) (show CPow n (s.lo : Int) from ⟨by omega, by omega, by omega⟩)) (by rw [Int.toNat_natCast])⟩
  · have x9 := Ex.new (o := .tup [.ref p2, .ref p]) ht2
    have e89 := e8.trans (e9.trans x9)
    have hpH : H p2 = none := F7.back (fresh_back e8 hp2) (by obtain ⟨⟨dx, ha⟩, _⟩ := hR7; exact ⟨_, ha⟩)
    exact k t2 p2 p _ hpH (F7.trans (FrA.ex e89)) upd_same (x9 _ _ g9) (hS.ex e89) (hR7.ex e89)

theorem bitsN_valL : ∀ l : List Bool, bitsN l.length (valL l) = l
  | [] => rfl
  | b :: r => by
    have ih := bitsN_valL r
    rw [valL_cons, List.length_cons, Nat.add_comm r.length 1, bitsN_cat (valL_lt r), ih]
    cases b <;> rfl
theorem us_any : ∀ (k : Nat) (B : List Bool), B.length = 8 * k → ∃ us : List Nat, us.flatMap bits8 = B ∧ ∀ u ∈ us, u < 256
  | 0, B, h => ⟨[], by rw [List.flatMap_nil, List.eq_nil_of_length_eq_zero h], fun u hu => by cases hu⟩
  | k + 1, B, h => by
    obtain ⟨us, h1, h2⟩ := us_any k (B.drop 8) (by rw [List.length_drop]; omega)
    have hl : (B.take 8).length = 8 := by rw [List.length_take]; omega
    have hb := bitsN_valL (B.take 8)
    have hv := valL_lt (B.take 8)
    rw [hl] at hb hv
    refine ⟨valL (B.take 8) :: us, ?_, fun u hu => ?_⟩
    · rw [List.flatMap_cons, h1, bits8_N, hb, List.take_append_drop]
    · rcases List.mem_cons.mp hu with rfl | hu
      · exact hv
      · exact h2 u hu
theorem us_pad (ms : List Bool) : ∃ us : List Nat, us.flatMap bits8 = ms ++ List.replicate (padN ms.length) false ∧ (∀ u ∈ us, u < 256) ∧ 8 * us.length = ms.length + padN ms.length ∧ padN ms.length ≤ 7 := by
  have hp : padN ms.length ≤ 7 := by unfold padN; omega
  have hl : (ms ++ List.replicate (padN ms.length) false).length = 8 * ((ms.length + padN ms.length) / 8) := by
    rw [List.length_append, List.length_replicate]
    unfold padN
    omega
  obtain ⟨us, h1, h2⟩ := us_any _ _ hl
  refine ⟨us, h1, h2, ?_, hp⟩
  have := congrArg List.length h1
  rw [bits_flat_len, List.length_append, List.length_replicate] at this
  exact this

theorem q_mk_r0 {C : Addr} {E : XK} {σ : L2.St} {H : Hp} {D : Ends} {tz : TS} {i : Nat} {t1 : TE} {xs : List V} (h1 : EvL t1 σ H xs) (k : ∀ a d H', H a = none → a ≠ d → H d = none → Ex H H' → H' d = some (.lst xs) → RdAt C H' a d 0 → tz D (σ.set i (some (.ref a))) H') : tSeq (tAsg (tMake C (sp_rinit C) [.int 0] E (tCons t1 tNil)) (gName i)) tz D σ H :=
  h1 H (Ex.refl H) _ fun d H1 hd e1 g1 => fun x dx hx hdx hne => by
    have hxd : d ≠ x := fresh_ne hx g1
    have hex : ∀ b o, H1 b = some o → upd (upd H1 dx (HO.own x)) x (HO.ins C dx []) b = some o := fun b o hb => by
      rw [upd_ne (fresh_ne hx hb), upd_ne (fresh_ne hdx hb)]
      exact hb
    refine ⟨x, dx, d, 0, rfl, upd_same, by decide, fun H' hF hR => ⟨rfl, k x d H' ?_ hxd.symm hd (fun b o hb => hF b o (fresh_ne hx (e1 _ _ hb)) (hex b o (e1 _ _ hb))) (hF d _ hxd (hex d _ g1)) hR⟩⟩
    cases h : H x with
    | none => rfl
    | some o => rw [e1 _ _ h] at hx; cases hx

theorem q_mkw {C : Addr} {E : XK} {σ : L2.St} {H : Hp} {D : Ends} {tz : TS} {i : Nat} (k : ∀ a L H', H a = none → H L = none → Ex H H' → WrAt C H' a L [] → tz D (σ.set i (some (.ref a))) H') : tSeq (tAsg (tMake C (sp_winit C) [] E tNil) (gName i)) tz D σ H := mk_w (σ := σ) (Q := fun x H' => tz D (σ.set i (some x)) H') k
theorem ev_wmany {σ : L2.St} {H : Hp} {to : TE} {E : XK} {C a L : Addr} {ms : List Bool} (h : Ev to σ H (.ref a)) (hW : WrAt C H a L ms) : Ev (tMeth C "bits_written" (sp_wmany C) [] E to tNil) σ H (.int (ms.length : Int)) := by
  obtain ⟨dx, ws, hd, n, ha, _⟩ := hW.len
  exact ev_mth h ha rfl ea_nil fun H1 e Q q _ => ⟨a, L, ms, rfl, hW.ex e, q⟩

/-! ### the best coding as a plan -/
theorem bestN_val (f : Nat → Int) : ∀ i, (bestN f i).1 = f (bestN f i).2
  | 0 => rfl
  | i + 1 => by
    have ih := bestN_val f i
    unfold bestN
    split
    · rfl
    · exact ih
def cdE (ns : List Int) (m : Nat) : Cd := if widI ns ≤ 31 ∧ rawI ns m < (bestN (costI ns m) (14 + 16 * m)).1 then ⟨true, widI ns⟩ else ⟨false, (bestN (costI ns m) (14 + 16 * m)).2⟩
theorem clen_sum (k : Nat) : ∀ ns : List Int, (((ns.map (clenN k)).sum : Nat) : Int) = (ns.length : Int) * (1 + (k : Int)) + sumI ns k
  | [] => by unfold sumI; simp
  | n :: ns => by
    have ih := clen_sum k ns
    have hf : ((((foldI n).toNat / 2 ^ k : Nat)) : Int) = foldI n / 2 ^ k := by rw [pow_cast, Int.natCast_ediv, Int.toNat_of_nonneg (foldI_nn n)]
    unfold sumI at *
    rw [List.map_cons, List.map_cons, List.sum_cons, List.sum_cons, List.length_cons, Int.natCast_add, ih]
    unfold clenN
    rw [Int.natCast_add, Int.natCast_add, hf, Int.natCast_add, Int.add_mul]
    omega
theorem entF_cd (ns : List Int) (m : Nat) : (entF ns m).1 = (kstr (cdE ns m).raw, ((cdE ns m).num : Int)) ∧ (entF ns m).2 = ((pbits m (cdE ns m) ns : Nat) : Int) := by
  unfold entF cdE
  split
  · refine ⟨rfl, ?_⟩
    unfold rawI pbits
    rw [if_pos rfl, Nat.mul_comm (widI ns)]
    rw [Int.natCast_add, Int.natCast_add, Int.natCast_add, Int.natCast_mul]
    omega
  · refine ⟨rfl, ?_⟩
    show (bestN (costI ns m) (14 + 16 * m)).1 = _
    rw [bestN_val]
    generalize (bestN (costI ns m) (14 + 16 * m)).2 = k
    unfold costI pbits
    rw [if_neg (show ¬ false = true by decide), Int.natCast_add, clen_sum, Int.natCast_add]
    rfl
theorem cdE_ok (ns : List Int) {m : Nat} (hm : m ≤ 1) : cdOk m (cdE ns m) := by
  unfold cdE
  have hb := bestN_le (costI ns m) (14 + 16 * m)
  split
  · rename_i h
    exact ⟨h.1, fun z => by cases z⟩
  · exact ⟨by show (bestN (costI ns m) (14 + 16 * m)).2 ≤ 31; omega, fun _ => by show (bestN (costI ns m) (14 + 16 * m)).2 < 15 + 16 * m; omega⟩
theorem sumI_mem {ns : List Int} {v : Int} (k : Nat) (h : v ∈ ns) : foldI v / 2 ^ k ≤ sumI ns k := by
  induction ns with
  | nil => cases h
  | cons a r ih =>
    have hp := pow_pos2 k
    have h0 : ∀ x : Int, 0 ≤ foldI x / 2 ^ k := fun x => Int.ediv_nonneg (foldI_nn x) (by omega)
    have hs : 0 ≤ sumI r k := by
      unfold sumI
      clear ih h
      induction r with
      | nil => exact Int.le_refl _
      | cons b t ih2 => rw [List.map_cons, List.sum_cons]; have := h0 b; omega
    have e : sumI (a :: r) k = foldI a / 2 ^ k + sumI r k := by unfold sumI; rw [List.map_cons, List.sum_cons]
    rw [e]
    have := h0 a
    rcases List.mem_cons.mp h with rfl | h
    · omega
    · have := ih h
      omega
def cdsE (ns : List Int) (g m p : Nat) : List Cd := (List.range (2 ^ p)).map fun k => cdE (chk ns g p k) m
theorem cdsE_len (ns : List Int) (g m p : Nat) : (cdsE ns g m p).length = 2 ^ p := by unfold cdsE; rw [List.length_map, List.length_range]
theorem cdsE_at {ns : List Int} {g m p k : Nat} (h : k < 2 ^ p) : (cdsE ns g m p)[k]? = some (cdE (chk ns g p k) m) := by unfold cdsE; rw [List.getElem?_map, List.getElem?_range h]; rfl
theorem cdsE_getD {ns : List Int} {g m p k : Nat} (h : k < 2 ^ p) : (cdsE ns g m p).getD k ⟨false, 0⟩ = cdE (chk ns g p k) m := by rw [List.getD_eq_getElem?_getD, cdsE_at h]; rfl
theorem chk_part {ns : List Int} {g p k : Nat} (hw : g ≤ (ns.length + g) / 2 ^ p) : chk ns g p k = partL ns g ((ns.length + g) / 2 ^ p) k := by
  unfold chk cutN partL
  have := start_next (i := k) hw
  unfold startN at *
  generalize (ns.length + g) / 2 ^ p = w at *
  rw [show (k + 1) * w - g - (k * w - g) = sizeN g w k by omega]
theorem tot_bits {ns : List Int} {g m p : Nat} (hw : g ≤ (ns.length + g) / 2 ^ p) : totF (chk ns g p) (2 ^ p) m = ((rbits m (cdsE ns g m p) ns g ((ns.length + g) / 2 ^ p) (2 ^ p) : Nat) : Int) := by
  have h : ∀ i, i ≤ 2 ^ p → 6 + ((List.range i).map fun k => (entF (chk ns g p k) m).2).sum = ((rbits m (cdsE ns g m p) ns g ((ns.length + g) / 2 ^ p) i : Nat) : Int) := fun i => by
    induction i with
    | zero => intro _; rfl
    | succ i ih =>
      intro hi
      have ih := ih (by omega)
      rw [List.range_succ, List.map_append, List.sum_append]
      unfold rbits
      rw [cdsE_getD (by omega), ← chk_part hw, Int.natCast_add, ← ih, ← (entF_cd (chk ns g p i) m).2]
      rw [List.map_cons, List.map_nil, List.sum_cons, List.sum_nil]
      omega
  exact h _ (Nat.le_refl _)
theorem refs_of : ∀ rs : List V, (∀ i, i < rs.length → ∃ t : Addr, rs[i]? = some (.ref t)) → ∃ qs : List Addr, rs = qs.map V.ref
  | [], _ => ⟨[], rfl⟩
  | v :: r, h => by
    obtain ⟨t, ht⟩ := h 0 (by simp)
    cases ht
    obtain ⟨qs, rfl⟩ := refs_of r fun i hi => by
      have := h (i + 1) (by rw [List.length_cons]; omega)
      rwa [List.getElem?_cons_succ] at this
    exact ⟨t :: qs, rfl⟩
theorem cods_cds {H : Hp} {tc : Addr} {rs : List V} {ns : List Int} {g m p : Nat} (ht : H tc = some (.tup rs)) (h : CodAt H rs (codsF (chk ns g p) (2 ^ p) m)) : ∃ qs, CdsT H tc qs (cdsE ns g m p) := by
  have hlen : (codsF (chk ns g p) (2 ^ p) m).length = 2 ^ p := by unfold codsF; rw [List.length_map, List.length_range]
  have hat : ∀ i, i < 2 ^ p → (codsF (chk ns g p) (2 ^ p) m)[i]? = some (entF (chk ns g p i) m).1 := fun i hi => by unfold codsF; rw [List.getElem?_map, List.getElem?_range hi]; rfl
  obtain ⟨qs, rfl⟩ := refs_of rs fun i hi => by
    obtain ⟨t, h1, _⟩ := h.2 i _ (hat i (by have := h.1; omega))
    exact ⟨t, h1⟩
  have hl := h.1
  rw [List.length_map, hlen] at hl
  refine ⟨qs, ht, by rw [cdsE_len, hl], fun i q c h1 h2 => ?_⟩
  have hi : i < 2 ^ p := by have := (List.getElem?_eq_some_iff.mp h1).1; omega
  rw [cdsE_at hi] at h2
  cases h2
  obtain ⟨t, h3, h4⟩ := h.2 i _ (hat i hi)
  rw [List.getElem?_map, h1] at h3
  cases h3
  rw [(entF_cd (chk ns g p i) m).1] at h4
  exact h4
theorem cdsE_ok {ns : List Int} {g m p : Nat} (hm : m ≤ 1) : ∀ c ∈ cdsE ns g m p, cdOk m c := fun c hc => by
  unfold cdsE at hc
  obtain ⟨k, _, rfl⟩ := List.mem_map.mp hc
  exact cdE_ok _ hm

/-! ### codings whose bits are few -/
theorem cdE_valB {ns : List Int} {m : Nat} (hb : ∀ v ∈ ns, -(2 ^ 31) < v ∧ v < 2 ^ 31) (hc : pbits m (cdE ns m) ns ≤ 20000) : ∀ v ∈ ns, valW (cdE ns m) v := fun v hv => by
  have hfl : foldI v ≤ 4294967294 := by have := hb v hv; unfold foldI; split <;> omega
  unfold valW
  by_cases h : (cdE ns m).raw = true
  · rw [if_pos h]
    have hnum : (cdE ns m).num = widI ns := by
      unfold cdE at h ⊢
      split at h
      · rename_i h2
        rw [if_pos h2]
      · cases h
    rw [hnum]
    have hf := widI_le.mp (Nat.le_refl (widI ns)) v hv
    generalize widI ns = w at *
    unfold fitR
    cases w with
    | zero =>
      rw [if_pos rfl]
      have : foldI v < 1 := hf
      exact decide_eq_true (by unfold foldI at this; split at this <;> omega)
    | succ w =>
      rw [if_neg (by omega), Nat.add_sub_cancel]
      rw [pow_cast, Nat.pow_succ] at hf
      generalize 2 ^ w = q at *
      rw [Bool.and_eq_true]
      unfold foldI at hf
      exact ⟨decide_eq_true (by split at hf <;> omega), decide_eq_true (by split at hf <;> omega)⟩
  · rw [if_neg h]
    unfold pbits at hc
    rw [if_neg h] at hc
    generalize (cdE ns m).num = k at *
    have hs := sumI_mem k hv
    have h1 := clen_sum k ns
    have hq : ((((foldI v).toNat / 2 ^ k : Nat)) : Int) = foldI v / 2 ^ k := by rw [pow_cast, Int.natCast_ediv, Int.toNat_of_nonneg (foldI_nn v)]
    have h2 : (0 : Int) ≤ (ns.length : Int) * (1 + (k : Int)) := Int.mul_nonneg (by omega) (by omega)
    exact ⟨by omega, hfl⟩
theorem pb_le {m : Nat} {cds : List Cd} {rs : List Int} {o w : Nat} : ∀ {n i : Nat}, i < n → pbits m (cds.getD i ⟨false, 0⟩) (partL rs o w i) ≤ rbits m cds rs o w n
  | n + 1, i, h => by
    unfold rbits
    by_cases e : i = n
    · rw [e]; omega
    · have := pb_le (m := m) (cds := cds) (rs := rs) (o := o) (w := w) (show i < n by omega)
      omega
theorem cdsE_valB {ns : List Int} {g m p : Nat} (hw : g ≤ (ns.length + g) / 2 ^ p) (hb : ∀ v ∈ ns, -(2 ^ 31) < v ∧ v < 2 ^ 31) (hc : rbits m (cdsE ns g m p) ns g ((ns.length + g) / 2 ^ p) (2 ^ p) ≤ 20000) : ∀ i, i < 2 ^ p → ∀ v ∈ partL ns g ((ns.length + g) / 2 ^ p) i, valW ((cdsE ns g m p).getD i ⟨false, 0⟩) v := fun i hi v hv => by
  have h1 := pb_le (m := m) (cds := cdsE ns g m p) (rs := ns) (o := g) (w := (ns.length + g) / 2 ^ p) hi
  rw [cdsE_getD hi] at h1 ⊢
  rw [← chk_part hw] at hv h1
  refine cdE_valB (fun x hx => hb x ?_) (by omega) v hv
  unfold chk cutN at hx
  exact List.mem_of_mem_drop (List.mem_of_mem_take hx)
theorem sfB_prd_len {D : Nat} {s : Sf} {xs : List Int} (hp : prd s.kd = true) (ho : ordS s ≤ xs.length) : (sfB D s xs).length = 8 + s.lo + (ordS s * (D - s.lo) + (linB s).length + rbits s.m s.cds (resS s (vls s xs)) (ordS s) (xs.length / 2 ^ s.n) (2 ^ s.n)) := by
  rw [sfB_len, bod_prd hp]
  unfold prdB
  rw [List.length_append, List.length_append, sgs_len, List.length_take, planB_len, vls_len, Nat.min_eq_left ho]

-- BS
/-! ### min, max of a list of numbers -/
theorem foldl_min : ∀ (ns : List Int) (d : Int), (ns.foldl min d = d ∨ ns.foldl min d ∈ ns) ∧ ns.foldl min d ≤ d ∧ ∀ n ∈ ns, ns.foldl min d ≤ n
  | [], d => ⟨.inl rfl, Int.le_refl _, fun n hn => by cases hn⟩
  | x :: r, d => by
    obtain ⟨h1, h2, h3⟩ := foldl_min r (min d x)
    show (r.foldl min (min d x) = d ∨ r.foldl min (min d x) ∈ x :: r) ∧ r.foldl min (min d x) ≤ d ∧ ∀ n ∈ x :: r, r.foldl min (min d x) ≤ n
    refine ⟨?_, by omega, fun n hn => ?_⟩
    · rcases h1 with h | h
      · rw [h]
        by_cases hd : d ≤ x
        · exact .inl (Int.min_eq_left hd)
        · exact .inr (by rw [Int.min_eq_right (by omega)]; exact List.mem_cons_self ..)
      · exact .inr (List.mem_cons_of_mem _ h)
    · rcases List.mem_cons.mp hn with rfl | hn
      · omega
      · exact h3 n hn
def minL (ns : List Int) : Int := ns.tail.foldl min (ns.headD 0)
def maxL (ns : List Int) : Int := ns.tail.foldl max (ns.headD 0)
theorem minL_is {ns : List Int} (h : 0 < ns.length) : minL ns ∈ ns ∧ ∀ y ∈ ns, minL ns ≤ y := by
  cases ns with
  | nil => exact absurd h (by decide)
  | cons x r =>
    obtain ⟨h1, h2, h3⟩ := foldl_min r x
    show r.foldl min x ∈ x :: r ∧ ∀ y ∈ x :: r, r.foldl min x ≤ y
    refine ⟨?_, fun y hy => ?_⟩
    · rcases h1 with e | e
      · rw [e]
        exact List.mem_cons_self ..
      · exact List.mem_cons_of_mem _ e
    · rcases List.mem_cons.mp hy with rfl | hy
      · exact h2
      · exact h3 y hy
theorem maxL_is {ns : List Int} (h : 0 < ns.length) : maxL ns ∈ ns ∧ ∀ y ∈ ns, y ≤ maxL ns := by
  cases ns with
  | nil => exact absurd h (by decide)
  | cons x r =>
    obtain ⟨h1, h2, h3⟩ := foldl_max r x
    show r.foldl max x ∈ x :: r ∧ ∀ y ∈ x :: r, y ≤ r.foldl max x
    refine ⟨?_, fun y hy => ?_⟩
    · rcases h1 with e | e
      · rw [e]
        exact List.mem_cons_self ..
      · exact List.mem_cons_of_mem _ e
    · rcases List.mem_cons.mp hy with rfl | hy
      · exact h2
      · exact h3 y hy
theorem ev_minL {K : PySem.W.Frag} {σ : L2.St} {H : Hp} {te : TE} {ns : List Int} (h : EvS K te σ H (ns.map V.int)) (hl : 0 < ns.length) : Ev (tCB (rMin K) (tCons te tNil)) σ H (.int (minL ns)) := fun H1 e Q q =>
  h H1 e _ fun p H2 e2 hp => ⟨p, ns, rfl, hp, hl, fun m hm ha => by
    obtain ⟨h1, h2⟩ := minL_is hl
    have : m = minL ns := Int.le_antisymm (ha _ h1) (h2 _ hm)
    rw [this]
    exact q H2 e2⟩
theorem ev_maxL {K : PySem.W.Frag} {σ : L2.St} {H : Hp} {te : TE} {ns : List Int} (h : EvS K te σ H (ns.map V.int)) (hl : 0 < ns.length) : Ev (tCB (rMax K) (tCons te tNil)) σ H (.int (maxL ns)) := fun H1 e Q q =>
  h H1 e _ fun p H2 e2 hp => ⟨p, ns, rfl, hp, hl, fun m hm ha => by
    obtain ⟨h1, h2⟩ := maxL_is hl
    have : m = maxL ns := Int.le_antisymm (h2 _ hm) (ha _ h1)
    rw [this]
    exact q H2 e2⟩

/-! ### weights, autocorrelation -/
def wgt (ns : List Int) : List Int := (List.range ns.length).map fun i => ns.getD i 0 * ((i : Int) + 1) * ((ns.length : Int) - i)
theorem wgt_len (ns : List Int) : (wgt ns).length = ns.length := by unfold wgt; rw [List.length_map, List.length_range]
theorem wgt_at {ns : List Int} {i : Nat} {n : Int} (h : ns[i]? = some n) : (wgt ns)[i]? = some (n * ((i : Int) + 1) * ((ns.length : Int) - i)) := by
  have hi := (List.getElem?_eq_some_iff.mp h).1
  unfold wgt
  rw [List.getElem?_map, List.getElem?_range hi]
  show some (ns.getD i 0 * _ * _) = _
  rw [List.getD_eq_getElem?_getD, h]
  rfl

def sp_weighted (K : PySem.W.Frag) : Sp := fun vs H Q _ => ∃ (a : Addr) (ns : List Int), vs = [.ref a] ∧ SqL K H a (ns.map V.int) ∧ ns.length ≤ 1000 ∧ RetL ((wgt ns).map V.int) H Q
theorem ok_weighted (T : TX K mg) : FnOk P w K mg base CX0 1 T.a_weighted T.d_weighted ["samples"] (sp_weighted K) := by
  refine T.F_weighted.ok sc_weighted (fun vs H Q E h => by obtain ⟨a, ns, rfl, _⟩ := h; rfl) (fun cdv A outer s0 H vs Q E hr h => ?_)
  obtain ⟨a, ns, rfl, hS, hl, k⟩ := h
  refine ⟨_, (pss_cons (ps_set (i := 1) sc_weighted.nd rfl (Or.inr rfl) (pe_callB (r := rLenS K) call_len_seq (by rfl) T.m_len PySem.boot_len (pa_cons (pv 0) pa_nil)))
      (pss_one (ps_ret (pe_lc (own := [("at", 2), ("sample", 3)]) (g := (gTup K 2 (gCons (gName 2) (gCons (gName 3) gNil)))) (tt := tYes) rfl sc_weighted.nd (pi_enum (by rfl) T.m_enumerate (pa_cons (pv 0) pa_nil)) (blkOk_by (N := ["samples", "many", "at", "sample"]) (sc := defScope s_weighted) (by decide +kernel)) (fun _ _ _ _ _ => (pg_tup rfl (pgs_cons (pg_name (i := 2) sc_weighted.nd rfl (Or.inl rfl)) (pgs_cons (pg_name (i := 3) sc_weighted.nd rfl (Or.inl rfl)) pgs_nil)))) (fun _ _ _ _ _ => pts_nil) (fun _ _ _ _ _ => (pe_op op_mul (pe_op op_mul (pv 3) (pe_op op_add (pv 2) pe_int)) (pe_op op_sub (pv 1) (pv 2)))))))), ?_⟩
  refine q_asg (v := .int (ns.length : Int)) (Ev.is (ev_lenS (Ev.s (ev_var rfl) hS)) (by rw [List.length_map])) fun H1 e1 => ?_
  refine s_retL (el_lcE (xs := ns.map V.int) ((wgt ns).map V.int) (Ev.s (ev_var rfl) (ex_l e1 hS)) (by rw [List.length_map, List.length_map, wgt_len]) (by rw [List.length_map, wgt_len]; omega) (fun _ _ => rfl) fun i x H2 e2 hx => ?_) fun p H2 hp e2 g2 => k.go e1 hp e2 g2
  obtain ⟨n, hn, hi, rfl⟩ := int_at hx
  exact ⟨_, at_int (wgt_at hn), ev_I (ev_I (ev_var rfl) (ev_I0 (ev_var rfl) ev_c) (.inr ⟨by omega, by omega⟩)) (ev_I0 (ev_var rfl) (ev_var rfl)) (.inr ⟨by omega, by omega⟩)⟩
theorem el_weighted {σ : L2.St} {H : Hp} {te : TE} {E : XK} {ns : List Int} (h : EvS K te σ H (ns.map V.int)) (hl : ns.length ≤ 1000) : EvL (tCall (sp_weighted K) [] E (tCons te tNil)) σ H ((wgt ns).map V.int) := fun H1 e Q q =>
  h H1 e _ fun p H2 e2 hp => ⟨p, ns, rfl, hp, hl, fun r H3 hr e3 g3 => q r H3 (fresh_back e2 hr) (e2.trans e3) g3⟩
def lagS (ns : List Int) (d : Nat) : Int := (List.zipWith (fun x y => x * y) (ns.drop d) ns).sum
def acor (ns : List Int) (m : Nat) : List Int := (List.range (m + 1)).map (lagS ns)
theorem acor_len (ns : List Int) (m : Nat) : (acor ns m).length = m + 1 := by unfold acor; rw [List.length_map, List.length_range]
theorem acor_at {ns : List Int} {m i : Nat} (h : i < m + 1) : (acor ns m)[i]? = some (lagS ns i) := by unfold acor; rw [List.getElem?_map, List.getElem?_range h]; rfl
def BdA (ns : List Int) : Prop := ∀ n ∈ ns, -(2 ^ 60) < n ∧ n < 2 ^ 60

def sp_acor (K : PySem.W.Frag) : Sp := fun vs H Q _ => ∃ (a : Addr) (ns : List Int) (m : Nat), vs = [.ref a, .int (m : Int)] ∧ SqL K H a (ns.map V.int) ∧ ns.length ≤ 1000 ∧ m ≤ 1000 ∧ BdA ns ∧ RetL ((acor ns m).map V.int) H Q
theorem ok_autocorrelation (T : TX K mg) : FnOk P w K mg base CX0 1 T.a_autocorrelation T.d_autocorrelation ["values", "most"] (sp_acor K) := by
  refine T.F_autocorrelation.ok sc_autocorrelation (fun vs H Q E h => by obtain ⟨a, ns, m, rfl, _⟩ := h; rfl) (fun cdv A outer s0 H vs Q E hr h => ?_)
  obtain ⟨a, ns, m, rfl, hS, hl, hm, hbd, k⟩ := h
  refine ⟨_, (pss_one (ps_ret (pe_lc (own := [("lag", 2)]) (g := gName 2) (tt := tYes) rfl sc_autocorrelation.nd (pi_range1 (by rfl) T.m_range (pa_cons (pe_op op_add (pv 1) pe_int) pa_nil)) (blkOk_by (N := ["values", "most", "lag", "a", "b"]) (sc := defScope s_autocorrelation) (by decide +kernel)) (fun _ _ _ _ _ => pg_name (i := 2) sc_autocorrelation.nd rfl (Or.inl rfl)) (fun _ _ _ _ _ => pts_nil) (fun _ _ _ _ _ => (pe_callB (r := rSum K) (cr_sum rfl) (by rfl) T.m_sum PyProof.Rows.boot_sum (pa_cons (by exact pe_lc (own := [("a", 3), ("b", 4)]) (g := (gTup K 2 (gCons (gName 3) (gCons (gName 4) gNil)))) (tt := tYes) rfl sc_autocorrelation.nd (PI.k (wi' := iZip K _) (pi_zip (by rfl) T.m_zip (pa_cons (pe_slice (r := rSlL K) sl_list (pv 0) (po_some (pv 2)) po_none) (pa_cons (pv 0) pa_nil))) rfl) (blkOk_by (N := ["values", "most", "lag", "a", "b"]) (sc := relS _ (defScope s_autocorrelation)) (by decide +kernel)) (fun _ _ _ _ _ => (pg_tup rfl (pgs_cons (pg_name (i := 3) sc_autocorrelation.nd rfl (Or.inl rfl)) (pgs_cons (pg_name (i := 4) sc_autocorrelation.nd rfl (Or.inl rfl)) pgs_nil)))) (fun _ _ _ _ _ => pts_nil) (fun _ _ _ _ _ => (pe_op op_mul (pv 3) (pv 4)))) pa_nil)))))), ?_⟩
  refine s_retL (el_lcR (n := (m : Int) + 1) ((acor ns m).map V.int) (ea_cons (ev_I0 (ev_var rfl) ev_c) ea_nil) (by omega) (by rw [List.length_map, acor_len]; omega) (by rw [List.length_map, acor_len]; omega) (fun _ => rfl) fun i H1 e1 hi => ?_) fun p H2 hp e2 g2 => k p H2 hp e2 g2
  rw [List.length_map, acor_len] at hi
  refine ⟨_, at_int (acor_at hi), ?_⟩
  refine ev_sum (K := K) (ns := List.zipWith (fun x y => x * y) (ns.drop i) ns) (EvR.s (EvL.r (el_lcZ (K := K) (xs := (ns.drop i).map V.int) (ys := ns.map V.int) ((List.zipWith (fun x y => x * y) (ns.drop i) ns).map V.int) (EvR.s (EvL.r (el_from (Ev.s (ev_var rfl) (ex_l e1 hS)) (ev_var rfl)))) (Ev.s (ev_var rfl) (ex_l e1 hS)) (by rw [List.length_map, List.length_zipWith, List.length_map, List.length_map]) (by rw [List.length_map, List.length_zipWith]; omega) (fun x y => rfl) fun j x y H2 e2 hx hy => ?_)))
  obtain ⟨n, hn, hi, rfl⟩ := int_at hx
  obtain ⟨q, hq, hj, rfl⟩ := int_at hy
  have h1 := hbd q (List.mem_iff_getElem?.mpr ⟨j, hq⟩)
  exact ⟨.int (n * q), at_int (by rw [List.getElem?_zipWith, hn, hq]), ev_I (ev_var rfl) (ev_var rfl) (.inr ⟨by omega, by omega⟩)⟩
theorem el_acor {σ : L2.St} {H : Hp} {te tm : TE} {E : XK} {ns : List Int} {m : Nat} (h : EvS K te σ H (ns.map V.int)) (hM : Ev tm σ H (.int (m : Int))) (hl : ns.length ≤ 1000) (hm : m ≤ 1000) (hb : BdA ns) : EvL (tCall (sp_acor K) [] E (tCons te (tCons tm tNil))) σ H ((acor ns m).map V.int) := fun H1 e Q q =>
  h H1 e _ fun p H2 e2 hp => hM H2 (e.trans e2) _ fun H3 e3 => ⟨p, ns, m, rfl, ex_l e3 hp, hl, hm, hb, fun r H4 hr e4 g4 => q r H4 (fresh_back (e2.trans e3) hr) ((e2.trans e3).trans e4) g4⟩

/-! ### the law's sums -/
def lagN (ns : List Int) (d : Nat) (i : Nat) : Int := ((List.range (i - d)).map fun t => ns.getD (t + d) 0 * ns.getD t 0).sum
theorem lagS_N (ns : List Int) (d : Nat) : lagS ns d = lagN ns d ns.length := by
  unfold lagS lagN
  congr 1
  apply List.ext_getElem?
  intro t
  rw [List.getElem?_zipWith, List.getElem?_drop, List.getElem?_map]
  by_cases h : t < ns.length - d
  · rw [List.getElem?_range h, gl_get (ns := ns) (i := d + t) (by omega), gl_get (ns := ns) (i := t) (by omega)]
    show some (ns.getD (d + t) 0 * ns.getD t 0) = some (ns.getD (t + d) 0 * ns.getD t 0)
    rw [Nat.add_comm]
  · rw [List.getElem?_eq_none (l := ns) (i := d + t) (by omega), List.getElem?_eq_none (l := List.range (ns.length - d)) (by rw [List.length_range]; omega)]
    rfl
namespace DT
/-! ### sums and determinants -/
/-- the sum of f below n -/
def S : Nat → (Nat → Int) → Int
  | 0, _ => 0
  | n + 1, f => S n f + f n
theorem S_congr {f g : Nat → Int} : ∀ {n : Nat}, (∀ i, i < n → f i = g i) → S n f = S n g
  | 0, _ => rfl
  | n + 1, h => by
    show S n f + f n = S n g + g n
    rw [S_congr (fun i hi => h i (by omega)), h n (by omega)]
theorem S_add (f g : Nat → Int) : ∀ n, S n (fun i => f i + g i) = S n f + S n g
  | 0 => rfl
  | n + 1 => by
    show S n _ + (f n + g n) = S n f + f n + (S n g + g n)
    rw [S_add f g n]
    omega
theorem S_mul (c : Int) (f : Nat → Int) : ∀ n, S n (fun i => c * f i) = c * S n f
  | 0 => (Int.mul_zero c).symm
  | n + 1 => by
    show S n _ + c * f n = c * (S n f + f n)
    rw [S_mul c f n, Int.mul_add]
theorem S_mulr (c : Int) (f : Nat → Int) (n : Nat) : S n (fun i => f i * c) = S n f * c := by
  rw [Int.mul_comm, ← S_mul]
  exact S_congr fun i _ => Int.mul_comm _ _
theorem S_neg (f : Nat → Int) (n : Nat) : S n (fun i => -f i) = -S n f := by
  have h := S_mul (-1) f n
  rw [Int.neg_one_mul] at h
  rw [← h]
  exact S_congr fun i _ => (Int.neg_one_mul _).symm
theorem S_sub (f g : Nat → Int) (n : Nat) : S n (fun i => f i - g i) = S n f - S n g := by
  have h := S_add f (fun i => -g i) n
  rw [S_neg] at h
  rw [Int.sub_eq_add_neg, ← h]
  exact S_congr fun i _ => Int.sub_eq_add_neg
theorem S_zero {f : Nat → Int} : ∀ {n : Nat}, (∀ i, i < n → f i = 0) → S n f = 0
  | 0, _ => rfl
  | n + 1, h => by
    show S n f + f n = 0
    rw [S_zero (fun i hi => h i (by omega)), h n (by omega)]
    rfl
theorem S_one {f : Nat → Int} {i : Nat} : ∀ {n : Nat}, i < n → (∀ j, j < n → j ≠ i → f j = 0) → S n f = f i
  | 0, h, _ => by omega
  | n + 1, h, h0 => by
    show S n f + f n = f i
    by_cases e : i = n
    · subst e
      rw [S_zero fun j hj => h0 j (by omega) (by omega), Int.zero_add]
    · rw [S_one (i := i) (by omega) fun j hj hne => h0 j (by omega) hne, h0 n (by omega) (by omega), Int.add_zero]
theorem S_two {f : Nat → Int} {i : Nat} : ∀ {n : Nat}, i + 1 < n → (∀ j, j < n → j ≠ i → j ≠ i + 1 → f j = 0) → S n f = f i + f (i + 1)
  | 0, h, _ => by omega
  | n + 1, h, h0 => by
    show S n f + f n = _
    by_cases e : i + 1 = n
    · subst e
      rw [S_one (i := i) (by omega) fun j hj hne => h0 j (by omega) hne (by omega)]
    · rw [S_two (i := i) (by omega) fun j hj h1 h2 => h0 j (by omega) h1 h2, h0 n (by omega) (by omega) (by omega), Int.add_zero]
theorem S_comm (f : Nat → Nat → Int) (m : Nat) : ∀ n, S n (fun i => S m (fun j => f i j)) = S m (fun j => S n (fun i => f i j))
  | 0 => (S_zero fun _ _ => rfl).symm
  | n + 1 => by
    show S n _ + S m (f n) = S m fun j => S n (fun i => f i j) + f n j
    rw [S_comm f m n, ← S_add]
theorem S_first (f : Nat → Int) : ∀ n, S (n + 1) f = f 0 + S n (fun i => f (i + 1))
  | 0 => by show (0 : Int) + f 0 = f 0 + 0; omega
  | n + 1 => by
    show S (n + 1) f + f (n + 1) = f 0 + (S n (fun i => f (i + 1)) + f (n + 1))
    rw [S_first f n]
    omega
theorem S_rev (f : Nat → Int) : ∀ n, S n (fun i => f (n - 1 - i)) = S n f
  | 0 => rfl
  | n + 1 => by
    rw [S_first]
    show f (n - 0) + S n (fun i => f (n - (i + 1))) = S n f + f n
    rw [← S_rev f n, S_congr (f := fun i => f (n - (i + 1))) (g := fun i => f (n - 1 - i)) fun i _ => by rw [show n - (i + 1) = n - 1 - i by omega]]
    show f n + _ = _
    omega
def sg (j : Nat) : Int := if j % 2 = 0 then 1 else -1
theorem sg_succ (j : Nat) : sg (j + 1) = -sg j := by
  unfold sg
  by_cases h : j % 2 = 0
  · rw [if_pos h, if_neg (by omega)]
  · rw [if_neg h, if_pos (by omega)]; rfl
def del (j : Nat) (A : Nat → Nat → Int) : Nat → Nat → Int := fun i r => A (if i < j then i else i + 1) (r + 1)
def det : Nat → (Nat → Nat → Int) → Int
  | 0, _ => 1
  | n + 1, A => S (n + 1) fun j => sg j * A j 0 * det n (del j A)
def rp (A : Nat → Nat → Int) (i : Nat) (v : Nat → Int) : Nat → Nat → Int := fun j => if j = i then v else A j
theorem rp_at (A : Nat → Nat → Int) (i : Nat) (v : Nat → Int) : rp A i v i = v := if_pos rfl
theorem rp_ne {A : Nat → Nat → Int} {i j : Nat} {v : Nat → Int} (h : j ≠ i) : rp A i v j = A j := if_neg h
theorem rp_self (A : Nat → Nat → Int) (i : Nat) : rp A i (A i) = A := by
  funext j
  unfold rp
  split
  · rename_i h; rw [h]
  · rfl
theorem det_congr : ∀ {n : Nat} {A B : Nat → Nat → Int}, (∀ j r, j < n → r < n → A j r = B j r) → det n A = det n B
  | 0, _, _, _ => rfl
  | n + 1, A, B, h => by
    refine S_congr fun j hj => ?_
    rw [h j 0 hj (by omega), det_congr (A := del j A) (B := del j B) fun i r hi hr => h _ _ (by split <;> omega) (by omega)]
theorem del_same (A : Nat → Nat → Int) (i : Nat) (v : Nat → Int) : del i (rp A i v) = del i A := by
  funext m r
  unfold del
  rw [rp_ne (by split <;> omega)]
theorem del_lt {A : Nat → Nat → Int} {i j : Nat} (v : Nat → Int) (h : j < i) : del j (rp A i v) = rp (del j A) (i - 1) fun r => v (r + 1) := by
  funext m r
  unfold del
  by_cases e : m = i - 1
  · subst e
    rw [rp_at, if_neg (by omega), show i - 1 + 1 = i by omega, rp_at]
  · rw [rp_ne e, rp_ne (by split <;> omega)]
theorem del_gt {A : Nat → Nat → Int} {i j : Nat} (v : Nat → Int) (h : i < j) : del j (rp A i v) = rp (del j A) i fun r => v (r + 1) := by
  funext m r
  unfold del
  by_cases e : m = i
  · subst e
    rw [rp_at, if_pos h, rp_at]
  · rw [rp_ne e, rp_ne (by split <;> omega)]
theorem det_lin (a b : Int) (u v : Nat → Int) : ∀ {n : Nat} {A : Nat → Nat → Int} {i : Nat}, i < n → det n (rp A i fun r => a * u r + b * v r) = a * det n (rp A i u) + b * det n (rp A i v) := by
  intro n
  induction n generalizing u v with
  | zero => intro A i h; omega
  | succ n ih =>
    intro A i hi
    show S (n + 1) _ = a * S (n + 1) _ + b * S (n + 1) _
    rw [← S_mul, ← S_mul, ← S_add]
    refine S_congr fun j hj => ?_
    by_cases e : j = i
    · subst e
      rw [del_same, del_same, del_same, rp_at, rp_at, rp_at]
      grind
    · rw [rp_ne e, rp_ne e, rp_ne e]
      rcases Nat.lt_or_gt_of_ne e with h | h
      · rw [del_lt _ h, del_lt _ h, del_lt _ h, ih (fun r => u (r + 1)) (fun r => v (r + 1)) (by omega)]
        grind
      · rw [del_gt _ h, del_gt _ h, del_gt _ h, ih (fun r => u (r + 1)) (fun r => v (r + 1)) (by omega)]
        grind
theorem det_adj : ∀ {n : Nat} {A : Nat → Nat → Int} {i : Nat}, i + 1 < n → A i = A (i + 1) → det n A = 0 := by
  intro n
  induction n with
  | zero => intro A i h; omega
  | succ n ih =>
    intro A i hi he
    show S (n + 1) _ = 0
    rw [S_two (i := i) hi fun j hj h1 h2 => ?_]
    · have hd : del i A = del (i + 1) A := by
        funext m r
        unfold del
        by_cases e : m = i
        · subst e
          rw [if_neg (by omega), if_pos (by omega), he]
        · by_cases h : m < i
          · rw [if_pos h, if_pos (by omega)]
          · rw [if_neg h, if_neg (by omega)]
      rw [hd, he, sg_succ]
      grind
    · rcases Nat.lt_or_ge j i with h | h
      · rw [ih (A := del j A) (i := i - 1) (by omega) (by
          funext r
          unfold del
          rw [if_neg (by omega), if_neg (by omega), show i - 1 + 1 = i by omega, he])]
        exact Int.mul_zero _
      · rw [ih (A := del j A) (i := i) (by omega) (by
          funext r
          unfold del
          rw [if_pos (by omega), if_pos (by omega), he])]
        exact Int.mul_zero _
theorem rp_comm (A : Nat → Nat → Int) {i j : Nat} (h : i ≠ j) (u v : Nat → Int) : rp (rp A i u) j v = rp (rp A j v) i u := by
  funext m
  unfold rp
  by_cases e1 : m = i
  · subst e1
    rw [if_neg h, if_pos rfl, if_pos rfl]
  · by_cases e2 : m = j
    · subst e2
      rw [if_pos rfl, if_neg e1, if_pos rfl]
    · rw [if_neg e2, if_neg e1, if_neg e1, if_neg e2]
theorem det_swap {n : Nat} {A : Nat → Nat → Int} {i : Nat} (h : i + 1 < n) (u v : Nat → Int) : det n (rp (rp A i u) (i + 1) v) = -det n (rp (rp A i v) (i + 1) u) := by
  have ne : i ≠ i + 1 := by omega
  have B : ∀ x y : Nat → Int, x = y → det n (rp (rp A i x) (i + 1) y) = 0 := fun x y e => det_adj h (by rw [rp_ne ne, rp_at, rp_at, e])
  have l1 : ∀ x, det n (rp (rp A i x) (i + 1) fun r => 1 * u r + 1 * v r) = det n (rp (rp A i x) (i + 1) u) + det n (rp (rp A i x) (i + 1) v) := fun x => by rw [det_lin 1 1 u v h, Int.one_mul, Int.one_mul]
  have l2 : ∀ y, det n (rp (rp A i fun r => 1 * u r + 1 * v r) (i + 1) y) = det n (rp (rp A i u) (i + 1) y) + det n (rp (rp A i v) (i + 1) y) := fun y => by
    rw [rp_comm A ne, det_lin 1 1 u v (by omega : i < n), Int.one_mul, Int.one_mul, rp_comm A ne, rp_comm A ne]
  have h0 := B (fun r => 1 * u r + 1 * v r) _ rfl
  rw [l2, l1, l1, B u u rfl, B v v rfl] at h0
  omega
theorem det_alt {n : Nat} : ∀ (d : Nat) {A : Nat → Nat → Int} {i : Nat}, i + d + 1 < n → A i = A (i + d + 1) → det n A = 0
  | 0, A, i, h, e => det_adj h e
  | d + 1, A, i, h, e => by
    have h1 : rp (rp A (i + d + 1) (A (i + d + 1))) (i + d + 1 + 1) (A (i + d + 1 + 1)) = A := by rw [rp_self, rp_self]
    rw [← h1, det_swap (by omega), det_alt d (i := i) (by omega)]
    · rfl
    · rw [rp_ne (by omega), rp_ne (by omega), rp_ne (by omega), rp_at]
      exact e
theorem det_eq {n i j : Nat} {A : Nat → Nat → Int} (hi : i < n) (hj : j < n) (hne : i ≠ j) (e : A i = A j) : det n A = 0 := by
  rcases Nat.lt_or_gt_of_ne hne with h | h
  · obtain ⟨d, rfl⟩ : ∃ d, j = i + d + 1 := ⟨j - i - 1, by omega⟩
    exact det_alt d hj e
  · obtain ⟨d, rfl⟩ : ∃ d, i = j + d + 1 := ⟨i - j - 1, by omega⟩
    exact det_alt d hi e.symm
theorem det_comb {n i : Nat} {A : Nat → Nat → Int} (x : Nat → Int) (hi : i < n) : ∀ m, m ≤ n → det n (rp A i fun r => S m fun j => x j * A j r) = if i < m then x i * det n A else 0
  | 0, _ => by
    have h := det_lin (n := n) (A := A) (i := i) 0 0 (fun _ => 0) (fun _ => 0) hi
    rw [Int.zero_mul, Int.zero_mul, Int.add_zero] at h
    rw [if_neg (by omega)]
    exact h
  | m + 1, hm => by
    have h := det_lin (n := n) (A := A) (i := i) 1 (x m) (fun r => S m fun j => x j * A j r) (A m) hi
    rw [det_comb x hi m (by omega), Int.one_mul] at h
    have e : (fun r => S (m + 1) fun j => x j * A j r) = fun r => 1 * S m (fun j => x j * A j r) + x m * A m r := by
      funext r
      rw [Int.one_mul]
      rfl
    rw [e, h]
    by_cases c : i = m
    · subst c
      rw [rp_self, if_neg (by omega), if_pos (by omega), Int.zero_add]
    · rw [det_eq (A := rp A i (A m)) hi (show m < n by omega) c (by rw [rp_at, rp_ne (fun z => c z.symm)]), Int.mul_zero, Int.add_zero]
      by_cases c2 : i < m
      · rw [if_pos c2, if_pos (by omega)]
      · rw [if_neg c2, if_neg (by omega)]
theorem cramer {n i : Nat} {A : Nat → Nat → Int} {v x : Nat → Int} (hi : i < n) (h : ∀ r, r < n → v r = S n fun j => x j * A j r) : det n (rp A i v) = x i * det n A := by
  have e := det_comb (A := A) x hi n (Nat.le_refl n)
  rw [if_pos hi] at e
  rw [← e]
  refine det_congr fun j r hj hr => ?_
  unfold rp
  split
  · exact h r hr
  · rfl
theorem det_last : ∀ {n : Nat} {A : Nat → Nat → Int}, (∀ r, r < n → A n r = 0) → det (n + 1) A = A n n * det n A
  | 0, A, _ => by
    show (0 : Int) + sg 0 * A 0 0 * 1 = A 0 0 * 1
    unfold sg
    rw [if_pos rfl]
    omega
  | n + 1, A, h => by
    show S (n + 1) (fun j => sg j * A j 0 * det (n + 1) (del j A)) + sg (n + 1) * A (n + 1) 0 * det (n + 1) (del (n + 1) A) = A (n + 1) (n + 1) * S (n + 1) fun j => sg j * A j 0 * det n (del j A)
    rw [h 0 (by omega), Int.mul_zero, Int.zero_mul, Int.add_zero, ← S_mul]
    refine S_congr fun j hj => ?_
    have hn : ∀ r, del j A n r = A (n + 1) (r + 1) := fun r => by unfold del; rw [if_neg (by omega)]
    rw [det_last (A := del j A) fun r hr => by rw [hn]; exact h _ (by omega), hn]
    grind
/-! ### one step of an elimination without fractions -/
variable {A : Nat → Nat → Int} {k : Nat}
/-- column x of the solutions of the leading k rows -/
def Sol (A : Nat → Nat → Int) (k : Nat) (u b : Nat → Int) : Prop := ∀ r, r < k → S k (fun l => u l * A l r) = det k A * b r
/-- what is left of b at row r -/
def rem (A : Nat → Nat → Int) (k : Nat) (u b : Nat → Int) (r : Nat) : Int := det k A * b r - S k fun l => u l * A l r
theorem rem_det {v : Nat → Int} (h : Sol A k v (A k)) (h0 : det k A ≠ 0) : rem A k v (A k) k = det (k + 1) A := by
  have e1 : det (k + 1) (rp A k fun r => rem A k v (A k) r) = rem A k v (A k) k * det k A := by
    rw [det_last (A := rp A k fun r => rem A k v (A k) r) fun r hr => by
      rw [rp_at]
      unfold rem
      rw [h r hr]
      omega]
    rw [rp_at]
    congr 1
    exact det_congr fun j r hj hr => by rw [rp_ne (by omega)]
  have e2 := cramer (n := k + 1) (i := k) (A := A) (v := fun r => rem A k v (A k) r) (x := fun j => if j = k then det k A else -v j) (by omega) fun r hr => by
    show rem A k v (A k) r = S k (fun j => (if j = k then det k A else -v j) * A j r) + (if k = k then det k A else -v k) * A k r
    rw [if_pos rfl, S_congr (g := fun l => -(v l * A l r)) fun j hj => by rw [if_neg (by omega), Int.neg_mul], S_neg]
    unfold rem
    omega
  rw [e1, if_pos rfl, Int.mul_comm] at e2
  exact Int.eq_of_mul_eq_mul_left h0 e2
theorem step {u v b : Nat → Int} (hu : Sol A k u b) (hv : Sol A k v (A k)) (h0 : det k A ≠ 0) (h1 : det (k + 1) A ≠ 0) {i : Nat} (hi : i < k) : det (k + 1) A * u i - rem A k u b k * v i = det k A * det (k + 1) (rp A i b) := by
  have hg := rem_det hv h0
  have key := cramer (n := k + 1) (i := i) (A := A) (v := fun r => (det k A * det (k + 1) A) * b r) (x := fun j => if j = k then det k A * rem A k u b k else det (k + 1) A * u j - rem A k u b k * v j) (by omega) fun r hr => by
    show (det k A * det (k + 1) A) * b r = S k (fun j => (if j = k then det k A * rem A k u b k else det (k + 1) A * u j - rem A k u b k * v j) * A j r) + (if k = k then det k A * rem A k u b k else _) * A k r
    rw [if_pos rfl, S_congr (g := fun j => det (k + 1) A * (u j * A j r) - rem A k u b k * (v j * A j r)) fun j hj => by rw [if_neg (by omega)]; grind, S_sub, S_mul, S_mul]
    by_cases hrk : r < k
    · rw [hu r hrk, hv r hrk]
      grind
    · obtain rfl : r = k := by omega
      have a1 : S r (fun l => u l * A l r) = det r A * b r - rem A r u b r := by unfold rem; omega
      have a2 : S r (fun l => v l * A l r) = det r A * A r r - det (r + 1) A := by rw [← hg]; unfold rem; omega
      rw [a1, a2]
      grind
  have l := det_lin (n := k + 1) (A := A) (i := i) (det k A * det (k + 1) A) 0 b (fun _ => 0) (by omega)
  have e : (fun r => det k A * det (k + 1) A * b r + 0 * 0) = fun r => (det k A * det (k + 1) A) * b r := by funext r; omega
  rw [e, key, if_neg (by omega), Int.zero_mul, Int.add_zero] at l
  refine Int.eq_of_mul_eq_mul_left h1 ?_
  grind
theorem step_last {u v b : Nat → Int} (hu : Sol A k u b) (hv : Sol A k v (A k)) (h0 : det k A ≠ 0) : rem A k u b k = det (k + 1) (rp A k b) := by
  have e1 : det (k + 1) (rp A k fun r => rem A k u b r) = rem A k u b k * det k A := by
    rw [det_last (A := rp A k fun r => rem A k u b r) fun r hr => by
      rw [rp_at]
      unfold rem
      rw [hu r hr]
      omega]
    rw [rp_at]
    congr 1
    exact det_congr fun j r hj hr => by rw [rp_ne (by omega)]
  have l := det_lin (n := k + 1) (A := A) (i := k) (det k A) (-1) b (fun r => S k fun l => u l * A l r) (by omega)
  have e2 := det_comb (n := k + 1) (i := k) (A := A) u (by omega) k (by omega)
  rw [if_neg (by omega)] at e2
  have e3 : (fun r => det k A * b r + -1 * S k fun l => u l * A l r) = fun r => rem A k u b r := by funext r; unfold rem; omega
  rw [e3, e1, e2] at l
  refine Int.eq_of_mul_eq_mul_left h0 ?_
  grind
/-- the solutions, by determinants -/
def U (A : Nat → Nat → Int) (k : Nat) (b : Nat → Int) : Nat → Int := fun i => det k (rp A i b)
theorem sol_succ {b : Nat → Int} (hu : Sol A k (U A k b) b) (hv : Sol A k (U A k (A k)) (A k)) (h0 : det k A ≠ 0) (h1 : det (k + 1) A ≠ 0) : Sol A (k + 1) (U A (k + 1) b) b := by
  intro r hr
  refine Int.eq_of_mul_eq_mul_left h0 ?_
  show det k A * (S k (fun l => U A (k + 1) b l * A l r) + U A (k + 1) b k * A k r) = _
  have hl : U A (k + 1) b k = rem A k (U A k b) b k := (step_last hu hv h0).symm
  have hg := rem_det hv h0
  rw [Int.mul_add, ← S_mul, S_congr (g := fun l => det (k + 1) A * (U A k b l * A l r) - rem A k (U A k b) b k * (U A k (A k) l * A l r)) fun l hl => by
    have := step hu hv h0 h1 hl
    unfold U at *
    grind, S_sub, S_mul, S_mul, hl]
  by_cases hrk : r < k
  · rw [hu r hrk, hv r hrk]
    grind
  · obtain rfl : r = k := by omega
    have a1 : S r (fun l => U A r b l * A l r) = det r A * b r - rem A r (U A r b) b r := by unfold rem; omega
    have a2 : S r (fun l => U A r (A r) l * A l r) = det r A * A r r - det (r + 1) A := by rw [← hg]; unfold rem; omega
    rw [a1, a2]
    grind
/-! ### Toeplitz matrices -/
theorem sol_uniq {w b : Nat → Int} (h : Sol A k w b) (h0 : det k A ≠ 0) {i : Nat} (hi : i < k) : w i = U A k b i := by
  have key := cramer (n := k) (i := i) (A := A) (v := fun r => det k A * b r) (x := w) hi fun r hr => (h r hr).symm
  have l := det_lin (n := k) (A := A) (i := i) (det k A) 0 b (fun _ => 0) hi
  have e : (fun r => det k A * b r + 0 * 0) = fun r => det k A * b r := by funext r; omega
  rw [e, key, Int.zero_mul, Int.add_zero, Int.mul_comm] at l
  exact Int.eq_of_mul_eq_mul_left h0 l
def tp (c : Nat → Int) : Nat → Nat → Int := fun j r => c (if j ≤ r then r - j else j - r)
theorem tp_symm (c : Nat → Int) (i j : Nat) : tp c i j = tp c j i := by
  unfold tp
  congr 1
  split <;> split <;> omega
theorem tp_le (c : Nat → Int) {i j : Nat} (h : i ≤ j) : tp c i j = c (j - i) := by
  unfold tp
  rw [if_pos h]
theorem tp_ge (c : Nat → Int) {i j : Nat} (h : j ≤ i) : tp c i j = c (i - j) := by rw [tp_symm, tp_le c h]
def c1 (c : Nat → Int) : Nat → Int := fun r => c (r + 1)
variable {c : Nat → Int}
theorem sol_rev {u : Nat → Int} (h : Sol (tp c) k u (c1 c)) : Sol (tp c) k (fun l => u (k - 1 - l)) (tp c k) := by
  intro r hr
  rw [← S_rev, S_congr (g := fun l => u l * tp c l (k - 1 - r)) fun l hl => ?_, h _ (by omega)]
  · unfold c1
    rw [tp_ge c (by omega), show k - 1 - r + 1 = k - r by omega]
  · show u (k - 1 - (k - 1 - l)) * tp c (k - 1 - l) r = _
    rw [show k - 1 - (k - 1 - l) = l by omega]
    congr 1
    unfold tp
    congr 1
    split <;> split <;> omega
/-- the last numerator -/
def lastN (c : Nat → Int) (k : Nat) (u : Nat → Int) : Int := det k (tp c) * c (k + 1) - S k fun l => u l * c (k - l)
theorem last_rem (u : Nat → Int) : rem (tp c) k u (c1 c) k = lastN c k u := by
  unfold rem lastN
  congr 1
  exact S_congr fun l hl => by rw [tp_le c (by omega)]
theorem den_eq {u : Nat → Int} (h : Sol (tp c) k u (c1 c)) (h0 : det k (tp c) ≠ 0) : det (k + 1) (tp c) = det k (tp c) * c 0 - S k fun l => u l * c (l + 1) := by
  rw [← rem_det (sol_rev h) h0]
  unfold rem
  rw [tp_le c (Nat.le_refl k), Nat.sub_self]
  congr 1
  rw [← S_rev]
  refine S_congr fun l hl => ?_
  show u (k - 1 - (k - 1 - l)) * tp c (k - 1 - l) k = _
  rw [show k - 1 - (k - 1 - l) = l by omega, tp_le c (by omega), show k - (k - 1 - l) = l + 1 by omega]
theorem lev_num {u : Nat → Int} (h : Sol (tp c) k u (c1 c)) (h0 : det k (tp c) ≠ 0) (h1 : det (k + 1) (tp c) ≠ 0) {i : Nat} (hi : i < k) : det (k + 1) (tp c) * u i - lastN c k u * u (k - 1 - i) = det k (tp c) * U (tp c) (k + 1) (c1 c) i := by
  have := step h (sol_rev h) h0 h1 hi
  rw [last_rem] at this
  exact this
theorem lev_last {u : Nat → Int} (h : Sol (tp c) k u (c1 c)) (h0 : det k (tp c) ≠ 0) : U (tp c) (k + 1) (c1 c) k = lastN c k u := by
  rw [← last_rem]
  exact (step_last h (sol_rev h) h0).symm
theorem lev_den (h : Sol (tp c) k (U (tp c) k (c1 c)) (c1 c)) (h' : Sol (tp c) (k + 1) (U (tp c) (k + 1) (c1 c)) (c1 c)) (h0 : det k (tp c) ≠ 0) (h1 : det (k + 1) (tp c) ≠ 0) : det k (tp c) * det (k + 2) (tp c) = det (k + 1) (tp c) * det (k + 1) (tp c) - lastN c k (U (tp c) k (c1 c)) * lastN c k (U (tp c) k (c1 c)) := by
  obtain ⟨u, hu⟩ : ∃ u, U (tp c) k (c1 c) = u := ⟨_, rfl⟩
  rw [hu] at h ⊢
  have a1 := den_eq h h0
  have a2 := den_eq h' h1
  have a3 := lev_last h h0
  have a4 : det k (tp c) * S k (fun l => U (tp c) (k + 1) (c1 c) l * c (l + 1)) = det (k + 1) (tp c) * S k (fun l => u l * c (l + 1)) - lastN c k u * S k (fun l => u l * c (k - l)) := by
    rw [← S_mul, ← S_mul, ← S_rev (fun l => u l * c (k - l)), ← S_mul, ← S_sub]
    refine S_congr fun l hl => ?_
    have := lev_num h h0 h1 hl
    rw [show k - (k - 1 - l) = l + 1 by omega]
    grind
  have a5 : S (k + 1) (fun l => U (tp c) (k + 1) (c1 c) l * c (l + 1)) = S k (fun l => U (tp c) (k + 1) (c1 c) l * c (l + 1)) + U (tp c) (k + 1) (c1 c) k * c (k + 1) := rfl
  rw [a5, a3] at a2
  have a6 : lastN c k u = det k (tp c) * c (k + 1) - S k fun l => u l * c (k - l) := rfl
  generalize S k (fun l => U (tp c) (k + 1) (c1 c) l * c (l + 1)) = m at *
  generalize S k (fun l => u l * c (l + 1)) = X at *
  generalize S k (fun l => u l * c (k - l)) = Y at *
  generalize lastN c k u = L at *
  generalize det (k + 2) (tp c) = d2 at *
  generalize det (k + 1) (tp c) = d1 at *
  generalize det k (tp c) = d0 at *
  grind
/-! ### positive definite -/
def PD (c : Nat → Int) : Prop := ∀ (k : Nat) (b : Nat → Int), b 0 ≠ 0 → 0 < S (k + 1) fun i => S (k + 1) fun j => b i * b j * tp c i j
theorem den_pos (hc : PD c) {u : Nat → Int} (h : Sol (tp c) k u (c1 c)) (h0 : 0 < det k (tp c)) : 0 < det (k + 1) (tp c) := by
  have hd := den_eq h (by omega)
  have hp := hc k (fun i => if i = 0 then det k (tp c) else -u (i - 1)) (by rw [if_pos rfl]; omega)
  rw [S_first, S_first] at hp
  rw [if_pos rfl, tp_le c (Nat.le_refl 0)] at hp
  have b1 : S k (fun i => (det k (tp c) * if i + 1 = 0 then det k (tp c) else -u (i + 1 - 1)) * tp c 0 (i + 1)) = -(det k (tp c) * S k fun l => u l * c (l + 1)) := by
    rw [← S_mul, ← S_neg]
    refine S_congr fun i hi => ?_
    rw [if_neg (by omega), tp_le c (by omega)]
    show det k (tp c) * -u i * c (i + 1) = _
    grind
  have b2 : S k (fun i => S (k + 1) fun j => ((if i + 1 = 0 then det k (tp c) else -u (i + 1 - 1)) * if j = 0 then det k (tp c) else -u (j - 1)) * tp c (i + 1) j) = 0 := by
    refine S_zero fun i hi => ?_
    rw [S_first, if_neg (by omega), if_pos rfl, tp_ge c (by omega)]
    show -u i * det k (tp c) * c (i + 1) + S k (fun j => (-u i * if j + 1 = 0 then _ else -u (j + 1 - 1)) * tp c (i + 1) (j + 1)) = 0
    rw [S_congr (g := fun j => u i * (u j * tp c j i)) fun j hj => ?_, S_mul, h i hi]
    · unfold c1
      grind
    · rw [if_neg (by omega)]
      have e : tp c (i + 1) (j + 1) = tp c j i := by
        unfold tp
        congr 1
        split <;> split <;> omega
      rw [e]
      show -u i * -u j * tp c j i = _
      grind
  rw [b1, b2] at hp
  have hq : 0 < det k (tp c) * det (k + 1) (tp c) := by
    rw [hd]
    generalize det k (tp c) = d at *
    generalize S k (fun l => u l * c (l + 1)) = X at *
    grind
  exact Int.pos_of_mul_pos_right hq (by omega)
theorem lev_all (hc : PD c) : ∀ k, 0 < det k (tp c) ∧ Sol (tp c) k (U (tp c) k (c1 c)) (c1 c)
  | 0 => ⟨by show (0 : Int) < 1; decide, fun r hr => by omega⟩
  | k + 1 => by
    obtain ⟨h0, hu⟩ := lev_all hc k
    have h1 := den_pos hc hu h0
    refine ⟨h1, ?_⟩
    have hv := sol_rev hu
    have hv' : Sol (tp c) k (U (tp c) k (tp c k)) (tp c k) := fun r hr => by
      rw [← hv r hr]
      exact S_congr fun l hl => by rw [← sol_uniq hv (by omega) hl]
    exact sol_succ hu hv' (by omega) (by omega)
/-! ### bounds -/
/-! ### sums of products of a finite row -/
theorem S_split (g : Nat → Int) (a : Nat) : ∀ b, S (a + b) g = S a g + S b fun t => g (a + t)
  | 0 => by show S a g = S a g + 0; omega
  | b + 1 => by
    show S (a + b) g + g (a + b) = S a g + (S b (fun t => g (a + t)) + g (a + b))
    rw [S_split g a b]
    omega
theorem S_nonneg {f : Nat → Int} : ∀ {n : Nat}, (∀ i, i < n → 0 ≤ f i) → 0 ≤ S n f
  | 0, _ => Int.le_refl 0
  | n + 1, h => by
    show 0 ≤ S n f + f n
    have := S_nonneg (n := n) fun i hi => h i (by omega)
    have := h n (by omega)
    omega
theorem S_pos {f : Nat → Int} {i : Nat} : ∀ {n : Nat}, i < n → (∀ j, j < n → 0 ≤ f j) → 0 < f i → 0 < S n f
  | 0, h, _, _ => by omega
  | n + 1, h, h0, hp => by
    show 0 < S n f + f n
    by_cases e : i = n
    · subst e
      have := S_nonneg (n := i) fun j hj => h0 j (by omega)
      omega
    · have := S_pos (n := n) (by omega) (fun j hj => h0 j (by omega)) hp
      have := h0 n (by omega)
      omega
theorem sq_pos {x : Int} (h : x ≠ 0) : 0 < x * x := by
  rcases Int.lt_or_gt_of_ne h with h | h
  · exact Int.mul_pos_of_neg_of_neg h h
  · exact Int.mul_pos h h
theorem sq_nn (x : Int) : 0 ≤ x * x := by
  by_cases h : x = 0
  · rw [h]; decide
  · exact Int.le_of_lt (sq_pos h)
theorem pd_ac {x : Nat → Int} {N t0 : Nat} (hN : ∀ t, N ≤ t → x t = 0) (h0 : x t0 ≠ 0) (hl : ∀ t, t0 < t → x t = 0) (hc : ∀ j, c j = S N fun t => x t * x (t + j)) : PD c := by
  intro k b hb
  obtain ⟨z, hz⟩ : ∃ z : Nat → Int, z = fun t => if t < k then 0 else x (t - k) := ⟨_, rfl⟩
  have z0 : ∀ t, t < k → z t = 0 := fun t h => by rw [hz]; exact if_pos h
  have z1 : ∀ t, z (k + t) = x t := fun t => by
    rw [hz]
    show (if k + t < k then 0 else x (k + t - k)) = _
    rw [if_neg (by omega), Nat.add_sub_cancel_left]
  have z2 : ∀ t, k + N ≤ t → z t = 0 := fun t h => by
    obtain ⟨s, rfl⟩ : ∃ s, t = k + s := ⟨t - k, by omega⟩
    rw [z1]
    exact hN s (by omega)
  have tn : t0 < N := by
    rcases Nat.lt_or_ge t0 N with h | h
    · exact h
    · exact absurd (hN t0 h) h0
  have sh : ∀ i d, i ≤ k → S (k + N) (fun t => z (t + i) * z (t + i + d)) = c d := fun i d hi => by
    rw [hc]
    have e1 : S (i + (k + N)) (fun s => z s * z (s + d)) = S (k + N) fun t => z (t + i) * z (t + i + d) := by
      rw [S_split, S_zero fun s hs => by rw [z0 s (by omega), Int.zero_mul], Int.zero_add]
      exact S_congr fun t _ => by rw [Nat.add_comm i t]
    rw [← e1, Nat.add_comm i, S_split, S_split]
    rw [S_zero (n := k) fun s hs => by rw [z0 s hs, Int.zero_mul], S_zero (n := i) fun s hs => by rw [z2 _ (by omega), Int.zero_mul]]
    rw [Int.zero_add, Int.add_zero]
    exact S_congr fun t _ => by rw [z1, Nat.add_assoc, z1]
  have pr : ∀ i j, i ≤ k → j ≤ k → S (k + N) (fun t => z (t + i) * z (t + j)) = tp c i j := fun i j hi hj => by
    rcases Nat.le_total i j with h | h
    · rw [tp_le c h, ← sh i (j - i) hi]
      exact S_congr fun t _ => by rw [show t + i + (j - i) = t + j by omega]
    · rw [tp_ge c h, ← sh j (i - j) hj]
      exact S_congr fun t _ => by rw [show t + j + (i - j) = t + i by omega, Int.mul_comm]
  have hs : S (k + N) (fun t => (S (k + 1) fun i => b i * z (t + i)) * S (k + 1) fun i => b i * z (t + i)) = S (k + 1) fun i => S (k + 1) fun j => b i * b j * tp c i j := by
    have e1 : ∀ t, ((S (k + 1) fun i => b i * z (t + i)) * S (k + 1) fun i => b i * z (t + i)) = S (k + 1) fun i => S (k + 1) fun j => b i * b j * (z (t + i) * z (t + j)) := fun t => by
      rw [← S_mulr]
      refine S_congr fun i _ => ?_
      rw [← S_mul]
      exact S_congr fun j _ => by grind
    rw [S_congr fun t _ => e1 t, S_comm]
    refine S_congr fun i hi => ?_
    rw [S_comm]
    refine S_congr fun j hj => ?_
    rw [S_mul, pr i j (by omega) (by omega)]
  rw [← hs]
  refine S_pos (i := k + t0) (by omega) (fun t _ => sq_nn _) (sq_pos ?_)
  rw [S_one (i := 0) (by omega) fun i hi hne => by rw [Nat.add_assoc, z1, hl _ (by omega), Int.mul_zero], Nat.add_zero, z1]
  intro h
  rcases Int.mul_eq_zero.mp h with h | h
  · exact hb h
  · exact h0 h
end DT

namespace DT
/-! ### bordered minors, sizes -/
section
variable {A : Nat → Nat → Int} {k : Nat}
end
def Bt (N : Nat) (x : Int) : Prop := x.natAbs < 2 ^ N
section
variable {N M : Nat} {x y : Int}
theorem Bt.mono (h : Bt N x) (hn : N ≤ M) : Bt M x := Nat.lt_of_lt_of_le h (Nat.pow_le_pow_right (by decide) hn)
theorem Bt.log (h : Bt N x) : x.natAbs.log2 ≤ N := by
  by_cases h0 : x.natAbs = 0
  · rw [h0]
    exact Nat.zero_le _
  · have := (Nat.log2_lt h0).mpr h
    omega
theorem Bt.mul (h1 : Bt N x) (h2 : Bt M y) : Bt (N + M) (x * y) := by
  unfold Bt at *
  rw [Int.natAbs_mul, Nat.pow_add]
  exact Nat.mul_lt_mul'' h1 h2
theorem Bt.add (h1 : Bt N x) (h2 : Bt N y) : Bt (N + 1) (x + y) := by
  unfold Bt at *
  have := Int.natAbs_add_le x y
  rw [Nat.pow_succ]
  omega
theorem Bt.neg (h : Bt N x) : Bt N (-x) := by
  unfold Bt at *
  rwa [Int.natAbs_neg]
theorem Bt.sub (h1 : Bt N x) (h2 : Bt N y) : Bt (N + 1) (x - y) := by
  rw [Int.sub_eq_add_neg]
  exact h1.add h2.neg
theorem Bt.S {f : Nat → Int} {s : Nat} : ∀ {n : Nat}, (∀ i, i < n → Bt N (f i)) → n ≤ 2 ^ s → Bt (N + s) (S n f) := by
  intro n h hn
  have key : ∀ m, m ≤ n → (DT.S m f).natAbs + m ≤ m * 2 ^ N := by
    intro m
    induction m with
    | zero => intro _; show (0 : Int).natAbs + 0 ≤ 0 * 2 ^ N; rw [Nat.zero_mul]; decide
    | succ m ih =>
      intro hm
      have h1 := ih (by omega)
      have h2 : (f m).natAbs < 2 ^ N := h m (by omega)
      have h3 := Int.natAbs_add_le (DT.S m f) (f m)
      show (DT.S m f + f m).natAbs + (m + 1) ≤ (m + 1) * 2 ^ N
      rw [Nat.succ_mul]
      omega
  have h1 := key n (Nat.le_refl n)
  have h2 : n * 2 ^ N ≤ 2 ^ s * 2 ^ N := Nat.mul_le_mul_right _ hn
  have h3 : 0 < 2 ^ (N + s) := Nat.two_pow_pos _
  show (DT.S n f).natAbs < 2 ^ (N + s)
  rw [Nat.pow_add, Nat.mul_comm] at *
  by_cases h0 : n = 0
  · subst h0
    exact h3
  · omega
end
theorem sg_abs (j : Nat) : (sg j).natAbs = 1 := by
  unfold sg
  split <;> rfl
theorem det_bt {m : Nat} : ∀ {n : Nat} {A : Nat → Nat → Int}, (∀ j r, Bt m (A j r)) → n ≤ 64 → Bt (n * (m + 6) + 1) (det n A)
  | 0, A, _, _ => by show (1 : Int).natAbs < 2 ^ (0 * (m + 6) + 1); rw [Nat.zero_mul]; decide
  | n + 1, A, h, hn => by
    have h1 : Bt (m + (n * (m + 6) + 1) + 6) (det (n + 1) A) := Bt.S (s := 6) (fun j hj => by
      have a1 : Bt m (sg j * A j 0) := by
        unfold Bt
        rw [Int.natAbs_mul, sg_abs, Nat.one_mul]
        exact h j 0
      exact a1.mul (det_bt (A := del j A) (fun i r => h _ _) (by omega))) (by omega)
    refine h1.mono ?_
    rw [Nat.succ_mul]
    omega
theorem rp_bt {m i : Nat} {A : Nat → Nat → Int} {b : Nat → Int} (h : ∀ j r, Bt m (A j r)) (hb : ∀ r, Bt m (b r)) : ∀ j r, Bt m (rp A i b j r) := fun j r => by
  unfold rp
  split
  · exact hb r
  · exact h j r
theorem tp_bt {m : Nat} {c : Nat → Int} (h : ∀ j, Bt m (c j)) : ∀ j r, Bt m (tp c j r) := fun _ _ => h _
theorem U_bt {m n i : Nat} {A : Nat → Nat → Int} {b : Nat → Int} (h : ∀ j r, Bt m (A j r)) (hb : ∀ r, Bt m (b r)) (hn : n ≤ 64) : Bt (n * (m + 6) + 1) (U A n b i) := det_bt (rp_bt h hb) hn
end DT

/-! ### the predictors of an autocorrelation: what the program finds -/
open DT (Bt PD tp Sol)
def lf (n : Nat) (f : Nat → Int) : List Int := (List.range n).map f
theorem lf_len (n : Nat) (f : Nat → Int) : (lf n f).length = n := by unfold lf; rw [List.length_map, List.length_range]
theorem lf_at {n i : Nat} {f : Nat → Int} (h : i < n) : (lf n f)[i]? = some (f i) := by unfold lf; rw [List.getElem?_map, List.getElem?_range h]; rfl
theorem lf_succ (n : Nat) (f : Nat → Int) : lf (n + 1) f = lf n f ++ [f n] := by unfold lf; rw [List.range_succ, List.map_append]; rfl
theorem lf_sum (f : Nat → Int) : ∀ n, (lf n f).sum = DT.S n f
  | 0 => rfl
  | n + 1 => by
    rw [lf_succ, List.sum_append, lf_sum f n]
    show DT.S n f + (f n + 0) = DT.S n f + f n
    omega
theorem lf_rev (n : Nat) (f : Nat → Int) : (lf n f).reverse = lf n fun i => f (n - 1 - i) := by
  apply List.ext_getElem?
  intro i
  by_cases h : i < n
  · rw [List.getElem?_reverse (by rw [lf_len]; exact h), lf_len, lf_at (by omega), lf_at h]
  · rw [List.getElem?_eq_none (by rw [List.length_reverse, lf_len]; omega), List.getElem?_eq_none (by rw [lf_len]; omega)]
def Dn (c : Nat → Int) (k : Nat) : Int := DT.det k (tp c)
def Un (c : Nat → Int) (k : Nat) : Nat → Int := DT.U (tp c) k (DT.c1 c)
theorem cmulw {N M : Nat} {x y : Int} (h1 : Bt N x) (h2 : Bt M y) (h : N + M < 1000000) : CMulW x y := by
  have a := h1.log
  have b := h2.log
  show x.natAbs.log2 + y.natAbs.log2 < 1000000
  omega
theorem cdivw {N : Nat} {x y : Int} (h0 : 0 < y) (h1 : Bt N y) (h : N < 9000) : CDivW x y := ⟨h0, by have := h1.log; omega⟩
theorem dn_bt {c : Nat → Int} {m k : Nat} (h : ∀ j, Bt m (c j)) (hk : k ≤ 64) : Bt (k * (m + 6) + 1) (Dn c k) := DT.det_bt (DT.tp_bt h) hk
theorem un_bt {c : Nat → Int} {m k i : Nat} (h : ∀ j, Bt m (c j)) (hk : k ≤ 64) : Bt (k * (m + 6) + 1) (Un c k i) := DT.U_bt (DT.tp_bt h) (fun r => h _) hk
theorem ln_bt {c u : Nat → Int} {m k : Nat} (h : ∀ j, Bt m (c j)) (hu : ∀ i, Bt (k * (m + 6) + 1) (u i)) (hk : k ≤ 64) : Bt (k * (m + 6) + m + 8) (DT.lastN c k u) := by
  have h1 : Bt (k * (m + 6) + 1 + m) (DT.det k (tp c) * c (k + 1)) := (dn_bt h hk).mul (h _)
  have h2 : Bt (k * (m + 6) + 1 + m + 6) (DT.S k fun l => u l * c (k - l)) := DT.Bt.S (s := 6) (fun l _ => (hu l).mul (h _)) (by omega)
  exact ((h1.mono (by omega)).sub h2).mono (by omega)
def sp_last (K : PySem.W.Frag) : Sp := fun vs H Q _ => ∃ (a b : Addr) (c u : Nat → Int) (n k m : Nat), vs = [.ref a, .ref b, .int (Dn c k)] ∧ SqL K H a ((lf n c).map V.int) ∧ SqL K H b ((lf k u).map V.int) ∧ k + 1 < n ∧ n ≤ 64 ∧ m ≤ 100 ∧ (∀ j, Bt m (c j)) ∧ (∀ i, Bt (k * (m + 6) + 1) (u i)) ∧ RetV (.int (DT.lastN c k u)) H Q
theorem ok_last_numerator (T : TX K mg) : FnOk P w K mg base CX0 1 T.a_last_numerator T.d_last_numerator ["correlation", "numerators", "denominator"] (sp_last K) := by
  refine T.F_last_numerator.ok sc_last_numerator (fun vs H Q E h => by obtain ⟨a, b, c, u, n, k, m, rfl, _⟩ := h; rfl) (fun cdv A outer s H vs Q E hr h => ?_)
  obtain ⟨a, b, c, u, n, k, m, rfl, hA, hB, hkn, hn, hm, hc, hu, q⟩ := h
  refine ⟨_, (pss_cons (ps_set (i := 3) sc_last_numerator.nd rfl (Or.inr rfl) (pe_op op_add (pe_callB (r := rLenS K) call_len_seq (by rfl) T.m_len PySem.boot_len (pa_cons (pv 1) pa_nil)) pe_int))
      (pss_cons (ps_set (i := 4) sc_last_numerator.nd rfl (Or.inl rfl) (pe_callB (r := rSum K) (cr_sum rfl) (by rfl) T.m_sum PyProof.Rows.boot_sum (pa_cons (pe_lc (own := [("at", 5)]) (g := gName 5) (tt := tYes) rfl sc_last_numerator.nd (pi_range1 (by rfl) T.m_range (pa_cons (pe_callB (r := rLenS K) call_len_seq (by rfl) T.m_len PySem.boot_len (pa_cons (pv 1) pa_nil)) pa_nil)) (blkOk_by (N := ["correlation", "numerators", "denominator", "order", "known", "at"]) (sc := defScope s_last_numerator) (by decide +kernel)) (fun _ _ _ _ _ => pg_name (i := 5) sc_last_numerator.nd rfl (Or.inl rfl)) (fun _ _ _ _ _ => pts_nil) (fun _ _ _ _ _ => (pe_op op_mulW (pe_ix (r := rIxL K) ix_list (pv 1) (pv 5) (fun _ _ => rfl)) (pe_ix (r := rIxL K) ix_list (pv 0) (pe_op op_sub (pe_op op_sub (pv 3) pe_int) (pv 5)) (fun _ _ => rfl))))) pa_nil)))
      (pss_one (ps_ret (pe_op op_sub (pe_op op_mulW (pv 2) (pe_ix (r := rIxL K) ix_list (pv 0) (pv 3) (fun _ _ => rfl))) (pv 4)))))), ?_⟩
  have hlB : ∀ {σ : L2.St} {G : Hp}, Ex H G → σ[1]? = some (some (.ref b)) → Ev (tCB (rLenS K) (tCons (tVar 1) tNil)) σ G (.int (k : Int)) := fun e h => Ev.is (ev_lenS (K := K) (Ev.s (ev_var h) (ex_l e hB))) (by rw [List.length_map, lf_len])
  refine q_asg (v := .int ((k + 1 : Nat) : Int)) (Ev.is (ev_I0 (g := fun i j => .int (i + j)) (hlB (Ex.refl _) rfl) ev_c) (congrArg V.int (by omega))) fun H1 e1 => ?_
  have hkm : k * (m + 6) ≤ 64 * 106 := Nat.mul_le_mul (by omega) (by omega)
  refine q_asg (v := .int (DT.S k fun l => u l * c (k - l))) (Ev.is (ev_sum (K := K) (ns := lf k fun l => u l * c (k - l)) (EvR.s (EvL.r (el_lcR (n := (k : Int)) _ (ea_cons (hlB e1 rfl) ea_nil) (by omega) (by rw [List.length_map, lf_len, Int.toNat_natCast]) (by rw [List.length_map, lf_len]; omega) (fun _ => rfl) fun i H2 e2 hi => ?_)))) (by rw [lf_sum])) fun H2 e2 => ?_
  · rw [List.length_map, lf_len] at hi
    exact ⟨_, at_int (lf_at hi), ev_I (ev_at (n := (i : Int)) (Ev.s (ev_var rfl) (ex_l (e1.trans e2) hB)) (ev_var rfl) (at_of (j := i) rfl (at_int (lf_at hi)))) (ev_at (n := ((k - i : Nat) : Int)) (Ev.s (ev_var rfl) (ex_l (e1.trans e2) hA)) (Ev.is (ev_I0 (g := fun i j => .int (i - j)) (ev_I0 (g := fun i j => .int (i - j)) (ev_var rfl) ev_c) (ev_var rfl)) (congrArg V.int (by omega))) (at_of (j := k - i) rfl (at_int (lf_at (by omega))))) (cmulw (hu i) (hc _) (by omega))⟩
  exact s_ret (v := .int (DT.lastN c k u)) (ev_I0 (g := fun i j => .int (i - j)) (ev_I (ev_var rfl) (ev_at (n := ((k + 1 : Nat) : Int)) (Ev.s (ev_var rfl) (ex_l (e1.trans e2) hA)) (ev_var rfl) (at_of (j := k + 1) rfl (at_int (lf_at (by omega))))) (cmulw (dn_bt hc (by omega)) (hc _) (by omega))) (ev_var rfl)) fun H3 e3 => q H3 (e1.trans (e2.trans e3))
theorem el_listRev {σ : L2.St} {H : Hp} {te : TE} {xs : List V} (h : EvS K te σ H xs) : EvL (tListRev K te) σ H xs.reverse := fun H1 e Q q =>
  h H1 e _ fun p H2 e2 hp => ⟨p, xs, rfl, hp, fun r hr => q r _ (fresh_back e2 hr) (e2.trans (Ex.new hr)) upd_same⟩
theorem q_appX {σ : L2.St} {H : Hp} {ta te : TE} {l : Addr} {xs : List V} {D : Ends} {tz : TS} {S : V → Hp → Prop} (hl : H l = some (.lst xs)) (ha : Ev ta σ H (.ref l)) (h : EvX te σ H S) (hz : xs.length < 100000) (k : ∀ v H1, Ex H H1 → S v H1 → tz D σ (upd H1 l (.lst (xs ++ [v])))) : tSeq (tDrop (tBM K "list" rAppend ta (tCons te tNil))) tz D σ H :=
  ha H (Ex.refl _) _ fun H1 e1 => ⟨.inl ⟨rfl, xs, sq_of (e1 _ _ hl)⟩, h H1 e1 _ fun v H2 e2 hv => ⟨l, xs, v, rfl, rfl, (e1.trans e2) _ _ hl, sz_lt hz, k v H2 (e1.trans e2) hv⟩⟩
theorem s_par {σ : L2.St} {H : Hp} {ta : TA} {i j : Nat} {v w : V} {D : Ends} (h : EvA ta σ H [v, w]) (k : ∀ H1, Ex H H1 → D.nx ((σ.set i (some v)).set j (some w)) H1) : tPar i j ta D σ H := h H (Ex.refl _) _ fun H1 e => ⟨v, w, rfl, k H1 e⟩
theorem s_asgTup2 {σ : L2.St} {H : Hp} {ta : TA} {i j : Nat} {v w : V} {D : Ends} (h : EvA ta σ H [v, w]) (k : ∀ H1, Ex H H1 → D.nx ((σ.set i (some v)).set j (some w)) H1) : tAsg (tTup ta) (gTup K 2 (gCons (gName i) (gCons (gName j) gNil))) D σ H := eu_tup h (show 2 ≤ 100000 by decide) H (Ex.refl _) _ fun p H1 _ e g => ⟨p, [v, w], rfl, st_of g, rfl, v, [w], rfl, w, [], rfl, rfl, k H1 e⟩
theorem ex_tupN2 {σ : L2.St} {H : Hp} {t1 t2 : TE} {x y : V} (h1 : Ev t1 σ H x) (h2 : Ev t2 σ H y) : EvX (tTup (tCons t1 (tCons t2 tNil))) σ H (fun v H' => ∃ t, v = .ref t ∧ H t = none ∧ H' t = some (.tup [x, y])) := fun H1 e Q q =>
  h1 H1 e _ fun H2 e2 => h2 H2 (e.trans e2) _ fun H3 e3 => ⟨sz_of (show 2 ≤ 100000 by decide), fun t ht => q (.ref t) _ ((e2.trans e3).trans (Ex.new ht)) ⟨t, rfl, fresh_back (e.trans (e2.trans e3)) ht, upd_same⟩⟩
/-- the entry of order k + 1 -/
def ExAt (c : Nat → Int) (H : Hp) (t : Addr) (k : Nat) : Prop := ∃ nl, H t = some (.tup [.ref nl, .int (Dn c (k + 1))]) ∧ H nl = some (.lst ((lf (k + 1) (Un c (k + 1))).map V.int))
theorem ExAt.ex {c : Nat → Int} {H H' : Hp} {t : Addr} {k : Nat} (h : ExAt c H t k) (e : Ex H H') : ExAt c H' t k := by
  obtain ⟨nl, h1, h2⟩ := h
  exact ⟨nl, e _ _ h1, e _ _ h2⟩
def ExL (c : Nat → Int) (H : Hp) (L t : Addr) (k : Nat) : Prop := ∃ nl, nl ≠ L ∧ t ≠ L ∧ H t = some (.tup [.ref nl, .int (Dn c (k + 1))]) ∧ H nl = some (.lst ((lf (k + 1) (Un c (k + 1))).map V.int))
theorem ExL.to {c : Nat → Int} {H H' : Hp} {L t : Addr} {k : Nat} (h : ExL c H L t k) (e : ∀ a o, a ≠ L → H a = some o → H' a = some o) : ExL c H' L t k := by
  obtain ⟨nl, h1, h2, h3, h4⟩ := h
  exact ⟨nl, h1, h2, e _ _ h2 h3, e _ _ h1 h4⟩
def sp_exact (K : PySem.W.Frag) : Sp := fun vs H Q _ => ∃ (a : Addr) (c : Nat → Int) (n m : Nat), vs = [.ref a] ∧ SqL K H a ((lf n c).map V.int) ∧ 1 ≤ n ∧ n ≤ 64 ∧ m ≤ 100 ∧ (∀ j, Bt m (c j)) ∧ (c 0 ≠ 0 → PD c) ∧
  ∀ L (ts : List Addr) H', H L = none → Ex H H' → H' L = some (.lst (ts.map V.ref)) → ts.length = (if c 0 = 0 then 0 else n - 1) → (∀ k t, ts[k]? = some t → ExAt c H' t k) → Q (.ref L) H'
theorem ok_exact_predictors (T : TX K mg) : FnOk P w K mg base CX0 2 T.a_exact_predictors T.d_exact_predictors ["correlation"] (sp_exact K) := by
  refine T.F_exact_predictors.ok sc_exact_predictors (fun vs H Q E h => by obtain ⟨a, c, n, m, rfl, _⟩ := h; rfl) (fun cdv A outer s H vs Q E hr h => ?_)
  obtain ⟨a, c, n, m, rfl, hA, hn1, hn, hm, hc, hpd, k⟩ := h
  refine ⟨_, (pss_cons (ps_set (i := 1) sc_exact_predictors.nd rfl (Or.inl rfl) (pe_lst pa_nil))
      (pss_cons (ps_if (pt_cmpR op_eq (pe_ix (r := rIxL K) ix_list (pv 0) pe_int (fun _ _ => rfl)) pe_int (nomark _)) (pss_one (ps_ret (pv 1))) pss_nil)
      (pss_cons (ps_set (i := 2) sc_exact_predictors.nd rfl (Or.inl rfl) (pe_lst pa_nil))
      (pss_cons (ps_set (i := 3) sc_exact_predictors.nd rfl (Or.inr rfl) pe_int)
      (pss_cons (ps_set (i := 4) sc_exact_predictors.nd rfl (Or.inr rfl) (pe_ix (r := rIxL K) ix_list (pv 0) pe_int (fun _ _ => rfl)))
      (pss_cons (ps_for PassesOwn.never rfl (pi_range2 (by rfl) T.m_range (pa_cons pe_int (pa_cons (pe_callB (r := rLenS K) call_len_seq (by rfl) T.m_len PySem.boot_len (pa_cons (pv 0) pa_nil)) pa_nil))) (pg_name (i := 5) sc_exact_predictors.nd rfl (Or.inl rfl)) (pss_cons (ps_set (i := 6) sc_exact_predictors.nd rfl (Or.inr rfl) (pe_call (ok_last_numerator T) (hr.mono (by decide)) (by rfl) T.g_last_numerator T.F_last_numerator.kp T.b_last_numerator .nil pass0 (pa_cons (pv 0) (pa_cons (pv 2) (pa_cons (pv 3) pa_nil)))))
        (pss_cons (ps_set (i := 7) sc_exact_predictors.nd rfl (Or.inl rfl) (pe_listRev rfl (by rfl) T.m_list (by rfl) T.m_reversed (pv 2)))
        (pss_cons (ps_set (i := 2) sc_exact_predictors.nd rfl (Or.inl rfl) (pe_op op_cat (pe_lc (own := [("a", 8), ("b", 9)]) (g := (gTup K 2 (gCons (gName 8) (gCons (gName 9) gNil)))) (tt := tYes) rfl sc_exact_predictors.nd (pi_zip (by rfl) T.m_zip (pa_cons (pv 2) (pa_cons (pv 7) pa_nil))) (blkOk_by (N := ["correlation", "found", "numerators", "before", "denominator", "order", "last", "mirrored", "a", "b"]) (sc := defScope s_exact_predictors) (by decide +kernel)) (fun _ _ _ _ _ => (pg_tup rfl (pgs_cons (pg_name (i := 8) sc_exact_predictors.nd rfl (Or.inl rfl)) (pgs_cons (pg_name (i := 9) sc_exact_predictors.nd rfl (Or.inl rfl)) pgs_nil)))) (fun _ _ _ _ _ => pts_nil) (fun _ _ _ _ _ => (pe_op op_fdivW (pe_op op_sub (pe_op op_mulW (pv 4) (pv 8)) (pe_op op_mulW (pv 6) (pv 9))) (pv 3)))) (pe_lst (pa_cons (pv 6) pa_nil))))
        (pss_cons (ps_expr (pe_bm PySem.F.plainAttrs_list PySem.F.slot_list_append PySem.F.type_list_append mt_append (pv 1) (pa_cons (pe_tup (pa_cons (pv 2) (pa_cons (pv 4) pa_nil))) pa_nil)))
        (pss_one (ps_asg (pe_tup (pa_cons (pv 4) (pa_cons (pe_op op_fdivW (pe_op op_sub (pe_op op_mulW (pv 4) (pv 4)) (pe_op op_mulW (pv 6) (pv 6))) (pv 3)) pa_nil))) (pg_tup rfl (pgs_cons (pg_name (i := 3) sc_exact_predictors.nd rfl (Or.inr rfl)) (pgs_cons (pg_name (i := 4) sc_exact_predictors.nd rfl (Or.inr rfl)) pgs_nil))))))))))
      (pss_one (ps_ret (pv 1))))))))), ?_⟩
  have at0 : ∀ {σ : L2.St} {G : Hp}, Ex H G → σ[0]? = some (some (.ref a)) → Ev (tOp (rIxL K) (tVar 0) (tC (.int 0))) σ G (.int (c 0)) := fun e h => ev_at (n := 0) (Ev.s (ev_var h) (ex_l e hA)) ev_c (at_of (j := 0) rfl (at_int (lf_at (by omega))))
  refine q_asgL (xs := []) (el_lst ea_nil (by decide)) fun L H1 hL e1 g1 => ?_
  refine q_when (b := decide (c 0 = 0)) (et_test (Ev.is (ev_eq (at0 e1 rfl) ev_c rfl) (congrArg V.bl (decide_eq_decide.mpr ⟨V.int.inj, congrArg V.int⟩)))) (fun hb H2 e2 => ?_) (fun hb H2 e2 => ?_)
  · exact s_ret (ev_var rfl) fun H3 e3 => k L [] H3 hL (e1.trans (e2.trans e3)) ((e2.trans e3) _ _ g1) (by rw [if_pos (of_decide_eq_true hb)]; rfl) fun k t h => by cases h
  have hc0 := of_decide_eq_false hb
  have hp := hpd hc0
  have hall := DT.lev_all hp
  refine q_asgL (xs := []) (el_lst ea_nil (by decide)) fun nl0 H3 hnl0 e3 gnl0 => ?_
  refine q_asg (v := .int (Dn c 0)) ev_c fun H4 e4 => ?_
  have e14 := e1.trans (e2.trans (e3.trans e4))
  have hD1 : Dn c 1 = c 0 := by
    have := DT.den_eq (hall 0).2 (by show (1 : Int) ≠ 0; decide)
    show DT.det (0 + 1) (tp c) = c 0
    rw [this]
    show (1 : Int) * c 0 - 0 = c 0
    omega
  refine q_asg (v := .int (Dn c 1)) (Ev.is (at0 e14 rfl) (congrArg V.int hD1.symm)) fun H5 e5 => ?_
  have hnlL : nl0 ≠ L := by rintro rfl; rw [e2 _ _ g1] at hnl0; cases hnl0
  refine q_forR2 (lo := 1) (n := (n : Int)) (ea_cons ev_c (ea_cons (Ev.is (ev_lenS (K := K) (Ev.s (ev_var rfl) (ex_l (e14.trans e5) hA))) (by rw [List.length_map, lf_len])) ea_nil)) (by omega) (fun i σ' H' => ∃ (nl : Addr) (ts : List Addr) (z5 z6 z7 z8 z9 : Option V), σ' = [some (.ref a), some (.ref L), some (.ref nl), some (.int (Dn c i)), some (.int (Dn c (i + 1))), z5, z6, z7, z8, z9] ∧ Ex H H' ∧ H' L = some (.lst (ts.map V.ref)) ∧ ts.length = i ∧ (∀ k t, ts[k]? = some t → ExL c H' L t k) ∧ nl ≠ L ∧ H' nl = some (.lst ((lf i (Un c i)).map V.int))) (fun H6 e6 => ⟨nl0, [], none, none, none, none, none, rfl, e14.trans (e5.trans e6), (e2.trans (e3.trans (e4.trans (e5.trans e6)))) _ _ g1, rfl, (fun k t h => by cases h), hnlL, (e4.trans (e5.trans e6)) _ _ gnl0⟩) ?_ ?_
  · rintro i σ' G hi ⟨nl, ts, z5, z6, z7, z8, z9, rfl, ex, gL, htl, hts, hne, gnl⟩
    have hi' : i + 1 < n := by omega
    have h0 := hall i
    have h1 := hall (i + 1)
    have hsm : ∀ q : Nat, q ≤ 64 → q * (m + 6) ≤ 64 * 106 := fun q hq => Nat.mul_le_mul hq (by omega)
    have hi6 := hsm i (by omega)
    have hi7 := hsm (i + 1) (by omega)
    refine q_asg (v := .int (DT.lastN c i (Un c i))) (ev_call (vs := [.ref a, .ref nl, .int (Dn c i)]) (ea_cons (ev_var rfl) (ea_cons (ev_var rfl) (ea_cons (ev_var rfl) ea_nil))) fun G1 f1 Q1 q1 _ => ⟨a, nl, c, Un c i, n, i, m, rfl, ex_l (ex.trans f1) hA, sq_of (f1 _ _ gnl), hi', hn, hm, hc, fun j => un_bt hc (by omega), q1⟩) fun G1 f1 => ?_
    have hlb : Bt (i * (m + 6) + m + 8) (DT.lastN c i (Un c i)) := ln_bt hc (fun j => un_bt hc (by omega)) (by omega)
    have hlast : Un c (i + 1) i = DT.lastN c i (Un c i) := DT.lev_last h0.2 (by omega)
    obtain ⟨la, hla⟩ : ∃ la, DT.lastN c i (Un c i) = la := ⟨_, rfl⟩
    have hdd : Dn c i * Dn c (i + 2) = Dn c (i + 1) * Dn c (i + 1) - la * la := by
      rw [← hla]
      exact DT.lev_den h0.2 h1.2 (by omega) (by omega)
    have hnum : ∀ l, l < i → Dn c (i + 1) * Un c i l - la * Un c i (i - 1 - l) = Dn c i * Un c (i + 1) l := fun l hl => by
      rw [← hla]
      exact DT.lev_num h0.2 (by omega) (by omega) hl
    rw [hla] at hlb hlast ⊢
    have gnl1 := f1 _ _ gnl
    refine q_asgL (xs := (lf i fun l => Un c i (i - 1 - l)).map V.int) (EvL.is (el_listRev (Ev.s (ev_var rfl) (sq_of gnl1))) (by rw [← List.map_reverse, lf_rev])) fun mr G2 hmr f2 gmr => ?_
    have gnl2 := f2 _ _ gnl1
    have hDb := dn_bt (k := i + 1) hc (by omega)
    have hDb0 := dn_bt (k := i) hc (by omega)
    have hDp : 0 < Dn c i := h0.1
    show tSeq _ _ _ [some (.ref a), some (.ref L), some (.ref nl), some (.int (Dn c i)), some (.int (Dn c (i + 1))), some (.int (1 + (i : Int))), some (.int la), some (.ref mr), z8, z9] _
    refine q_asgL (xs := (lf (i + 1) (Un c (i + 1))).map V.int) (EvL.is (el_cat (xs := (lf i (Un c (i + 1))).map V.int) (ys := [V.int la]) (EvL.r (el_lcZ (K := K) (xs := (lf i (Un c i)).map V.int) (ys := (lf i fun l => Un c i (i - 1 - l)).map V.int) ((lf i (Un c (i + 1))).map V.int) (Ev.s (ev_var rfl) (sq_of gnl2)) (Ev.s (ev_var rfl) (sq_of gmr)) (by simp only [List.length_map, lf_len]; omega) (by rw [List.length_map, lf_len]; omega) (fun _ _ => rfl) fun l x y G3 f3 hx hy => ?_)) (EvL.r (el_lst (vs := [V.int la]) (ea_cons (ev_var rfl) ea_nil) (show 1 ≤ 100000 by decide))) (by rw [List.length_map, lf_len]; show i + 1 ≤ _; omega)) (by rw [lf_succ, List.map_append, hlast]; rfl)) fun n2 G3 hn2 f3 gn2 => ?_
    · obtain ⟨x, hx1, hxl, rfl⟩ := int_at hx
      obtain ⟨y, hy1, _, rfl⟩ := int_at hy
      rw [lf_len] at hxl
      rw [lf_at hxl] at hx1 hy1
      obtain rfl := Option.some.inj hx1
      obtain rfl := Option.some.inj hy1
      refine ⟨_, at_int (lf_at hxl), Ev.is (ev_I (ev_I0 (g := fun i j => .int (i - j)) (ev_I (ev_var rfl) (ev_var rfl) (cmulw hDb (un_bt (k := i) hc (by omega)) (by omega))) (ev_I (ev_var rfl) (ev_var rfl) (cmulw hlb (un_bt (k := i) hc (by omega)) (by omega)))) (ev_var rfl) (cdivw hDp hDb0 (by omega))) (congrArg V.int ?_)⟩
      rw [hnum l hxl, Int.mul_ediv_cancel_left _ (by omega)]
    have f13 := f1.trans (f2.trans f3)
    have gL3 := f13 _ _ gL
    have hn2L : n2 ≠ L := by rintro rfl; rw [(f1.trans f2) _ _ gL] at hn2; cases hn2
    refine q_appX gL3 (ev_var rfl) (ex_tupN2 (ev_var rfl) (ev_var rfl)) (by rw [List.length_map]; omega) fun v G4 f4 hv => ?_
    obtain ⟨t, rfl, htn, gt⟩ := hv
    have gL4 := f4 _ _ gL3
    have htL : t ≠ L := by rintro rfl; rw [gL3] at htn; cases htn
    have to : ∀ x o, x ≠ L → G x = some o → upd G4 L (.lst (ts.map V.ref ++ [.ref t])) x = some o := fun x o hx h => by rw [upd_ne hx]; exact (f13.trans f4) _ _ h
    have exm : Ex H (upd G4 L (.lst (ts.map V.ref ++ [.ref t]))) := Ex.mut (ex.trans (f13.trans f4)) hL
    have gLn : upd G4 L (.lst (ts.map V.ref ++ [.ref t])) L = some (.lst ((ts ++ [t]).map V.ref)) := by rw [upd_same, List.map_append]; rfl
    have gtn : upd G4 L (.lst (ts.map V.ref ++ [.ref t])) t = some (.tup [.ref n2, .int (Dn c (i + 1))]) := by rw [upd_ne htL]; exact gt
    have gnn : upd G4 L (.lst (ts.map V.ref ++ [.ref t])) n2 = some (.lst ((lf (i + 1) (Un c (i + 1))).map V.int)) := by rw [upd_ne hn2L]; exact f4 _ _ gn2
    generalize upd G4 L (.lst (ts.map V.ref ++ [.ref t])) = G5 at *
    show tAsg _ _ _ [some (.ref a), some (.ref L), some (.ref n2), some (.int (Dn c i)), some (.int (Dn c (i + 1))), some (.int (1 + (i : Int))), some (.int la), some (.ref mr), z8, z9] _
    refine s_asgTup2 (v := .int (Dn c (i + 1))) (w := .int (Dn c (i + 2))) (ea_cons (ev_var rfl) (ea_cons (Ev.is (ev_I (ev_I0 (g := fun i j => .int (i - j)) (ev_I (ev_var rfl) (ev_var rfl) (cmulw hDb hDb (by omega))) (ev_I (ev_var rfl) (ev_var rfl) (cmulw hlb hlb (by omega)))) (ev_var rfl) (cdivw hDp hDb0 (by omega))) (congrArg V.int (by rw [← hdd, Int.mul_ediv_cancel_left _ (by omega)]))) ea_nil)) fun G6 f6 => ⟨n2, ts ++ [t], _, _, _, _, _, rfl, exm.trans f6, f6 _ _ gLn, by rw [List.length_append, htl]; rfl, fun j t' hj => ?_, hn2L, f6 _ _ gnn⟩
    rcases Nat.lt_or_ge j ts.length with hlt | hge
    · rw [List.getElem?_append_left hlt] at hj
      exact (hts j t' hj).to fun x o hx h => f6 _ _ (to x o hx h)
    · rw [List.getElem?_append_right hge] at hj
      have hj0 : j - ts.length = 0 := by
        rcases Nat.eq_zero_or_pos (j - ts.length) with h | h
        · exact h
        · rw [List.getElem?_eq_none (by show 1 ≤ _; omega)] at hj; cases hj
      rw [hj0] at hj
      obtain rfl : t = t' := Option.some.inj hj
      obtain rfl : j = i := by omega
      exact ⟨n2, hn2L, htL, f6 _ _ gtn, f6 _ _ gnn⟩
  · rintro σ' G ⟨nl, ts, z5, z6, z7, z8, z9, rfl, ex, gL, htl, hts, hne, gnl⟩
    refine s_ret (ev_var rfl) fun G1 f1 => k L ts G1 hL (ex.trans f1) (f1 _ _ gL) (by rw [htl, if_neg hc0]; omega) fun j t hj => ?_
    obtain ⟨nl', _, _, h3, h4⟩ := hts j t hj
    exact ⟨nl', f1 _ _ h3, f1 _ _ h4⟩

/-! ### the autocorrelation of a row is positive definite -/
def gx (ns : List Int) : Nat → Int := fun t => ns.getD t 0
theorem gx_out {ns : List Int} {t : Nat} (h : ns.length ≤ t) : gx ns t = 0 := by
  unfold gx
  rw [List.getD_eq_getElem?_getD, List.getElem?_eq_none h]
  rfl
theorem lag_S (ns : List Int) (d : Nat) : lagS ns d = DT.S ns.length fun t => gx ns t * gx ns (t + d) := by
  have e : lagS ns d = DT.S (ns.length - d) fun t => gx ns t * gx ns (t + d) := by
    rw [lagS_N]
    unfold lagN
    rw [show (List.range (ns.length - d)).map (fun t => ns.getD (t + d) 0 * ns.getD t 0) = lf (ns.length - d) fun t => ns.getD (t + d) 0 * ns.getD t 0 from rfl, lf_sum]
    exact DT.S_congr fun t _ => Int.mul_comm _ _
  rw [e]
  by_cases h : d ≤ ns.length
  · obtain ⟨r, hr⟩ : ∃ r, r = ns.length - d := ⟨_, rfl⟩
    rw [← hr, show ns.length = r + d by omega, DT.S_split, DT.S_zero (n := d) fun t ht => by rw [gx_out (t := r + t + d) (by omega), Int.mul_zero], Int.add_zero]
  · rw [show ns.length - d = 0 by omega]
    exact (DT.S_zero fun t ht => by rw [gx_out (t := t + d) (by omega), Int.mul_zero]).symm
theorem last_nz {x : Nat → Int} : ∀ {N : Nat}, (∀ t, N ≤ t → x t = 0) → (∃ t, x t ≠ 0) → ∃ t0, x t0 ≠ 0 ∧ ∀ t, t0 < t → x t = 0
  | 0, hN, ⟨t, h⟩ => absurd (hN t (Nat.zero_le _)) h
  | N + 1, hN, h => by
    by_cases h0 : x N = 0
    · exact last_nz (N := N) (fun t ht => by
        rcases Nat.eq_or_lt_of_le ht with e | e
        · rw [← e]; exact h0
        · exact hN t e) h
    · exact ⟨N, h0, fun t ht => hN t ht⟩
theorem lag_pd {ns : List Int} (h : lagS ns 0 ≠ 0) : PD (lagS ns) := by
  have hx : ∃ t, gx ns t ≠ 0 := by
    refine Classical.byContradiction fun z => h ?_
    rw [lag_S]
    refine DT.S_zero fun t _ => ?_
    have : gx ns t = 0 := Classical.byContradiction fun y => z ⟨t, y⟩
    rw [this, Int.zero_mul]
  obtain ⟨t0, h1, h2⟩ := last_nz (N := ns.length) (fun t ht => gx_out ht) hx
  exact DT.pd_ac (x := gx ns) (N := ns.length) (fun t ht => gx_out ht) h1 h2 fun j => lag_S ns j
theorem gx_bt {ns : List Int} {b : Nat} (h : ∀ x ∈ ns, Bt b x) (t : Nat) : Bt b (gx ns t) := by
  by_cases ht : t < ns.length
  · unfold gx
    rw [List.getD_eq_getElem?_getD, List.getElem?_eq_getElem ht]
    exact h _ (List.getElem_mem ht)
  · rw [gx_out (by omega)]
    exact Nat.two_pow_pos _
theorem lag_bt {ns : List Int} {b s : Nat} (h : ∀ x ∈ ns, Bt b x) (hl : ns.length ≤ 2 ^ s) (d : Nat) : Bt (b + b + s) (lagS ns d) := by
  rw [lag_S]
  exact DT.Bt.S (fun t _ => (gx_bt h t).mul (gx_bt h _)) hl
theorem acor_lf (ns : List Int) (m : Nat) : acor ns m = lf (m + 1) (lagS ns) := rfl

/-! ### rounding -/
def rndN (a b : Int) : Int := (2 * a + b) / (2 * b)
def rnd (a b : Int) : Int := if a < 0 then -rndN (-a) b else rndN a b
def sp_rndF : Sp := fun _ _ _ _ => False
def sp_rnd0 : Sp := fun vs H Q _ => ∃ (a b : Int), vs = [.int a, .int b] ∧ 0 ≤ a ∧ 0 < b ∧ DT.Bt 8900 b ∧ RetV (.int (rndN a b)) H Q
def sp_rnd : Sp := fun vs H Q _ => ∃ (a b : Int), vs = [.int a, .int b] ∧ 0 < b ∧ DT.Bt 8900 b ∧ RetV (.int (rnd a b)) H Q
theorem log_lt {b : Int} (h : DT.Bt 8900 b) : (2 * b).natAbs.log2 < 9000 := by
  have h2 : DT.Bt (2 + 8900) (2 * b) := DT.Bt.mul (show (2 : Int).natAbs < 2 ^ 2 by decide) h
  have := h2.log
  omega
theorem okF_rounded (T : TX K mg) : FnOk P w K mg base CX0 1 T.a_rounded T.d_rounded ["a", "b"] sp_rndF :=
  T.F_rounded.ok sc_rounded (fun _ _ _ _ h => h.elim) (fun _ _ _ _ _ _ _ _ _ h => h.elim)
theorem ok0_rounded (T : TX K mg) : FnOk P w K mg base CX0 2 T.a_rounded T.d_rounded ["a", "b"] sp_rnd0 := by
  refine T.F_rounded.ok sc_rounded (fun vs H Q E h => by obtain ⟨a, b, rfl, _⟩ := h; rfl) (fun cdv A outer s0 H vs Q E hr h => ?_)
  obtain ⟨a, b, rfl, ha, hb, hb2, k⟩ := h
  refine ⟨_, (pss_cons (ps_if (pt_cmpR op_lt (pv 0) pe_int (nomark _)) (pss_one (ps_ret (pe_un un_neg (pe_call (okF_rounded T) (hr.mono (by decide)) (by rfl) T.g_rounded T.F_rounded.kp T.b_rounded .nil pass0 (pa_cons (pe_un un_neg (pv 0)) (pa_cons (pv 1) pa_nil)))))) pss_nil)
      (pss_one (ps_ret (pe_op op_fdivW (pe_op op_add (pe_op op_mul pe_int (pv 0)) (pv 1)) (pe_op op_mul pe_int (pv 1)))))), ?_⟩
  refine q_when (b := false) (et_is (et_test (ev_I0 (ev_var rfl) ev_c)) (decide_eq_false (by omega))) (fun hb => by cases hb) fun _ H1 e1 => ?_
  exact s_ret (v := .int (rndN a b)) (ev_I (ev_I0 (ev_I ev_c (ev_var rfl) (.inl (by decide))) (ev_var rfl)) (ev_I ev_c (ev_var rfl) (.inl (by decide))) ⟨by omega, log_lt hb2⟩) fun H2 e2 => k.go (e1.trans e2)
theorem ok_rounded (T : TX K mg) : FnOk P w K mg base CX0 3 T.a_rounded T.d_rounded ["a", "b"] sp_rnd := by
  refine T.F_rounded.ok sc_rounded (fun vs H Q E h => by obtain ⟨a, b, rfl, _⟩ := h; rfl) (fun cdv A outer s0 H vs Q E hr h => ?_)
  obtain ⟨a, b, rfl, hb, hb2, k⟩ := h
  refine ⟨_, (pss_cons (ps_if (pt_cmpR op_lt (pv 0) pe_int (nomark _)) (pss_one (ps_ret (pe_un un_neg (pe_call (ok0_rounded T) (hr.mono (by decide)) (by rfl) T.g_rounded T.F_rounded.kp T.b_rounded .nil pass0 (pa_cons (pe_un un_neg (pv 0)) (pa_cons (pv 1) pa_nil)))))) pss_nil)
      (pss_one (ps_ret (pe_op op_fdivW (pe_op op_add (pe_op op_mul pe_int (pv 0)) (pv 1)) (pe_op op_mul pe_int (pv 1)))))), ?_⟩
  unfold rnd at k
  by_cases ha : a < 0
  · rw [if_pos ha] at k
    refine q_when (b := true) (et_is (et_test (ev_I0 (ev_var rfl) ev_c)) (decide_eq_true ha)) (fun _ H1 e1 => ?_) (fun hb => by cases hb)
    exact s_ret (v := .int (-rndN (-a) b)) (ev_negI (ev_call (sp := sp_rnd0) (ea_cons (ev_negI (ev_var rfl)) (ea_cons (ev_var rfl) ea_nil)) fun H2 _ Q' q' _ => ⟨-a, b, rfl, by omega, hb, hb2, q'⟩)) fun H2 e2 => k.go (e1.trans e2)
  · rw [if_neg ha] at k
    refine q_when (b := false) (et_is (et_test (ev_I0 (ev_var rfl) ev_c)) (decide_eq_false ha)) (fun hb => by cases hb) fun _ H1 e1 => ?_
    exact s_ret (v := .int (rndN a b)) (ev_I (ev_I0 (ev_I ev_c (ev_var rfl) (.inl (by decide))) (ev_var rfl)) (ev_I ev_c (ev_var rfl) (.inl (by decide))) ⟨by omega, log_lt hb2⟩) fun H2 e2 => k.go (e1.trans e2)
theorem ev_rnd {σ : L2.St} {H : Hp} {t1 t2 : TE} {E : XK} {a b : Int} (h1 : Ev t1 σ H (.int a)) (h2 : Ev t2 σ H (.int b)) (hb : 0 < b) (hb2 : DT.Bt 8900 b) : Ev (tCall sp_rnd [] E (tCons t1 (tCons t2 tNil))) σ H (.int (rnd a b)) := ev_call (ea_cons h1 (ea_cons h2 ea_nil)) fun H1 _ Q q _ => ⟨a, b, rfl, hb, hb2, q⟩
/-! ### quantizing -/
def absI (i : Int) : Int := if i < 0 then -i else i
theorem absI_nn (i : Int) : 0 ≤ absI i := by unfold absI; split <;> omega
def topI (ns : List Int) : Int := maxI 0 (ns.map absI)
theorem p2posQ (j : Nat) : (0 : Int) < 2 ^ j := Int.pow_pos (by decide)
theorem maxI_nnQ {us : List Int} (h : ∀ u ∈ us, 0 ≤ u) : 0 ≤ maxI 0 us ∧ (maxI 0 us = 0 ∨ maxI 0 us ∈ us) ∧ ∀ u ∈ us, u ≤ maxI 0 us := by
  cases us with
  | nil => exact ⟨Int.le_refl _, .inl rfl, fun u hu => by cases hu⟩
  | cons x r =>
    obtain ⟨h1, h2, h3⟩ := foldl_max r x
    have hx := h x (List.mem_cons_self ..)
    refine ⟨Int.le_trans hx h2, .inr ?_, fun u hu => ?_⟩
    · rcases h1 with e | e
      · show r.foldl max x ∈ x :: r
        rw [e]
        exact List.mem_cons_self ..
      · exact List.mem_cons_of_mem _ e
    · rcases List.mem_cons.mp hu with rfl | hu
      · exact h2
      · exact h3 u hu
theorem topI_nn (ns : List Int) : 0 ≤ topI ns := (maxI_nnQ fun u hu => by obtain ⟨n, _, rfl⟩ := List.mem_map.mp hu; exact absI_nn n).1
def sizeF (ns : List Int) (b : Int) (s : Nat) : Int := rnd (topI ns * 2 ^ s) b
def pick (F : Nat → Int) (bd : Int) : Nat → Option Nat
  | 0 => none
  | s + 1 => if F s ≤ bd then (if F s = 0 then none else some s) else pick F bd s
def rowZ (ns : List Int) (b : Int) (s : Nat) : List Int := ns.map fun n => rnd (n * 2 ^ s) b
/-- a row with its shift in a new pair, or None -/
def RetO (ns : List Int) (b : Int) (o : Option Nat) (H : Hp) (Q : VK) : Prop := match o with
  | none => RetV .non H Q
  | some s => ∀ p a H2, H p = none → H a = none → Ex H H2 → H2 p = some (.tup [.ref a, .int (s : Int)]) → H2 a = some (.lst ((rowZ ns b s).map V.int)) → Q (.ref p) H2
theorem s_retLV {σ : L2.St} {H : Hp} {D : Ends} {t1 t2 : TE} {xs : List V} {v : V} (h1 : EvL t1 σ H xs) (h2 : ∀ H1, Ex H H1 → Ev t2 σ H1 v) (k : ∀ p a H2, H p = none → H a = none → Ex H H2 → H2 p = some (.tup [.ref a, v]) → H2 a = some (.lst xs) → D.rt (.ref p) H2) : tRet (tTup (tCons t1 (tCons t2 tNil))) D σ H :=
  h1 H (Ex.refl H) _ fun a H1 ha e1 g1 => h2 H1 e1 H1 (Ex.refl _) _ fun H2 e2 => ⟨sz_of (show 2 ≤ 100000 by decide), fun p hp => k p a _ (fresh_back (e1.trans e2) hp) ha ((e1.trans e2).trans (Ex.new hp)) upd_same ((e2.trans (Ex.new hp)) _ _ g1)⟩
def SmallN (ns : List Int) : Prop := ∀ n ∈ ns, DT.Bt 8900 n
theorem cshl {N : Nat} {x : Int} {s : Nat} (h : DT.Bt N x) (hN : N ≤ 8900) (hs : s ≤ 1000) : CShl x (s : Int) := by
  have := PyProof.Rows.intBits_le h
  have e : (2 : Int) ^ 27 = 134217728 := by decide
  refine ⟨by omega, ?_⟩
  rw [e]
  omega
theorem topI_bt {ns : List Int} (h : SmallN ns) : DT.Bt 8900 (topI ns) := by
  have hp : (1 : Int) ≤ 2 ^ 8900 := by
    have : (0 : Int) < 2 ^ 8900 := Int.pow_pos (by decide)
    omega
  rcases (maxI_nnQ (us := ns.map absI) fun u hu => by obtain ⟨n, _, rfl⟩ := List.mem_map.mp hu; exact absI_nn n).2.1 with e | e
  · unfold topI
    rw [e]
    exact Nat.two_pow_pos _
  · obtain ⟨n, hn, e⟩ := List.mem_map.mp e
    have := h n hn
    unfold topI
    rw [← e]
    unfold absI
    split
    · exact this.neg
    · exact this
def sp_quant (K : PySem.W.Frag) : Sp := fun vs H Q _ => ∃ (a : Addr) (ns : List Int) (b : Int) (p : Nat), vs = [.ref a, .int b, .int (p : Int)] ∧ SqL K H a (ns.map V.int) ∧ ns.length ≤ 1000 ∧ SmallN ns ∧ 0 < b ∧ DT.Bt 8900 b ∧ 1 ≤ p ∧ p ≤ 1000 ∧ RetO ns b (pick (sizeF ns b) (2 ^ (p - 1) - 1) 16) H Q
theorem ok_quantize (T : TX K mg) : FnOk P w K mg base CX0 4 T.a_quantize T.d_quantize ["numerators", "denominator", "precision"] (sp_quant K) := by
  refine T.F_quantize.ok sc_quantize (fun vs H Q E h => by obtain ⟨a, ns, b, p, rfl, _⟩ := h; rfl) (fun cdv A outer s0 H vs Q E hr h => ?_)
  obtain ⟨a, ns, b, p, rfl, hS, hl, hsm, hb, hb2, hp1, hp2, k⟩ := h
  refine ⟨_, (pss_cons (ps_set (i := 3) sc_quantize.nd rfl (Or.inl rfl) (pe_op op_sub (pe_op op_shlW pe_int (pe_op op_sub (pv 2) pe_int)) pe_int))
      (pss_cons (ps_set (i := 4) sc_quantize.nd rfl (Or.inl rfl) (pe_callBK (cr_maxDef (hu64 hr)) (by rfl) T.m_max PyProof.Rows.boot_max (pa_cons (pe_lc (own := [("numerator", 6)]) (g := gName 6) (tt := tYes) rfl sc_quantize.nd (pi_list (pv 0)) (blkOk_by (N := ["numerators", "denominator", "precision", "bound", "greatest", "shift", "numerator"]) (sc := defScope s_quantize) (by decide +kernel)) (fun _ _ _ _ _ => pg_name (i := 6) sc_quantize.nd rfl (Or.inl rfl)) (fun _ _ _ _ _ => pts_nil) (fun _ _ _ _ _ => (pe_callB call_abs (by rfl) T.m_abs PyProof.Rows.boot_abs (pa_cons (pv 6) pa_nil)))) pa_nil) (pk_cons pe_int pk_nil)))
      (pss_cons (ps_set (i := 5) sc_quantize.nd rfl (Or.inr rfl) (pe_glob (by rfl) T.c_MOST_SHIFT T.r_MOST_SHIFT))
      (pss_cons (ps_while PassesOwn.never (PW.pt (pw_and (pt_cmpR op_ge (pv 5) pe_int (nomark _)) (pw_and1 (pt_cmpR op_gt (pe_call (ok_rounded T) (hr.mono (by decide)) (by rfl) T.g_rounded T.F_rounded.kp T.b_rounded .nil pass0 (pa_cons (pe_op op_shlW (pv 4) (pv 5)) (pa_cons (pv 1) pa_nil))) (pv 3) (nomark _))))) (pss_one (ps_aug (i := 5) sc_quantize.nd rfl (Or.inr rfl) pe_int ip_sub)))
      (pss_cons (ps_if (PW.pt (pw_or (pt_cmpR op_lt (pv 5) pe_int (nomark _)) (pw_or1 (pt_cmpR op_eq (pe_call (ok_rounded T) (hr.mono (by decide)) (by rfl) T.g_rounded T.F_rounded.kp T.b_rounded .nil pass0 (pa_cons (pe_op op_shlW (pv 4) (pv 5)) (pa_cons (pv 1) pa_nil))) pe_int (nomark _))))) (pss_one (ps_ret pe_non)) pss_nil)
      (pss_one (ps_ret (pe_tup (pa_cons (pe_lc (own := [("numerator", 6)]) (g := gName 6) (tt := tYes) rfl sc_quantize.nd (pi_list (pv 0)) (blkOk_by (N := ["numerators", "denominator", "precision", "bound", "greatest", "shift", "numerator"]) (sc := defScope s_quantize) (by decide +kernel)) (fun _ _ _ _ _ => pg_name (i := 6) sc_quantize.nd rfl (Or.inl rfl)) (fun _ _ _ _ _ => pts_nil) (fun _ _ _ _ _ => (pe_call (ok_rounded T) (hr.mono (by decide)) (by rfl) T.g_rounded T.F_rounded.kp T.b_rounded .nil pass0 (pa_cons (pe_op op_shlW (pv 6) (pv 5)) (pa_cons (pv 1) pa_nil))))) (pa_cons (pv 5) pa_nil)))))))))), ?_⟩
  refine q_asg (v := .int (2 ^ (p - 1) - 1)) (Ev.is (ev_I0 (ev_I ev_c (ev_I0 (ev_var rfl) ev_c) (by rw [show ((p : Int) - 1) = ((p - 1 : Nat) : Int) by omega]; exact cshl (N := 1) (show (1 : Int).natAbs < 2 ^ 1 by decide) (by decide) (by omega))) ev_c) (congrArg V.int (by rw [show ((p : Int) - 1).toNat = p - 1 by omega, Int.one_mul]))) fun H1 e1 => ?_
  generalize (2 : Int) ^ (p - 1) - 1 = bd at *
  refine q_asg (v := .int (topI ns)) (ev_maxD (ns := ns.map absI) (d := 0) (EvR.s (EvL.r (EvL.is (xs := ns.map fun n => V.int (absI n)) (el_lcS _ (Ev.s (ev_var rfl) (ex_l e1 hS)) (by rw [List.length_map, List.length_map]) (by rw [List.length_map]; omega) (fun _ => rfl) fun i x H2 e2 hx => ?_) (by rw [List.map_map]; rfl)))) ev_c) fun H2 e2 => ?_
  · obtain ⟨n, hn, hi, rfl⟩ := int_at hx
    exact ⟨.int (absI n), by rw [List.getElem?_map, hn]; rfl, ev_abs (ev_var rfl)⟩
  have htop := topI_nn ns
  have htop2 := topI_bt hsm
  have evF : ∀ {σ : L2.St} {H' : Hp} {s : Nat} {E : XK}, σ[4]? = some (some (.int (topI ns))) → σ[5]? = some (some (.int (s : Int))) → σ[1]? = some (some (.int b)) → s ≤ 100 → Ev (tCall sp_rnd [] E (tCons (tOp (rI CShl fun i j => .int (i * 2 ^ j.toNat)) (tVar 4) (tVar 5)) (tCons (tVar 1) tNil))) σ H' (.int (sizeF ns b s)) := fun {σ H' s E} h1 h2 h3 hs =>
    ev_rnd (Ev.is (ev_I (ev_var h1) (ev_var h2) (cshl htop2 (by decide) (by omega))) (congrArg V.int (by rw [Int.toNat_natCast]))) (ev_var h3) hb hb2
  refine q_asg ev_c fun H3 e3 => ?_
  refine q_while (fun s σ' H' => s ≤ 16 ∧ σ' = [some (.ref a), some (.int b), some (.int (p : Int)), some (.int bd), some (.int (topI ns)), some (.int ((s : Int) - 1)), none] ∧ Ex H H' ∧ pick (sizeF ns b) bd 16 = pick (sizeF ns b) bd s) 16 ⟨Nat.le_refl _, rfl, (e1.trans e2).trans e3, rfl⟩ ?_
  rintro s σ' H4 ⟨hs, rfl, ex, hpk⟩
  cases s with
  | zero =>
    refine ⟨false, et_is (et_and (a := false) (b := false) (et_is (et_test (ev_I0 (ev_var rfl) ev_c)) (decide_eq_false (by omega))) fun h => by cases h) rfl, fun h => by (cases h), fun _ H5 e5 => ?_⟩
    refine q_when (b := true) (et_is (et_or (a := true) (b := true) (et_is (et_test (ev_I0 (ev_var rfl) ev_c)) (decide_eq_true (by omega))) fun h => by cases h) rfl) (fun _ H6 e6 => ?_) (fun hb => by cases hb)
    rw [hpk] at k
    exact s_ret (v := .non) ev_c fun H7 e7 => (show RetV .non H Q from k).go ((ex.trans e5).trans (e6.trans e7))
  | succ s =>
    have hslot : (some (some (V.int (((s + 1 : Nat) : Int) - 1))) : Option (Option V)) = some (some (.int (s : Int))) := by congr 3; omega
    have hge : ∀ {H' : Hp}, EvT (tTest (tOp (rI0 fun i j => .bl (decide (j ≤ i))) (tVar 5) (tC (.int 0)))) [some (.ref a), some (.int b), some (.int (p : Int)), some (.int bd), some (.int (topI ns)), some (.int (((s + 1 : Nat) : Int) - 1)), none] H' true := fun {H'} => et_is (et_test (ev_I0 (ev_var rfl) ev_c)) (decide_eq_true (by omega))
    have eF : ∀ {H' : Hp} {E : XK} {z : Option V}, Ev (tCall sp_rnd [] E (tCons (tOp (rI CShl fun i j => .int (i * 2 ^ j.toNat)) (tVar 4) (tVar 5)) (tCons (tVar 1) tNil))) [some (.ref a), some (.int b), some (.int (p : Int)), some (.int bd), some (.int (topI ns)), some (.int (((s + 1 : Nat) : Int) - 1)), z] H' (.int (sizeF ns b s)) := fun {H' E z} => evF rfl hslot rfl (by omega)
    refine ⟨decide (bd < sizeF ns b s), et_is (et_and (a := true) (b := decide (bd < sizeF ns b s)) hge fun _ => et_test (ev_I0 eF (ev_var rfl))) rfl, fun hb' H5 e5 => ?_, fun hb' H5 e5 => ?_⟩
    · have hb' := of_decide_eq_true hb'
      refine ⟨fun σ2 H2 => σ2 = [some (.ref a), some (.int b), some (.int (p : Int)), some (.int bd), some (.int (topI ns)), some (.int ((s : Int) - 1)), none] ∧ Ex H H2, ?_, ?_⟩
      · rintro σ2 H6 ⟨rfl, e6⟩
        refine ⟨s, by omega, by omega, rfl, e6, ?_⟩
        rw [hpk]
        show (if sizeF ns b s ≤ bd then _ else pick (sizeF ns b) bd s) = _
        rw [if_neg (by omega)]
      · refine s_aug (a := ((s + 1 : Nat) : Int) - 1) rfl ev_c fun H6 e6 => ⟨?_, (ex.trans e5).trans e6⟩
        show [_, _, _, _, _, some (V.int (((s + 1 : Nat) : Int) - 1 - 1)), _] = _
        rw [show ((s + 1 : Nat) : Int) - 1 - 1 = (s : Int) - 1 by omega]
    · have hb' := of_decide_eq_false hb'
      have hpk2 : pick (sizeF ns b) bd 16 = if sizeF ns b s = 0 then none else some s := by
        rw [hpk]
        show (if sizeF ns b s ≤ bd then _ else pick (sizeF ns b) bd s) = _
        rw [if_pos (by omega)]
      rw [hpk2] at k
      have hlt : ∀ {H' : Hp}, EvT (tTest (tOp (rI0 fun i j => .bl (decide (i < j))) (tVar 5) (tC (.int 0)))) [some (.ref a), some (.int b), some (.int (p : Int)), some (.int bd), some (.int (topI ns)), some (.int (((s + 1 : Nat) : Int) - 1)), none] H' false := fun {H'} => et_is (et_test (ev_I0 (ev_var rfl) ev_c)) (decide_eq_false (by omega))
      refine q_when (b := decide (V.int (sizeF ns b s) = V.int 0)) (et_is (et_or (a := false) (b := decide (V.int (sizeF ns b s) = V.int 0)) hlt fun _ => et_test (ev_eq eF ev_c rfl)) rfl) (fun h0 H6 e6 => ?_) (fun h0 H6 e6 => ?_)
      · have h0 : sizeF ns b s = 0 := V.int.inj (of_decide_eq_true h0)
        rw [if_pos h0] at k
        exact s_ret (v := .non) ev_c fun H7 e7 => (show RetV .non H Q from k).go ((ex.trans e5).trans (e6.trans e7))
      · have h0 : ¬ sizeF ns b s = 0 := fun z => of_decide_eq_false h0 (congrArg V.int z)
        rw [if_neg h0] at k
        have e06 := (ex.trans e5).trans e6
        refine s_retLV (xs := (rowZ ns b s).map V.int) (v := .int (s : Int)) (el_lcS _ (Ev.s (ev_var rfl) (ex_l e06 hS)) (by unfold rowZ; rw [List.length_map, List.length_map, List.length_map]) (by unfold rowZ; rw [List.length_map, List.length_map]; omega) (fun _ => rfl) fun i x H7 e7 hx => ?_) (fun _ _ => ev_var hslot) fun t q H7 ht hq e7 g7 g8 => (show RetO ns b (some s) H Q from k) t q _ (fresh_back e06 ht) (fresh_back e06 hq) (e06.trans e7) g7 g8
        · obtain ⟨n, hn, hi, rfl⟩ := int_at hx
          have hn2 := hsm n (List.mem_of_getElem? hn)
          refine ⟨_, at_int (n := rnd (n * 2 ^ s) b) (by unfold rowZ; rw [List.getElem?_map, hn]; rfl), ev_rnd (Ev.is (ev_I (j := (s : Int)) (ev_var rfl) (ev_var hslot) (cshl hn2 (by decide) (by omega))) (congrArg V.int (by rw [Int.toNat_natCast]))) (ev_var rfl) hb hb2⟩
/-! ### the law's defs -/
theorem rndN_nn {a b : Int} (ha : 0 ≤ a) (hb : 0 < b) : 0 ≤ rndN a b := by
  unfold rndN
  exact Int.ediv_nonneg (by omega) (by omega)
theorem rndN_mono {a c b : Int} (h : a ≤ c) (hb : 0 < b) : rndN a b ≤ rndN c b := by
  unfold rndN
  exact Int.ediv_le_ediv (by omega) (by omega)
theorem mul_p2_neg {n : Int} (s : Nat) : n * 2 ^ s < 0 ↔ n < 0 := by
  have hp := p2posQ s
  constructor
  · intro h
    by_cases hn : n < 0
    · exact hn
    · have := Int.mul_nonneg (show 0 ≤ n by omega) (Int.le_of_lt hp)
      omega
  · intro h
    exact Int.mul_neg_of_neg_of_pos h hp
theorem rnd_abs {n b : Int} (s : Nat) (hb : 0 < b) : absI (rnd (n * 2 ^ s) b) = rndN (absI n * 2 ^ s) b := by
  unfold rnd
  by_cases h : n < 0
  · rw [if_pos ((mul_p2_neg s).mpr h)]
    have e : -(n * 2 ^ s) = absI n * 2 ^ s := by unfold absI; rw [if_pos h, Int.neg_mul]
    rw [e]
    have := rndN_nn (a := absI n * 2 ^ s) (b := b) (Int.mul_nonneg (absI_nn n) (Int.le_of_lt (p2posQ s))) hb
    generalize rndN (absI n * 2 ^ s) b = z at *
    unfold absI
    split <;> omega
  · rw [if_neg (fun z => h ((mul_p2_neg s).mp z))]
    have e : n * 2 ^ s = absI n * 2 ^ s := by unfold absI; rw [if_neg h]
    rw [e]
    have := rndN_nn (a := absI n * 2 ^ s) (b := b) (Int.mul_nonneg (absI_nn n) (Int.le_of_lt (p2posQ s))) hb
    generalize rndN (absI n * 2 ^ s) b = z at *
    unfold absI
    split <;> omega
theorem size_top {ns : List Int} {b : Int} (s : Nat) (hb : 0 < b) (hne : 0 < ns.length) : sizeF ns b s ∈ (rowZ ns b s).map absI ∧ ∀ y ∈ (rowZ ns b s).map absI, y ≤ sizeF ns b s := by
  have hs0 : sizeF ns b s = rndN (topI ns * 2 ^ s) b := by
    unfold sizeF rnd
    rw [if_neg (fun z => by have := (mul_p2_neg s).mp z; have := topI_nn ns; omega)]
  obtain ⟨h0, h1, h2⟩ := maxI_nnQ (us := ns.map absI) fun u hu => by obtain ⟨n, _, rfl⟩ := List.mem_map.mp hu; exact absI_nn n
  have hmem : topI ns ∈ ns.map absI := by
    unfold topI
    rcases h1 with e | e
    · cases ns with
      | nil => cases hne
      | cons x r =>
        have hx := h2 (absI x) (List.mem_map_of_mem (List.mem_cons_self ..))
        have hx0 := absI_nn x
        rw [e] at hx ⊢
        have : absI x = 0 := by omega
        rw [← this]
        exact List.mem_map_of_mem (List.mem_cons_self ..)
    · exact e
  refine ⟨?_, fun y hy => ?_⟩
  · obtain ⟨n, hn, e⟩ := List.mem_map.mp hmem
    rw [hs0, ← e, ← rnd_abs s hb]
    exact List.mem_map_of_mem (by unfold rowZ; exact List.mem_map_of_mem hn)
  · obtain ⟨z, hz, rfl⟩ := List.mem_map.mp hy
    unfold rowZ at hz
    obtain ⟨n, hn, rfl⟩ := List.mem_map.mp hz
    rw [rnd_abs s hb, hs0]
    exact rndN_mono (Int.mul_le_mul_of_nonneg_right (h2 _ (List.mem_map_of_mem hn)) (Int.le_of_lt (p2posQ s))) hb
theorem rowZ_len (ns : List Int) (b : Int) (s : Nat) : (rowZ ns b s).length = ns.length := List.length_map ..

/-! ### the quantized predictors of a row -/
open DT (Bt PD tp Sol)
def pq (c : Nat → Int) (p k : Nat) : Option Nat := pick (sizeF (lf (k + 1) (Un c (k + 1))) (Dn c (k + 1))) (2 ^ (p - 1) - 1) 16
def pRow (c : Nat → Int) (k s : Nat) : List Int := rowZ (lf (k + 1) (Un c (k + 1))) (Dn c (k + 1)) s
def PrAt (c : Nat → Int) (p k : Nat) (H : Hp) (v : V) : Prop := match pq c p k with
  | none => v = .non
  | some s => ∃ t a, v = .ref t ∧ H t = some (.tup [.ref a, .int (s : Int)]) ∧ H a = some (.lst ((pRow c k s).map V.int))
def PrD (c : Nat → Int) (p k : Nat) (D : Addr) (H : Hp) (v : V) : Prop := match pq c p k with
  | none => v = .non
  | some s => ∃ t a, v = .ref t ∧ t ≠ D ∧ a ≠ D ∧ H t = some (.tup [.ref a, .int (s : Int)]) ∧ H a = some (.lst ((pRow c k s).map V.int))
theorem PrD.to {c : Nat → Int} {p k : Nat} {D : Addr} {H H' : Hp} {v : V} (h : PrD c p k D H v) (e : ∀ a o, a ≠ D → H a = some o → H' a = some o) : PrD c p k D H' v := by
  unfold PrD at *
  split at h
  · exact h
  · obtain ⟨t, a, rfl, h1, h2, h3, h4⟩ := h
    exact ⟨t, a, rfl, h1, h2, e _ _ h1 h3, e _ _ h2 h4⟩
theorem PrD.at {c : Nat → Int} {p k : Nat} {D : Addr} {H : Hp} {v : V} (h : PrD c p k D H v) : PrAt c p k H v := by
  unfold PrD at h
  unfold PrAt
  split at h
  · exact h
  · obtain ⟨t, a, rfl, h1, h2, h3, h4⟩ := h
    exact ⟨t, a, rfl, h3, h4⟩
def PO (c : Nat → Int) (k : Nat) (o : Option Nat) (H : Hp) (v : V) : Prop := match o with
  | none => v = .non
  | some s => ∃ t a, v = .ref t ∧ H t = some (.tup [.ref a, .int (s : Int)]) ∧ H a = some (.lst ((pRow c k s).map V.int))
theorem q_asgCL1 {σ : L2.St} {H : Hp} {te : TE} {xs : List V} {i : Nat} {sp : Sp} {dvs : List V} {E : XK} {tz : TS} {D : Ends} (h : EvL te σ H xs) (k : ∀ H1 p, H p = none → Ex H H1 → H1 p = some (.lst xs) → sp ([.ref p] ++ dvs) H1 (fun x H2 => tz D (σ.set i (some x)) H2) E) : tSeq (tAsg (tCall sp dvs E (tCons te tNil)) (gName i)) tz D σ H := h H (Ex.refl _) _ fun p H1 hp e g => k H1 p hp e g
theorem s_retLcL {σ : L2.St} {H : Hp} {t1 te : TE} {g : TG} {tt : TT} {vs : List Nat} {L : Addr} {xs : List V} {D : Ends} (Pv : Addr → Nat → Hp → Prop) (h : Ev t1 σ H (.ref L)) (hx : SqL K H L xs) (h0 : ∀ A H1, Ex H H1 → H1 A = none → Pv A 0 (upd H1 A (.lst []))) (hl : ∀ A i H', Pv A i H' → SqL K H' L xs)
    (hs : ∀ A i x H', xs[i]? = some x → Pv A i H' → g x (wipe σ vs) H' fun σ2 H2 => wipe σ2 vs = wipe σ vs ∧ tt σ2 H2 fun b H3 => if b = true then te σ2 H3 fun y H4 => ∃ acc, H4 A = some (.lst acc) ∧ acc.length < sizeLine ∧ Pv A (i + 1) (upd H4 A (.lst (acc ++ [y]))) else Pv A (i + 1) H3) (hd : ∀ A H', Pv A xs.length H' → D.rt (.ref A) H') : tRet (tLc (iList K t1) g tt te vs) D σ H :=
  h H (Ex.refl H) _ fun H1 e => ⟨L, rfl, ⟨xs, ex_l e hx⟩, fun A hA => lc_list (xs := xs) (Pv A) (h0 A H1 e hA) (fun i H' _ hp => hl A i H' hp) (hs A) (hd A)⟩
def sp_preds (K : PySem.W.Frag) : Sp := fun vs H Q _ => ∃ (a : Addr) (ns : List Int) (most p m : Nat), vs = [.ref a, .int (most : Int), .int (p : Int)] ∧ SqL K H a (ns.map V.int) ∧ ns.length ≤ 1000 ∧ most ≤ 60 ∧ 1 ≤ p ∧ p ≤ 1000 ∧ m ≤ 100 ∧ BdA (wgt ns) ∧ (∀ j, Bt m (lagS (wgt ns) j)) ∧
  ∀ L (vs' : List V) H', H L = none → Ex H H' → H' L = some (.lst vs') → vs'.length = most → (∀ k v, vs'[k]? = some v → if lagS (wgt ns) 0 = 0 then v = .non else PrAt (lagS (wgt ns)) p k H' v) → Q (.ref L) H'
theorem ok_predictors (T : TX K mg) : FnOk P w K mg base CX0 5 T.a_predictors T.d_predictors ["samples", "most", "precision"] (sp_preds K) := by
  refine T.F_predictors.ok sc_predictors (fun vs H Q E h => by obtain ⟨a, ns, most, p, m, rfl, _⟩ := h; rfl) (fun cdv A outer s0 H vs Q E hr h => ?_)
  obtain ⟨a, ns, most, p, m, rfl, hS, hl, hmo, hp1, hp2, hm, hbd, hcb, k⟩ := h
  refine ⟨_, (pss_cons (ps_set (i := 3) sc_predictors.nd rfl (Or.inl rfl) (pe_call (ok_exact_predictors T) (hr.mono (by decide)) (by rfl) T.g_exact_predictors T.F_exact_predictors.kp T.b_exact_predictors .nil pass0 (pa_cons (pe_call (ok_autocorrelation T) (hr.mono (by decide)) (by rfl) T.g_autocorrelation T.F_autocorrelation.kp T.b_autocorrelation .nil pass0 (pa_cons (pe_call (ok_weighted T) (hr.mono (by decide)) (by rfl) T.g_weighted T.F_weighted.kp T.b_weighted .nil pass0 (pa_cons (pv 0) pa_nil)) (pa_cons (pv 1) pa_nil))) pa_nil)))
      (pss_cons (ps_if (pt_cmpR op_eq (pe_callB (r := rLenS K) call_len_seq (by rfl) T.m_len PySem.boot_len (pa_cons (pv 3) pa_nil)) pe_int (nomark _)) (pss_one (ps_ret (pe_op op_rep (pe_lst (pa_cons pe_non pa_nil)) (pv 1)))) pss_nil)
      (pss_one (ps_ret (pe_lc (own := [("numerators", 4), ("denominator", 5)]) (g := (gTup K 2 (gCons (gName 4) (gCons (gName 5) gNil)))) (tt := tYes) rfl sc_predictors.nd (pi_list (pv 3)) (blkOk_by (N := ["samples", "most", "precision", "exact", "numerators", "denominator"]) (sc := defScope s_predictors) (by decide +kernel)) (fun _ _ _ _ _ => (pg_tup rfl (pgs_cons (pg_name (i := 4) sc_predictors.nd rfl (Or.inl rfl)) (pgs_cons (pg_name (i := 5) sc_predictors.nd rfl (Or.inl rfl)) pgs_nil)))) (fun _ _ _ _ _ => pts_nil) (fun _ _ _ _ _ => (pe_call (ok_quantize T) (hr.mono (by decide)) (by rfl) T.g_quantize T.F_quantize.kp T.b_quantize .nil pass0 (pa_cons (pv 4) (pa_cons (pv 5) (pa_cons (pv 2) pa_nil)))))))))), ?_⟩
  obtain ⟨c, hc⟩ : ∃ c, lagS (wgt ns) = c := ⟨_, rfl⟩
  have hpd : c 0 ≠ 0 → PD c := fun h => by rw [← hc] at h ⊢; exact lag_pd h
  rw [hc] at hcb k
  refine q_asgCL1 (xs := (lf (most + 1) c).map V.int) (EvL.is (el_acor (K := K) (m := most) (EvR.s (EvL.r (el_weighted (Ev.s (ev_var rfl) hS) hl))) (ev_var rfl) (by rw [wgt_len]; exact hl) (by omega) hbd) (by rw [acor_lf, hc])) fun H1 pc hpc e1 g1 => ⟨pc, c, most + 1, m, rfl, sq_of g1, by omega, by omega, hm, hcb, hpd, fun L ts H2 hL e2 gL htl hts => ?_⟩
  have e12 := e1.trans e2
  refine q_when (b := decide (ts.length = 0)) (et_test (Ev.is (ev_eq (ev_lenS (K := K) (Ev.s (ev_var rfl) (sq_of gL))) ev_c rfl) (congrArg V.bl (decide_eq_decide.mpr (by rw [List.length_map]; exact ⟨fun h => by have := V.int.inj h; omega, fun h => by rw [h]; rfl⟩))))) (fun hb H3 e3 => ?_) (fun hb H3 e3 => ?_)
  · have hb := of_decide_eq_true hb
    refine s_retL (xs := List.replicate most V.non) (EvL.is (el_rep (xs := [V.non]) (k := (most : Int)) (EvL.r (el_lst (ea_cons ev_c ea_nil) (by decide))) (ev_var rfl) (by omega) (by rw [Int.toNat_natCast]; show 1 * most ≤ _; omega)) (by rw [Int.toNat_natCast, List.flatten_replicate_singleton])) fun r H4 hr e4 g4 => k r _ H4 (fresh_back (e12.trans e3) hr) (e12.trans (e3.trans e4)) g4 (List.length_replicate ..) fun i v hv => ?_
    have hvm : v = .non := List.eq_of_mem_replicate (List.mem_of_getElem? hv)
    have hi : i < most := by
      have := (List.getElem?_eq_some_iff.mp hv).1
      rwa [List.length_replicate] at this
    rw [hb] at htl
    by_cases h0 : c 0 = 0
    · rw [if_pos h0]; exact hvm
    · rw [if_neg h0] at htl
      omega
  have hb := of_decide_eq_false hb
  have hc0 : c 0 ≠ 0 := fun h => by rw [if_pos h] at htl; exact hb htl
  rw [if_neg hc0, Nat.add_sub_cancel] at htl
  have hall := DT.lev_all (hpd hc0)
  have gL3 := e3 _ _ gL
  have hts3 : ∀ k t, ts[k]? = some t → ExAt c H3 t k := fun k t h => (hts k t h).ex e3
  refine s_retLcL (K := K) (L := L) (xs := ts.map V.ref) (fun D i H' => Ex H H' ∧ Ex H3 H' ∧ H D = none ∧ H3 D = none ∧ ∃ vs' : List V, H' D = some (.lst vs') ∧ vs'.length = i ∧ ∀ k v, vs'[k]? = some v → PrD c p k D H' v) (ev_var rfl) (sq_of gL3) (fun D H4 e4 hD => ⟨(e12.trans (e3.trans e4)).trans (Ex.new hD), e4.trans (Ex.new hD), fresh_back (e12.trans (e3.trans e4)) hD, fresh_back e4 hD, [], upd_same, rfl, fun k v h => by cases h⟩) (fun D i H' h => sq_of (h.2.1 _ _ gL3)) (fun D i x H' hi inv => ?_) fun D H' inv => ?_
  · obtain ⟨exH, ex, hDH, hD, vs', gD, hvl, hv⟩ := inv
    rw [List.getElem?_map] at hi
    obtain ⟨t, ht, rfl⟩ := Option.map_eq_some_iff.mp hi
    have hil : i < most := by rw [← htl]; exact (List.getElem?_eq_some_iff.mp ht).1
    obtain ⟨nl, gt, gnl⟩ := (hts3 i t ht).ex ex
    have hkm : (i + 1) * (m + 6) ≤ 60 * 106 := Nat.mul_le_mul (by omega) (by omega)
    have hnew : ∀ H6 v, Ex H' H6 → PrD c p i D H6 v → ∃ acc, H6 D = some (.lst acc) ∧ acc.length < sizeLine ∧ (Ex H (upd H6 D (.lst (acc ++ [v]))) ∧ Ex H3 (upd H6 D (.lst (acc ++ [v]))) ∧ H D = none ∧ H3 D = none ∧ ∃ vs' : List V, upd H6 D (.lst (acc ++ [v])) D = some (.lst vs') ∧ vs'.length = i + 1 ∧ ∀ k v', vs'[k]? = some v' → PrD c p k D (upd H6 D (.lst (acc ++ [v]))) v') := fun H6 v e6 hpr => by
      have to : ∀ a o, a ≠ D → H6 a = some o → upd H6 D (.lst (vs' ++ [v])) a = some o := fun a o h g => by rw [upd_ne h]; exact g
      refine ⟨vs', e6 _ _ gD, sz_lt (by omega), Ex.mut (exH.trans e6) hDH, Ex.mut (ex.trans e6) hD, hDH, hD, vs' ++ [v], upd_same, by rw [List.length_append, hvl]; rfl, fun k v' hk => ?_⟩
      rcases Nat.lt_or_ge k vs'.length with hlt | hge
      · rw [List.getElem?_append_left hlt] at hk
        exact (hv k v' hk).to fun a o h g => to a o h (e6 _ _ g)
      · rw [List.getElem?_append_right hge] at hk
        have hj0 : k - vs'.length = 0 := by
          rcases Nat.eq_zero_or_pos (k - vs'.length) with z | z
          · exact z
          · rw [List.getElem?_eq_none (by show 1 ≤ _; omega)] at hk; cases hk
        rw [hj0] at hk
        obtain rfl : v = v' := Option.some.inj hk
        obtain rfl : k = i := by omega
        exact hpr.to to
    refine ⟨t, [.ref nl, .int (Dn c (i + 1))], rfl, st_of gt, rfl, .ref nl, [.int (Dn c (i + 1))], rfl, .int (Dn c (i + 1)), [], rfl, rfl, rfl, ?_⟩
    show tCall (sp_quant K) [] _ (tCons (tVar 4) (tCons (tVar 5) (tCons (tVar 2) tNil))) [some (.ref a), some (.int (most : Int)), some (.int (p : Int)), some (.ref L), some (.ref nl), some (.int (Dn c (i + 1)))] H' _
    refine ea_go (t := tCons (tVar 4) (tCons (tVar 5) (tCons (tVar 2) tNil))) (vs := [.ref nl, .int (Dn c (i + 1)), .int (p : Int)]) (ea_cons (ev_var rfl) (ea_cons (ev_var rfl) (ea_cons (ev_var rfl) ea_nil))) fun H5 e5 => ⟨nl, lf (i + 1) (Un c (i + 1)), Dn c (i + 1), p, rfl, sq_of (e5 _ _ gnl), by rw [lf_len]; omega, fun n hn => ?_, (hall (i + 1)).1, (dn_bt hcb (by omega)).mono (by omega), hp1, hp2, ?_⟩
    · obtain ⟨j, _, rfl⟩ := List.mem_map.mp hn
      exact (un_bt hcb (by omega)).mono (by omega)
    · show RetO _ _ (pq c p i) H5 _
      cases hpq : pq c p i with
      | none =>
        intro H6 e6
        exact hnew H6 .non (e5.trans e6) (by unfold PrD; rw [hpq])
      | some s =>
        intro t2 a2 H6 ht2 ha2 e6 g1 g2
        have gD5 := e5 _ _ gD
        refine hnew H6 (.ref t2) (e5.trans e6) ?_
        unfold PrD
        rw [hpq]
        exact ⟨t2, a2, rfl, (by rintro rfl; rw [gD5] at ht2; cases ht2), (by rintro rfl; rw [gD5] at ha2; cases ha2), g1, g2⟩
  · obtain ⟨exH, ex, hDH, hD, vs', gD, hvl, hv⟩ := inv
    exact k D vs' H' hDH exH gD (by rw [hvl, List.length_map, htl]) fun i v hi => by rw [if_neg hc0]; exact (hv i v hi).at

/-! ### sizes of weighted rows -/
theorem int_bt {x : Int} {N : Nat} (h : -(2 ^ N) < x ∧ x < 2 ^ N) : DT.Bt N x := by
  have e : (2 : Int) ^ N = ((2 ^ N : Nat) : Int) := (Int.natCast_pow 2 N).symm
  rw [e] at h
  unfold DT.Bt
  omega
theorem bt_int {x : Int} {N : Nat} (h : DT.Bt N x) : -(2 ^ N) < x ∧ x < 2 ^ N := by
  have e : (2 : Int) ^ N = ((2 ^ N : Nat) : Int) := (Int.natCast_pow 2 N).symm
  rw [e]
  unfold DT.Bt at h
  omega
theorem wgt_bt {ns : List Int} {b s : Nat} (h : ∀ x ∈ ns, DT.Bt b x) (hl : ns.length ≤ 2 ^ s) : ∀ y ∈ wgt ns, DT.Bt (b + (s + 1) + (s + 1)) y := fun y hy => by
  obtain ⟨i, hi⟩ := List.mem_iff_getElem?.mp hy
  have hil := (List.getElem?_eq_some_iff.mp hi).1
  rw [wgt_len] at hil
  have hn : ns[i]? = some ns[i] := List.getElem?_eq_getElem hil
  rw [wgt_at hn] at hi
  have hi := Option.some.inj hi
  rw [← hi]
  have h1 : DT.Bt (s + 1) ((i : Int) + 1) := by
    unfold DT.Bt
    rw [Nat.pow_succ]
    omega
  have h2 : DT.Bt (s + 1) ((ns.length : Int) - i) := by
    unfold DT.Bt
    rw [Nat.pow_succ]
    omega
  exact ((h _ (List.getElem_mem hil)).mul h1).mul h2
theorem bda_of {ns : List Int} (h : ∀ y ∈ ns, DT.Bt 60 y) : BdA ns := fun y hy => bt_int (h y hy)

namespace BS
/-! ### settings -/
def fsS (x0 v x2 x3 x4 x5 x6 x7 x8 x9 x10 x11 : V) : List (Str × V) := [("block_size", x0), ("block_sizes", v), ("fixed_order", x2), ("linear_order", x3), ("search", x4), ("precision", x5), ("partition_order", x6), ("wide", x7), ("stereo", x8), ("wasted", x9), ("seek_interval", x10), ("vendor", x11)]
/-- a list at hand, or None -/
def OptL (o : Option (List V)) (x : V) (H : Hp) : Prop := match o with
  | none => x = .non
  | some l => ∃ q, x = .ref q ∧ H q = some (.lst l)
def OptN (o : Option (List V)) (x : V) (H H' : Hp) : Prop := match o with
  | none => x = .non
  | some l => ∃ q, x = .ref q ∧ H q = none ∧ H' q = some (.lst l)
theorem OptL.fr {o : Option (List V)} {x : V} {a C dx : Addr} {fs : List (Str × V)} {H H' : Hp} (h : OptL o x H) (ha : H a = some (.ins C dx fs)) (f : FrO a H H') : OptL o x H' := by
  cases o with
  | none => exact h
  | some l =>
    obtain ⟨q, e, g⟩ := h
    exact ⟨q, e, f q _ (by rintro rfl; rw [ha] at g; cases g) g⟩
def sp_setinit (C : Addr) : Sp := fun vs H Q _ => ∃ (a dx : Addr) (x0 x1 x2 x3 x4 x5 x6 x7 x8 x9 x10 x11 : V) (o : Option (List V)), vs = [.ref a, x0, x1, x2, x3, x4, x5, x6, x7, x8, x9, x10, x11] ∧ H a = some (.ins C dx []) ∧ OptL o x1 H ∧ ∀ H' v, FrO a H H' → H' a = some (.ins C dx (fsS x0 v x2 x3 x4 x5 x6 x7 x8 x9 x10 x11)) → OptN o v H H' → Q .non H'
theorem ok_Settings_init (T : TX K mg) : FnOk P w K mg base CX0 1 T.a_Settings_init T.d_Settings_init ["self", "block_size", "block_sizes", "fixed_order", "linear_order", "search", "precision", "partition_order", "wide", "stereo", "wasted", "seek_interval", "vendor"] (sp_setinit T.C_Settings) := by
  refine T.F_Settings_init.ok sc_Settings_init (fun vs H Q E h => by obtain ⟨a, dx, x0, x1, x2, x3, x4, x5, x6, x7, x8, x9, x10, x11, o, rfl, _⟩ := h; rfl) (fun cdv A outer s H vs Q E hr h => ?_)
  obtain ⟨a, dx, x0, x1, x2, x3, x4, x5, x6, x7, x8, x9, x10, x11, o, rfl, ha, ho, k⟩ := h
  refine ⟨_, (pss_cons (ps_fld (pv 0) (pv 1) rfl)
      (pss_cut (ps_fld (pv 0) (pe_ifExp (pt_cmpR op_isN1 (pv 2) pe_non (nomark _)) pe_non (pe_callTy (r := rListS K) call_list_of (by rfl) T.m_list PyProof.Rows.boot_list (pa_cons (pv 2) pa_nil))) rfl)
      (pss_cons (ps_fld (pv 0) (pv 3) rfl)
      (pss_cons (ps_fld (pv 0) (pv 4) rfl)
      (pss_cons (ps_fld (pv 0) (pv 5) rfl)
      (pss_cons (ps_fld (pv 0) (pv 6) rfl)
      (pss_cons (ps_fld (pv 0) (pv 7) rfl)
      (pss_cons (ps_fld (pv 0) (pv 8) rfl)
      (pss_cons (ps_fld (pv 0) (pv 9) rfl)
      (pss_cons (ps_fld (pv 0) (pv 10) rfl)
      (pss_cons (ps_fld (pv 0) (pv 11) rfl)
      (pss_one (ps_fld (pv 0) (pv 12) rfl))))))))))))), ?_⟩
  refine q_fld T.cl_Settings T.n_Settings_block_size (v := x0) (ev_var rfl) (ev_var rfl) ha (by decide) fun H1 e1 => ?_
  have f1 := (FrO.ex (a := a) e1).upd (o := .ins T.C_Settings dx (putF "block_size" x0 []))
  have ho1 := ho.fr ha f1
  have ha1 : (upd H1 a (.ins T.C_Settings dx (putF "block_size" x0 []))) a = some (.ins T.C_Settings dx (putF "block_size" x0 [])) := upd_same
  generalize upd H1 a (.ins T.C_Settings dx (putF "block_size" x0 [])) = G1 at *
  refine q_cut (M := fun σ' H' => σ' = [some (.ref a), some x0, some x1, some x2, some x3, some x4, some x5, some x6, some x7, some x8, some x9, some x10, some x11] ∧ ∃ v, FrO a H H' ∧ H' a = some (.ins T.C_Settings dx [("block_size", x0), ("block_sizes", v)]) ∧ OptN o v H H') ?_ ?_
  · cases o with
    | none =>
      have ho1 : x1 = .non := ho1
      subst ho1
      exact s_fld T.cl_Settings T.n_Settings_block_sizes (v := .non) (ev_if (b := true) (et_is (et_test (ev_isN (ev_var rfl))) (by simp)) (fun _ => ev_c) (fun hb => by cases hb)) (ev_var rfl) ha1 (Nat.le_of_ble_eq_true rfl) fun H2 e2 => ⟨rfl, .non, (f1.trans (FrO.ex e2)).upd, upd_same, rfl⟩
    | some l =>
      obtain ⟨q, rfl, hq⟩ := ho1
      refine s_fldL T.cl_Settings T.n_Settings_block_sizes (xs := l) (el_if (b := false) (et_is (et_test (ev_isN (ev_var rfl))) (by simp)) (fun hb => by cases hb) (fun _ => el_of (K := K) (Ev.s (ev_var rfl) (sq_of hq)))) (fun _ _ => ev_var rfl) ha1 (Nat.le_of_ble_eq_true rfl) fun p H2 hp e2 g2 => ⟨rfl, .ref p, (f1.trans (FrO.ex e2)).upd, upd_same, p, rfl, ?_, ?_⟩
      · cases hh : H p with
        | none => rfl
        | some u =>
          have hpa : p ≠ a := by rintro rfl; rw [ha1] at hp; cases hp
          rw [f1 p u hpa hh] at hp
          cases hp
      · rw [upd_ne (by rintro rfl; rw [ha1] at hp; cases hp)]
        exact g2
  rintro σ' G2 ⟨rfl, v, f2, ha2, ho2⟩
  refine q_fld T.cl_Settings T.n_Settings_fixed_order (v := x2) (ev_var rfl) (ev_var rfl) ha2 (Nat.le_of_ble_eq_true rfl) fun H3 e3 => ?_
  refine q_fld T.cl_Settings T.n_Settings_linear_order (v := x3) (ev_var rfl) (ev_var rfl) upd_same (Nat.le_of_ble_eq_true rfl) fun H4 e4 => ?_
  refine q_fld T.cl_Settings T.n_Settings_search (v := x4) (ev_var rfl) (ev_var rfl) upd_same (Nat.le_of_ble_eq_true rfl) fun H5 e5 => ?_
  refine q_fld T.cl_Settings T.n_Settings_precision (v := x5) (ev_var rfl) (ev_var rfl) upd_same (Nat.le_of_ble_eq_true rfl) fun H6 e6 => ?_
  refine q_fld T.cl_Settings T.n_Settings_partition_order (v := x6) (ev_var rfl) (ev_var rfl) upd_same (Nat.le_of_ble_eq_true rfl) fun H7 e7 => ?_
  refine q_fld T.cl_Settings T.n_Settings_wide (v := x7) (ev_var rfl) (ev_var rfl) upd_same (Nat.le_of_ble_eq_true rfl) fun H8 e8 => ?_
  refine q_fld T.cl_Settings T.n_Settings_stereo (v := x8) (ev_var rfl) (ev_var rfl) upd_same (Nat.le_of_ble_eq_true rfl) fun H9 e9 => ?_
  refine q_fld T.cl_Settings T.n_Settings_wasted (v := x9) (ev_var rfl) (ev_var rfl) upd_same (Nat.le_of_ble_eq_true rfl) fun H10 e10 => ?_
  refine q_fld T.cl_Settings T.n_Settings_seek_interval (v := x10) (ev_var rfl) (ev_var rfl) upd_same (Nat.le_of_ble_eq_true rfl) fun H11 e11 => ?_
  refine s_fld T.cl_Settings T.n_Settings_vendor (v := x11) (ev_var rfl) (ev_var rfl) upd_same (Nat.le_of_ble_eq_true rfl) fun H12 e12 => ?_
  have f9 := fun o => ((((((((((f2.trans (FrO.ex (a := a) e3)).upd.trans (FrO.ex e4)).upd.trans (FrO.ex e5)).upd.trans (FrO.ex e6)).upd.trans (FrO.ex e7)).upd.trans (FrO.ex e8)).upd.trans (FrO.ex e9)).upd.trans (FrO.ex e10)).upd.trans (FrO.ex e11)).upd.trans (FrO.ex e12)).upd (o := o)
  have f10 := fun o => (((((((((((FrO.ex (a := a) (Ex.refl G2)).trans (FrO.ex (a := a) e3)).upd.trans (FrO.ex e4)).upd.trans (FrO.ex e5)).upd.trans (FrO.ex e6)).upd.trans (FrO.ex e7)).upd.trans (FrO.ex e8)).upd.trans (FrO.ex e9)).upd.trans (FrO.ex e10)).upd.trans (FrO.ex e11)).upd.trans (FrO.ex e12)).upd (o := o)
  refine k _ v (f9 _) upd_same ?_
  cases o with
  | none => exact ho2
  | some l =>
    obtain ⟨q, rfl, hq, hq2⟩ := ho2
    exact ⟨q, rfl, hq, f10 _ q _ (by rintro rfl; rw [ha2] at hq2; cases hq2) hq2⟩

def sp_lprediction (K : PySem.W.Frag) : Sp := fun vs H Q _ => ∃ (a b : Addr) (ls bs : List Int) (sh : Nat), vs = [.ref a, .ref b, .int sh] ∧ SqL K H a (ls.map V.int) ∧ SqL K H b (bs.map V.int) ∧ ls.length = bs.length ∧ bs.length ≤ 1000 ∧ Bd bs ∧ RetV (.int (dotz bs ls / 2 ^ sh)) H Q
theorem ok_prediction_linear (T : TX K mg) : FnOk P w K mg base CX0 1 T.a_prediction_linear T.d_prediction_linear ["latest", "backwards", "shift"] (sp_lprediction K) := by
  refine T.F_prediction_linear.ok sc_prediction_linear (fun vs H Q E h => by obtain ⟨a, b, ls, bs, sh, rfl, _⟩ := h; rfl) (fun cdv A outer s H vs Q E hr h => ?_)
  obtain ⟨a, b, ls, bs, sh, rfl, hA, hB, hl, hl2, hbd, k⟩ := h
  refine ⟨_, (pss_one (ps_ret (pe_op op_shr (pe_callB (r := rSum K) (cr_sum rfl) (by rfl) T.m_sum PyProof.Rows.boot_sum (pa_cons (pe_lc (own := [("coefficient", 3), ("sample", 4)]) (g := (gTup K 2 (gCons (gName 3) (gCons (gName 4) gNil)))) (tt := tYes) rfl sc_prediction_linear.nd (pi_zip (by rfl) T.m_zip (pa_cons (pv 1) (pa_cons (pv 0) pa_nil))) (blkOk_by (N := ["latest", "backwards", "shift", "coefficient", "sample"]) (sc := defScope s_prediction_linear) (by decide +kernel)) (fun _ _ _ _ _ => (pg_tup rfl (pgs_cons (pg_name (i := 3) sc_prediction_linear.nd rfl (Or.inl rfl)) (pgs_cons (pg_name (i := 4) sc_prediction_linear.nd rfl (Or.inl rfl)) pgs_nil)))) (fun _ _ _ _ _ => pts_nil) (fun _ _ _ _ _ => (pe_op op_mul (pv 3) (pv 4)))) pa_nil)) (pv 2)))), ?_⟩
  refine s_ret (v := .int (dotz bs ls / 2 ^ (sh : Int).toNat)) (ev_I (ev_sum (K := K) (ns := List.zipWith (fun x y => x * y) bs ls) (EvR.s (EvL.r (el_lcZ (K := K) (xs := bs.map V.int) (ys := ls.map V.int) ((List.zipWith (fun x y => x * y) bs ls).map V.int) (by walk_at "evs") (by walk_at "evs") ?_ ?_ (fun x y => rfl) ?_)))) (ev_var rfl) (by show (0 : Int) ≤ _; omega)) fun H1 e1 => ret_eq k e1 (by rw [Int.toNat_natCast])
  · rw [List.length_map, List.length_zipWith, List.length_map, List.length_map]
  · rw [List.length_map, List.length_zipWith]
    omega
  · intro i x y H1 e1 hx hy
    obtain ⟨n, hn, hi, rfl⟩ := int_at hx
    obtain ⟨m, hm, hj, rfl⟩ := int_at hy
    have h1 := hbd n (List.mem_iff_getElem?.mpr ⟨i, hn⟩)
    refine ⟨.int (n * m), at_int (by rw [List.getElem?_zipWith, hn, hm]), ev_I (ev_var rfl) (ev_var rfl) ?_⟩
    show CMul _ _
    unfold CMul
    omega
theorem ev_lprd {σ : L2.St} {H : Hp} {t1 t2 t3 : TE} {E : XK} {ls bs : List Int} {sh : Nat} (h1 : EvS K t1 σ H (ls.map V.int)) (h2 : EvS K t2 σ H (bs.map V.int)) (h3 : Ev t3 σ H (.int sh)) (hl : ls.length = bs.length) (hl2 : bs.length ≤ 1000) (hb : Bd bs) :
    Ev (tCall (sp_lprediction K) [] E (tCons t1 (tCons t2 (tCons t3 tNil)))) σ H (.int (dotz bs ls / 2 ^ sh)) := fun H1 e Q q =>
  h1 H1 e _ fun p H2 e2 hp => h2 H2 (e.trans e2) _ fun r H3 e3 hr => h3 H3 ((e.trans e2).trans e3) _ fun H4 e4 => ⟨p, r, ls, bs, sh, rfl, ex_l (e3.trans e4) hp, ex_l e4 hr, hl, hl2, hb, fun H5 e5 => q H5 (((e2.trans e3).trans e4).trans e5)⟩
theorem el_rev {te : TE} {σ : L2.St} {H : Hp} {ns : List Int} (h : EvS K te σ H (ns.map V.int)) : EvL (tRevL K te) σ H (ns.reverse.map V.int) := fun H1 e Q q =>
  h H1 e _ fun p H2 e2 hp => ⟨p, _, rfl, hp, fun r hr => q r _ (fresh_back e2 hr) (e2.trans (Ex.new hr)) (by rw [upd_same, List.map_reverse])⟩
def sp_linear_residuals (K : PySem.W.Frag) : Sp := fun vs H Q _ => ∃ (a b : Addr) (xs cs : List Int) (sh : Nat), vs = [.ref a, .ref b, .int sh] ∧ SqL K H a (xs.map V.int) ∧ SqL K H b (cs.map V.int) ∧ cs.length ≤ xs.length ∧ xs.length ≤ 10000 ∧ cs.length ≤ 1000 ∧ Bd cs ∧ RetL ((lres cs sh xs).map V.int) H Q
theorem ok_linear_residuals (T : TX K mg) : FnOk P w K mg base CX0 2 T.a_linear_residuals T.d_linear_residuals ["samples", "coefficients", "shift"] (sp_linear_residuals K) := by
  refine T.F_linear_residuals.ok sc_linear_residuals (fun vs H Q E h => by obtain ⟨a, b, xs, cs, sh, rfl, _⟩ := h; rfl) (fun cdv A outer s H vs Q E hr h => ?_)
  obtain ⟨a, b, xs, cs, sh, rfl, hA, hB, hl, hl1, hl2, hbd, k⟩ := h
  refine ⟨_, (pss_cons (ps_set (i := 3) sc_linear_residuals.nd rfl (Or.inl rfl) (pe_callB (r := rLenS K) call_len_seq (by rfl) T.m_len PySem.boot_len (pa_cons (pv 1) pa_nil)))
      (pss_cons (ps_set (i := 4) sc_linear_residuals.nd rfl (Or.inl rfl) (pe_revL (pv 1)))
      (pss_cons (ps_set (i := 5) sc_linear_residuals.nd rfl (Or.inl rfl) (pe_lst pa_nil))
      (pss_cons (ps_for PassesOwn.never rfl (pi_range2 (by rfl) T.m_range (pa_cons (pv 3) (pa_cons (pe_callB (r := rLenS K) call_len_seq (by rfl) T.m_len PySem.boot_len (pa_cons (pv 0) pa_nil)) pa_nil))) (pg_name (i := 6) sc_linear_residuals.nd rfl (Or.inl rfl)) (pss_one (ps_expr (pe_bm PySem.F.plainAttrs_list PySem.F.slot_list_append PySem.F.type_list_append mt_append (pv 5) (pa_cons (pe_op op_sub (pe_ix (r := rIxL K) ix_list (pv 0) (pv 6) (fun _ _ => rfl)) (pe_call (ok_prediction_linear T) (hr.mono (by decide)) (by rfl) T.g_prediction_linear T.F_prediction_linear.kp T.b_prediction_linear .nil pass0 (pa_cons (pe_slice (r := rSlL K) sl_list (pv 0) (po_some (pe_op op_sub (pv 6) (pv 3))) (po_some (pv 6))) (pa_cons (pv 4) (pa_cons (pv 2) pa_nil))))) pa_nil)))))
      (pss_one (ps_ret (pv 5))))))), ?_⟩
  refine q_asg (v := .int (cs.length : Int)) (ev_is (by walk_at "ev") (by rw [List.length_map])) fun H1 e1 => ?_
  refine q_asgL (el_rev (K := K) (ns := cs) (by walk_at "evs")) fun pb H2 hpb e2 g2 => ?_
  refine q_asgL (xs := []) (el_lst ea_nil (Nat.le_of_ble_eq_true rfl)) fun pr H3 hpr e3 g3 => ?_
  have hp : H pr = none := fresh_back (e1.trans e2) hpr
  have ga2 : EvA (tCons (tVar 3) (tCons (tCB (rLenS K) (tCons (tVar 0) tNil)) tNil)) [some (.ref a), some (.ref b), some (.int sh), some (.int (cs.length : Int)), some (.ref pb), some (.ref pr), none] H3 [.int (cs.length : Int), .int (xs.length : Int)] :=
    ea_cons (ev_var rfl) (ea_cons (ev_is (by walk_at "ev") (by rw [List.length_map])) ea_nil)
  refine q_forR2 (lo := (cs.length : Int)) (n := (xs.length : Int)) ga2 (by omega) (fun i σ' H' => ∃ z, σ' = [some (.ref a), some (.ref b), some (.int sh), some (.int (cs.length : Int)), some (.ref pb), some (.ref pr), z] ∧ Ex H2 H' ∧ H' pr = some (.lst (((lres cs sh xs).take i).map V.int)))
    (fun H4 e4 => ⟨none, rfl, e3.trans e4, e4 _ _ g3⟩) ?_ ?_
  · rintro i σ' H' hi ⟨z, rfl, e, g⟩
    have h1 := gi_get (xs := xs) (i := cs.length + i) (by omega)
    have hlen : (xs.take (cs.length + i)).length = cs.length + i := by rw [List.length_take]; omega
    have hsl : (xs.drop i).take (cs.length + i - i) = (xs.take (cs.length + i)).drop i := by rw [List.drop_take]
    refine s_app g (ev_var rfl) (v := .int (gi xs (cs.length + i) - dotz cs.reverse ((xs.drop i).take (cs.length + i - i)) / 2 ^ sh)) (ev_I0 (ev_at (K := K) (n := (cs.length : Int) + (i : Int)) (xs := xs.map V.int) (by walk_at "evs") (ev_var rfl) (at_of (j := cs.length + i) (by omega) (at_int h1)))
      (ev_lprd (K := K) (bs := cs.reverse) (ls := (xs.drop i).take (cs.length + i - i)) (EvR.s (EvL.r (el_mid (K := K) (i := i) (j := cs.length + i) (by walk_at "evs") (ev_is (by walk_at "ev") (by congr 1; omega)) (ev_is (ev_var rfl) (by first | rfl | (congr 1; omega)))))) (by walk_at "evs") (ev_var rfl) (by rw [List.length_reverse, List.length_take, List.length_drop]; omega) (by rw [List.length_reverse]; omega) (bd_rev hbd))) (by rw [List.length_map, List.length_take, lres_len]; omega) fun H4 e4 => ?_
    refine ⟨_, rfl, Ex.mut (e.trans e4) hpr, ?_⟩
    rw [upd_same, take_snoc_gi (by rw [lres_len]; omega), lres_get (by omega), List.map_append]
    unfold prL
    rw [hlen, show cs.length + i - cs.length = i by omega, ← hsl]
    rfl
  · rintro σ' H' ⟨z, rfl, e, g⟩
    rw [List.take_of_length_le (by rw [lres_len]; omega)] at g
    walk_at "ret"
    intro H4 e4
    exact k pr H4 hp (((e1.trans e2).trans e).trans e4) (e4 _ _ g)
theorem el_linres {σ : L2.St} {H : Hp} {t1 t2 t3 : TE} {E : XK} {xs cs : List Int} {sh : Nat} (h1 : EvS K t1 σ H (xs.map V.int)) (h2 : EvS K t2 σ H (cs.map V.int)) (h3 : Ev t3 σ H (.int sh)) (hl : cs.length ≤ xs.length) (hl1 : xs.length ≤ 10000) (hl2 : cs.length ≤ 1000) (hb : Bd cs) :
    EvL (tCall (sp_linear_residuals K) [] E (tCons t1 (tCons t2 (tCons t3 tNil)))) σ H ((lres cs sh xs).map V.int) := fun H1 e Q q =>
  h1 H1 e _ fun p H2 e2 hp => h2 H2 (e.trans e2) _ fun r H3 e3 hr => h3 H3 ((e.trans e2).trans e3) _ fun H4 e4 => ⟨p, r, xs, cs, sh, rfl, ex_l (e3.trans e4) hp, ex_l e4 hr, hl, hl1, hl2, hb, fun p5 H5 h5 e5 g5 => q p5 H5 (fresh_back ((e2.trans e3).trans e4) h5) (((e2.trans e3).trans e4).trans e5) g5⟩

-- BS0
/-! ### candidates -/
open DT (Bt PD tp Sol)
structure Cc where
  kd : Str
  o : Nat
  pr : Nat
  sh : Nat
  cs : List Int
  pl : Option Qd
def conC : Cc := ⟨"constant", 0, 0, 0, [], none⟩
def verC : Cc := ⟨"verbatim", 0, 0, 0, [], none⟩
def PlQ (H : Hp) (v : V) (x : Qd) : Prop := ∃ (t1 tc : Addr) (rs : List V), v = .ref t1 ∧ H t1 = some (.tup [.int (x.m : Int), .int (x.p : Int), .ref tc]) ∧ H tc = some (.tup rs) ∧ CodAt H rs x.cs
def PlC (H : Hp) (v : V) : Option Qd → Prop
  | some x => PlQ H v x
  | none => v = .non
def fbS (k o p s c pl w : V) : List (Str × V) := [("kind", k), ("order", o), ("precision", p), ("shift", s), ("coefficients", c), ("plan", pl), ("wasted", w)]
def SbAt (K : PySem.W.Frag) (C : Addr) (H : Hp) (p : Addr) (c : Cc) (lo : Nat) : Prop := ∃ dx e pl, H p = some (.ins C dx (fbS (.str c.kd) (.int (c.o : Int)) (.int (c.pr : Int)) (.int (c.sh : Int)) (.ref e) pl (.int (lo : Int)))) ∧ SqT K H e (c.cs.map V.int) ∧ PlC H pl c.pl
/-- what is no list stays -/
def NlH (H H' : Hp) : Prop := ∀ a o, (∀ ys, o ≠ .lst ys) → H a = some o → H' a = some o
theorem NlH.ex {H H' : Hp} (e : Ex H H') : NlH H H' := fun a o _ h => e a o h
theorem NlH.trans {H H1 H2 : Hp} (x : NlH H H1) (y : NlH H1 H2) : NlH H H2 := fun a o n h => y a o n (x a o n h)
theorem NlH.upd {H : Hp} {c : Addr} {ys : List V} {o : HO} (h : H c = some (.lst ys)) : NlH H (upd H c o) := fun a u n ha => by rw [upd_ne (by rintro rfl; rw [h] at ha; exact n ys (Option.some.inj ha).symm)]; exact ha
theorem NlH.tx {H H' : Hp} (x : NlH H H') : TxH H H' := fun a xs h => x a _ (fun _ z => nomatch z) h
theorem PlC.nl {H H' : Hp} {v : V} {c : Option Qd} (h : PlC H v c) (x : NlH H H') : PlC H' v c := by
  cases c with
  | none => exact h
  | some y =>
    obtain ⟨t1, tc, rs, rfl, h1, h2, h3⟩ := h
    exact ⟨t1, tc, rs, rfl, x.tx _ _ h1, x.tx _ _ h2, h3.tx x.tx⟩
theorem sqt_nl {H H' : Hp} {a : Addr} {xs : List V} (h : SqT K H a xs) (x : NlH H H') : SqT K H' a xs := by
  rcases h with (h | ⟨o, h⟩) | h
  · exact st_of (x.tx _ _ h)
  · exact .inl (.inr ⟨o, x _ _ (fun _ z => nomatch z) h⟩)
  · exact .inr h
theorem SbAt.nl {C p : Addr} {H H' : Hp} {c : Cc} {lo : Nat} (h : SbAt K C H p c lo) (x : NlH H H') : SbAt K C H' p c lo := by
  obtain ⟨dx, e, pl, h1, h2, h3⟩ := h
  exact ⟨dx, e, pl, x _ _ (fun _ z => nomatch z) h1, sqt_nl h2 x, h3.nl x⟩
theorem SbAt.ex {C p : Addr} {H H' : Hp} {c : Cc} {lo : Nat} (h : SbAt K C H p c lo) (e : Ex H H') : SbAt K C H' p c lo := h.nl (NlH.ex e)
/-- a candidate with its bits -/
abbrev En : Type := Addr × Int × Cc
def EnAt (K : PySem.W.Frag) (C : Addr) (H : Hp) (e : En) (lo : Nat) : Prop := ∃ p, H e.1 = some (.tup [.ref p, .int e.2.1]) ∧ SbAt K C H p e.2.2 lo
theorem EnAt.nl {C : Addr} {H H' : Hp} {e : En} {lo : Nat} (h : EnAt K C H e lo) (x : NlH H H') : EnAt K C H' e lo := by
  obtain ⟨p, h1, h2⟩ := h
  exact ⟨p, x.tx _ _ h1, h2.nl x⟩
def pk (s c : En) : En := if c.2.1 < s.2.1 then c else s
theorem pk_mem {s0 : En} : ∀ (es : List En) (s : En), (s = s0 ∨ True) → es.foldl pk s = s ∨ es.foldl pk s ∈ es
  | [], s, _ => .inl rfl
  | c :: es, s, _ => by
    show es.foldl pk (pk s c) = s ∨ es.foldl pk (pk s c) ∈ c :: es
    rcases pk_mem (s0 := s0) es (pk s c) (.inr trivial) with h | h
    · rw [h]
      unfold pk
      split
      · exact .inr (List.mem_cons_self ..)
      · exact .inl rfl
    · exact .inr (List.mem_cons_of_mem _ h)
def inB (ns : List Int) : Bool := decide (-2147483648 < minL ns) && decide (maxL ns < 2147483648)
theorem inB_iff {ns : List Int} (h : 0 < ns.length) : inB ns = true ↔ ∀ v ∈ ns, -(2 ^ 31) < v ∧ v < 2 ^ 31 := by
  unfold inB
  rw [Bool.and_eq_true, decide_eq_true_iff, decide_eq_true_iff]
  obtain ⟨a1, a2⟩ := minL_is h
  obtain ⟨b1, b2⟩ := maxL_is h
  constructor
  · rintro ⟨h1, h2⟩ v hv
    have := a2 v hv
    have := b2 v hv
    omega
  · intro h0
    have h1 := h0 _ a1
    have h2 := h0 _ b1
    omega
/-- what is tried: its kind, its numbers, its residuals, its further bits -/
structure Cd where
  kd : Str
  o : Nat
  pr : Nat
  sh : Nat
  cs : List Int
  vs : List Int
  ex : Int
def Cd.mk' (d : Cd) (x : Qd) : Cc := ⟨d.kd, d.o, d.pr, d.sh, d.cs, some x⟩
def Cd.bits (d : Cd) (w : Int) (lo : Nat) (x : Qd) : Int := 8 + (lo : Int) + (d.o : Int) * w + d.ex + x.b
/-- the candidates, as they stand in a list -/
def CdR (w : Int) (lo hi M : Nat) : List Cd → List En → Prop
  | [], es => es = []
  | d :: r, es => ∃ es', CdR w lo hi M r es' ∧ if inB d.vs then ∃ x t, BestQ d.vs d.o hi M x ∧ es = (t, d.bits w lo x, d.mk' x) :: es' else es = es'
theorem CdR.app {w : Int} {lo hi M : Nat} : ∀ {l1 l2 : List Cd} {e1 e2 : List En}, CdR w lo hi M l1 e1 → CdR w lo hi M l2 e2 → CdR w lo hi M (l1 ++ l2) (e1 ++ e2)
  | [], l2, e1, e2, h1, h2 => by
    rw [show e1 = [] from h1]
    exact h2
  | d :: r, l2, e1, e2, h1, h2 => by
    obtain ⟨es', g1, g2⟩ := h1
    refine ⟨es' ++ e2, g1.app h2, ?_⟩
    split
    · rename_i hb
      rw [if_pos hb] at g2
      obtain ⟨x, t, hx, rfl⟩ := g2
      exact ⟨x, t, hx, rfl⟩
    · rename_i hb
      rw [if_neg hb] at g2
      rw [g2]
theorem CdR.one {w : Int} {lo hi M : Nat} {d : Cd} {x : Qd} {t : Addr} (hb : inB d.vs = true) (hx : BestQ d.vs d.o hi M x) : CdR w lo hi M [d] [(t, d.bits w lo x, d.mk' x)] := ⟨[], rfl, by rw [if_pos hb]; exact ⟨x, t, hx, rfl⟩⟩
theorem CdR.zero {w : Int} {lo hi M : Nat} {d : Cd} (hb : inB d.vs = false) : CdR w lo hi M [d] [] := ⟨[], rfl, by rw [if_neg (by rw [hb]; decide)]⟩
theorem CdR.len {w : Int} {lo hi M : Nat} : ∀ {l : List Cd} {es : List En}, CdR w lo hi M l es → es.length ≤ l.length
  | [], es, h => by rw [show es = [] from h]; exact Nat.le_refl 0
  | d :: r, es, h => by
    obtain ⟨es', g1, g2⟩ := h
    have := g1.len
    split at g2
    · obtain ⟨x, t, _, rfl⟩ := g2
      show es'.length + 1 ≤ r.length + 1
      omega
    · rw [g2]
      show es'.length ≤ r.length + 1
      omega
/-! ### which candidates there are -/
def cdF (vl : List Int) (i : Nat) : Cd := ⟨"fixed", i, 0, 0, [], FX.diffsN i vl, 0⟩
def pqz (c : Nat → Int) (p k : Nat) : Option Nat := if c 0 = 0 then none else pq c p k
def cdL (vl : List Int) (p o : Nat) : Option Cd := match pqz (lagS (wgt vl)) p (o - 1) with
  | none => none
  | some s => some ⟨"linear", o, p, s, pRow (lagS (wgt vl)) (o - 1) s, lres (pRow (lagS (wgt vl)) (o - 1) s) s vl, 9 + (o : Int) * (p : Int)⟩
def ordsL (lin : Nat) (se : Bool) (n : Nat) : List Nat := if se = true then (List.range (min lin (n - 1))).map (· + 1) else if 0 < lin ∧ lin < n then [lin] else []
def cands (vl : List Int) (fo lin : Nat) (se : Bool) (p : Nat) : List Cd := (List.range (min fo (vl.length - 1) + 1)).map (cdF vl) ++ (ordsL lin se vl.length).filterMap (cdL vl p)
theorem ordsL_ok {lin n : Nat} {se : Bool} : ∀ o ∈ ordsL lin se n, 0 < o ∧ o < n ∧ o ≤ lin := fun o ho => by
  unfold ordsL at ho
  split at ho
  · obtain ⟨i, hi, rfl⟩ := List.mem_map.mp ho
    have := List.mem_range.mp hi
    omega
  · split at ho
    · rw [List.mem_singleton.mp ho]
      omega
    · cases ho
theorem ordsL_len (lin n : Nat) (se : Bool) : (ordsL lin se n).length ≤ lin := by
  unfold ordsL
  split
  · rw [List.length_map, List.length_range]
    omega
  · split
    · show 1 ≤ lin
      omega
    · exact Nat.zero_le _
theorem pick_le {F : Nat → Int} {bd : Int} : ∀ {n s : Nat}, pick F bd n = some s → F s ≤ bd ∧ s < n
  | 0, s, h => by cases h
  | n + 1, s, h => by
    unfold pick at h
    split at h
    · rename_i hle
      split at h
      · cases h
      · obtain rfl := Option.some.inj h
        exact ⟨hle, by omega⟩
    · have := pick_le h
      exact ⟨this.1, by omega⟩
theorem pRow_len (c : Nat → Int) (k s : Nat) : (pRow c k s).length = k + 1 := by unfold pRow; rw [rowZ_len, lf_len]
theorem pRow_bd {c : Nat → Int} {p k s : Nat} (hpd : PD c) (hp : p ≤ 32) (h : pq c p k = some s) : s < 16 ∧ ∀ x ∈ pRow c k s, -(2 ^ 32) < x ∧ x < 2 ^ 32 := by
  obtain ⟨h1, h2⟩ := pick_le h
  refine ⟨h2, fun x hx => ?_⟩
  have hD : 0 < Dn c (k + 1) := (DT.lev_all hpd (k + 1)).1
  obtain ⟨t1, t2⟩ := size_top (ns := lf (k + 1) (Un c (k + 1))) (b := Dn c (k + 1)) s hD (by rw [lf_len]; omega)
  have h3 := t2 (absI x) (List.mem_map_of_mem hx)
  have hb : (2 : Int) ^ (p - 1) ≤ 2 ^ 31 := by
    have a1 : 2 ^ (p - 1) ≤ 2 ^ 31 := Nat.pow_le_pow_right (by decide) (by omega)
    have a2 : ((2 ^ (p - 1) : Nat) : Int) ≤ ((2 ^ 31 : Nat) : Int) := Int.ofNat_le.mpr a1
    rwa [Int.natCast_pow, Int.natCast_pow] at a2
  unfold absI at h3
  split at h3 <;> omega
/-! ### the program -/
def sp_sinit (C : Addr) : Sp := fun vs H Q _ => ∃ (a dx : Addr) (x0 x1 x2 x3 x4 x5 x6 : V), vs = [.ref a, x0, x1, x2, x3, x4, x5, x6] ∧ H a = some (.ins C dx []) ∧ ∀ H', FrO a H H' → H' a = some (.ins C dx (fbS x0 x1 x2 x3 x4 x5 x6)) → Q .non H'
theorem ok_Subframe_init (T : TX K mg) : FnOk P w K mg base CX0 1 T.a_Subframe_init T.d_Subframe_init ["self", "kind", "order", "precision", "shift", "coefficients", "plan", "wasted"] (sp_sinit T.C_Subframe) := by
  refine T.F_Subframe_init.ok sc_Subframe_init (fun vs H Q E h => by obtain ⟨a, dx, x0, x1, x2, x3, x4, x5, x6, rfl, _⟩ := h; rfl) (fun cdv A outer s H vs Q E hr h => ?_)
  obtain ⟨a, dx, x0, x1, x2, x3, x4, x5, x6, rfl, ha, k⟩ := h
  refine ⟨_, (pss_cons (ps_fld (pv 0) (pv 1) rfl)
      (pss_cons (ps_fld (pv 0) (pv 2) rfl)
      (pss_cons (ps_fld (pv 0) (pv 3) rfl)
      (pss_cons (ps_fld (pv 0) (pv 4) rfl)
      (pss_cons (ps_fld (pv 0) (pv 5) rfl)
      (pss_cons (ps_fld (pv 0) (pv 6) rfl)
      (pss_one (ps_fld (pv 0) (pv 7) rfl)))))))), ?_⟩
  refine q_fld T.cl_Subframe T.n_Subframe_kind (v := x0) (ev_var rfl) (ev_var rfl) ha (by decide) fun H1 e1 => ?_
  refine q_fld T.cl_Subframe T.n_Subframe_order (v := x1) (ev_var rfl) (ev_var rfl) upd_same (Nat.le_of_ble_eq_true rfl) fun H2 e2 => ?_
  refine q_fld T.cl_Subframe T.n_Subframe_precision (v := x2) (ev_var rfl) (ev_var rfl) upd_same (Nat.le_of_ble_eq_true rfl) fun H3 e3 => ?_
  refine q_fld T.cl_Subframe T.n_Subframe_shift (v := x3) (ev_var rfl) (ev_var rfl) upd_same (Nat.le_of_ble_eq_true rfl) fun H4 e4 => ?_
  refine q_fld T.cl_Subframe T.n_Subframe_coefficients (v := x4) (ev_var rfl) (ev_var rfl) upd_same (Nat.le_of_ble_eq_true rfl) fun H5 e5 => ?_
  refine q_fld T.cl_Subframe T.n_Subframe_plan (v := x5) (ev_var rfl) (ev_var rfl) upd_same (Nat.le_of_ble_eq_true rfl) fun H6 e6 => ?_
  refine s_fld T.cl_Subframe T.n_Subframe_wasted (v := x6) (ev_var rfl) (ev_var rfl) upd_same (Nat.le_of_ble_eq_true rfl) fun H7 e7 => ?_
  exact k _ (((((((FrO.ex (a := a) e1).upd.trans (FrO.ex e2)).upd.trans (FrO.ex e3)).upd.trans (FrO.ex e4)).upd.trans (FrO.ex e5)).upd.trans (FrO.ex e6)).upd.trans (FrO.ex e7)).upd upd_same
def SetG (C : Addr) (H : Hp) (a : Addr) (fo lin : Nat) (se : Bool) (p hi : Nat) (wd sr ws : Bool) : Prop := ∃ dx x0 v x10 x11, H a = some (.ins C dx (fsS x0 v (.int (fo : Int)) (.int (lin : Int)) (.bl se) (.int (p : Int)) (.int (hi : Int)) (.bl wd) (.bl sr) (.bl ws) x10 x11))
theorem SetG.ex {C a : Addr} {H H' : Hp} {fo lin p hi : Nat} {se wd sr ws : Bool} (h : SetG C H a fo lin se p hi wd sr ws) (e : Ex H H') : SetG C H' a fo lin se p hi wd sr ws := by
  obtain ⟨dx, x0, v, x10, x11, h⟩ := h
  exact ⟨dx, x0, v, x10, x11, e _ _ h⟩
def sp_inb (K : PySem.W.Frag) : Sp := fun vs H Q _ => ∃ (a : Addr) (ns : List Int), vs = [.ref a] ∧ SqL K H a (ns.map V.int) ∧ 0 < ns.length ∧ RetV (.bl (inB ns)) H Q
theorem ok_in_bounds (T : TX K mg) : FnOk P w K mg base CX0 1 T.a_in_bounds T.d_in_bounds ["residuals"] (sp_inb K) := by
  refine T.F_in_bounds.ok sc_in_bounds (fun vs H Q E h => by obtain ⟨a, ns, rfl, _⟩ := h; rfl) (fun cdv A outer s H vs Q E hr h => ?_)
  obtain ⟨a, ns, rfl, hS, h0, k⟩ := h
  refine ⟨_, (pss_one (ps_ret (pe_and (pe_cmpR op_lt (pe_un un_neg (pe_glob (by rfl) T.c_BOUND_choice T.r_BOUND_choice)) (pe_callB (r := rMin K) (cr_min rfl) (by rfl) T.m_min PyProof.Rows.boot_min (pa_cons (pv 0) pa_nil)) (nomark _)) (pe_one (pe_cmpR op_lt (pe_callB (r := rMax K) (cr_max rfl) (by rfl) T.m_max PyProof.Rows.boot_max (pa_cons (pv 0) pa_nil)) (pe_glob (by rfl) T.c_BOUND_choice T.r_BOUND_choice) (nomark _)))))), ?_⟩
  exact s_ret (v := .bl (inB ns)) (ev_andV (a := decide (-2147483648 < minL ns)) (b := decide (maxL ns < 2147483648)) (ev_I0 (g := fun i j => .bl (decide (i < j))) (ev_negI (ev_relC T.r_BOUND_choice)) (ev_minL (Ev.s (ev_var rfl) hS) h0)) fun _ => ev_I0 (g := fun i j => .bl (decide (i < j))) (ev_maxL (Ev.s (ev_var rfl) hS) h0) (ev_relC T.r_BOUND_choice)) fun H1 e1 => k H1 e1
theorem s_retKN {t tk : TA} {vs zs : List V} {n m : Nat} {sp : Sp} {gV : List V → List V → List V} {E : XK} {D : Ends} {σ : L2.St} {H : Hp} (h : EvA t σ H vs) (hz : EvA tk σ H zs) (l1 : vs.length = n) (l2 : zs.length = m) (k : ∀ H1, Ex H H1 → sp (gV vs zs) H1 D.rt E) : tRet (tCallN n m sp gV E t tk) D σ H := h H (Ex.refl _) _ fun H1 e1 => hz H1 e1 _ fun H2 e2 => ⟨l1, l2, k H2 (e1.trans e2)⟩
def sp_bplan (K : PySem.W.Frag) (CT : Addr) : Sp := fun vs H Q _ => ∃ (a q : Addr) (ns : List Int) (g fo lin p hi : Nat) (se wd sr ws : Bool), vs = [.ref a, .int (g : Int), .ref q] ∧ SetG CT H q fo lin se p hi wd sr ws ∧ SqL K H a (ns.map V.int) ∧ 0 < ns.length ∧ ns.length + g ≤ 1000 ∧ hi ≤ 15 ∧ ∀ v H' x, Ex H H' → BestQ ns g hi (if wd = true then 2 else 1) x → BcAt H' v x → Q v H'
theorem ok_best_plan (T : TX K mg) : FnOk P w K mg base CX0 5 T.a_best_plan T.d_best_plan ["residuals", "order", "settings"] (sp_bplan K T.C_Settings) := by
  refine T.F_best_plan.ok sc_best_plan (fun vs H Q E h => by obtain ⟨a, q, ns, g, fo, lin, p, hi, se, wd, sr, ws, rfl, _⟩ := h; rfl) (fun cdv A outer s H vs Q E hr h => ?_)
  obtain ⟨a, q, ns, g, fo, lin, p, hi, se, wd, sr, ws, rfl, ⟨dx, x0, v0, x10, x11, hq⟩, hS, h0, hl, hhi, k⟩ := h
  refine ⟨_, (pss_one (ps_ret (pe_callN (ok_best_coding T) (hr.mono (by decide)) (by rfl) T.g_best_coding T.F_best_coding.kp T.k2_highest_wide_best_coding pass0 (pa_cons (pv 0) (pa_cons (pv 1) pa_nil)) (pk_cons (pe_fld (pv 2) rfl) (pk_cons (pe_fld (pv 2) rfl) pk_nil))))), ?_⟩
  exact s_retKN (vs := [.ref a, .int (g : Int)]) (zs := [.int (hi : Int), .bl wd]) (ea_cons (ev_var rfl) (ea_cons (ev_var rfl) ea_nil)) (ea_cons (ev_fld T.cl_Settings T.n_Settings_partition_order (ev_var rfl) hq rfl) (ea_cons (ev_fld T.cl_Settings T.n_Settings_wide (ev_var rfl) hq rfl) ea_nil)) rfl rfl fun H1 e1 => ⟨a, ns, g, hi, wd, rfl, ex_l e1 hS, h0, hl, hhi, fun v H' x e hb hbc => k v H' x (e1.trans e) hb hbc⟩
/-- numbers of a range that pass a test -/
theorem el_lcRF {σ : L2.St} {H : Hp} {te : TE} {tt : TT} {vs : List Nat} {ta : TA} {lo n : Int} {j : Nat} (f : Nat → Bool) (g : Nat → V) (h1 : EvA ta σ H [.int lo, .int n]) (hn : -100000 ≤ lo ∧ lo ≤ 100000 ∧ -100000 ≤ n ∧ n ≤ 100000) (hb : (n - lo).toNat ≤ 50000) (hw : ∀ x, wipe ((wipe σ vs).set j (some x)) vs = wipe σ vs)
    (hc : ∀ (i : Nat) H1, Ex H H1 → i < (n - lo).toNat → EvT tt ((wipe σ vs).set j (some (.int (lo + (i : Int))))) H1 (f i)) (he : ∀ (i : Nat) H1, Ex H H1 → i < (n - lo).toNat → Ev te ((wipe σ vs).set j (some (.int (lo + (i : Int))))) H1 (g i)) :
    EvL (tLc (iRng2 ta) (gName j) tt te vs) σ H (((List.range (n - lo).toNat).filter f).map g) := fun H0 e Q q =>
  h1 H0 e _ fun H1 e1 => ⟨lo, n, rfl, ⟨by omega, by omega, by omega, by omega⟩, fun D hD => lc_range (lo := lo) (n := (n - lo).toNat) (fun i H' => Ex H1 H' ∧ H' D = some (.lst (((List.range i).filter f).map g))) ⟨Ex.new hD, upd_same⟩
    (fun i H' hi h => by
      refine ⟨hw _, hc i H' ((e.trans e1).trans h.1) hi H' (Ex.refl _) _ fun H3 e3 => ?_⟩
      have hs : (List.range (i + 1)).filter f = (List.range i).filter f ++ [i].filter f := by rw [List.range_succ, List.filter_append]
      cases hf : f i with
      | true =>
        rw [if_pos rfl]
        refine he i H3 (((e.trans e1).trans h.1).trans e3) hi H3 (Ex.refl _) _ fun H4 e4 => ⟨_, (e3.trans e4) _ _ h.2, sz_lt (by
          rw [List.length_map]
          have := List.length_filter_le f (List.range i)
          rw [List.length_range] at this
          omega), Ex.mut (h.1.trans (e3.trans e4)) hD, ?_⟩
        rw [upd_same, hs, List.filter_cons_of_pos hf, List.map_append]
        rfl
      | false =>
        rw [if_neg (by decide)]
        refine ⟨h.1.trans e3, ?_⟩
        rw [e3 _ _ h.2, hs, List.filter_cons_of_neg (by rw [hf]; decide), List.filter_nil, List.append_nil])
    (fun H' h => q D H' (fresh_back e1 hD) (e1.trans h.1) h.2)⟩
theorem filter_lt (m : Nat) : ∀ n, (List.range n).filter (fun i => decide (i < m)) = List.range (min n m)
  | 0 => by rw [Nat.zero_min]; rfl
  | n + 1 => by
    rw [List.range_succ, List.filter_append, filter_lt m n]
    by_cases h : n < m
    · rw [List.filter_cons_of_pos (p := fun i => decide (i < m)) (a := n) (l := []) (decide_eq_true h), List.filter_nil, Nat.min_eq_left (by omega), Nat.min_eq_left (by omega), List.range_succ]
    · rw [List.filter_cons_of_neg (p := fun i => decide (i < m)) (a := n) (l := []) (by rw [decide_eq_false h]; decide), List.filter_nil, List.append_nil, Nat.min_eq_right (by omega), Nat.min_eq_right (by omega)]
def sp_lords (CT : Addr) : Sp := fun vs H Q _ => ∃ (q : Addr) (n fo lin p hi : Nat) (se wd sr ws : Bool), vs = [.int (n : Int), .ref q] ∧ SetG CT H q fo lin se p hi wd sr ws ∧ lin ≤ 100 ∧ RetL ((ordsL lin se n).map fun (o : Nat) => V.int (o : Int)) H Q
theorem ok_linear_orders (T : TX K mg) : FnOk P w K mg base CX0 1 T.a_linear_orders T.d_linear_orders ["count", "settings"] (sp_lords T.C_Settings) := by
  refine T.F_linear_orders.ok sc_linear_orders (fun vs H Q E h => by obtain ⟨q, n, fo, lin, p, hi, se, wd, sr, ws, rfl, _⟩ := h; rfl) (fun cdv A outer s H vs Q E hr h => ?_)
  obtain ⟨q, n, fo, lin, p, hi, se, wd, sr, ws, rfl, ⟨dx, x0, v0, x10, x11, hq⟩, hlin, k⟩ := h
  refine ⟨_, (pss_cons (ps_set (i := 2) sc_linear_orders.nd rfl (Or.inl rfl) (pe_ifExp (pt_val (pe_fld (pv 1) rfl)) pe_int (pe_fld (pv 1) rfl)))
      (pss_one (ps_ret (pe_lc (own := [("order", 3)]) (g := gName 3)  rfl sc_linear_orders.nd (pi_range2 (by rfl) T.m_range (pa_cons (pv 2) (pa_cons (pe_op op_add (pe_fld (pv 1) rfl) pe_int) pa_nil))) (blkOk_by (N := ["count", "settings", "lowest", "order"]) (sc := defScope s_linear_orders) (by decide +kernel)) (fun _ _ _ _ _ => pg_name (i := 3) sc_linear_orders.nd rfl (Or.inl rfl)) (fun _ _ _ _ _ => pts_one (pt_chain op_lt op_lt pe_int (pv 3) (pv 0))) (fun _ _ _ _ _ => (pv 3)))))), ?_⟩
  obtain ⟨lw, hlw⟩ : ∃ lw : Nat, (if se = true then 1 else lin) = lw := ⟨_, rfl⟩
  have hlw1 : lw ≤ 100 := by rw [← hlw]; split <;> omega
  refine q_asg (v := .int (lw : Int)) (ev_if (b := se) (et_B (ev_fld T.cl_Settings T.n_Settings_search (v := .bl se) (ev_var rfl) hq rfl)) (fun hb => Ev.is ev_c (by rw [← hlw, if_pos hb]; rfl)) fun hb => Ev.is (ev_fld T.cl_Settings T.n_Settings_linear_order (v := .int (lin : Int)) (ev_var rfl) hq rfl) (by rw [← hlw, if_neg (by rw [hb]; decide)])) fun H1 e1 => ?_
  refine s_retL (EvL.is (el_lcRF (lo := (lw : Int)) (n := (lin : Int) + 1) (fun i => decide (0 < lw + i) && decide (lw + i < n)) (fun i => .int ((lw + i : Nat) : Int)) (ea_cons (ev_var rfl) (ea_cons (ev_I0 (g := fun i j => .int (i + j)) (ev_fld T.cl_Settings T.n_Settings_linear_order (v := .int (lin : Int)) (ev_var rfl) (e1 _ _ hq) rfl) ev_c) ea_nil)) (by omega) (by omega) (fun _ => rfl) (fun i H2 e2 hi => ?_) fun i H2 e2 hi => Ev.is (ev_var rfl) (congrArg V.int (by omega))) ?_) fun p H2 hp e2 g2 => k p H2 (fresh_back e1 hp) (e1.trans e2) g2
  · refine et_is (by walk_at "et") ?_
    congr 1
    · exact decide_eq_decide.mpr (by omega)
    · exact decide_eq_decide.mpr (by omega)
  · unfold ordsL
    cases se with
    | true =>
      rw [if_pos rfl] at hlw ⊢
      rw [← hlw, show ((lin : Int) + 1 - ((1 : Nat) : Int)).toNat = lin by omega]
      have e : (fun i => decide (0 < 1 + i) && decide (1 + i < n)) = fun i => decide (i < n - 1) := by
        funext i
        rw [decide_eq_true (by omega), Bool.true_and]
        exact decide_eq_decide.mpr (by omega)
      rw [e, filter_lt, List.map_map]
      refine List.map_congr_left fun i _ => ?_
      show V.int ((1 + i : Nat) : Int) = V.int ((i + 1 : Nat) : Int)
      rw [Nat.add_comm]
    | false =>
      rw [if_neg (by decide)] at hlw ⊢
      rw [← hlw, show ((lin : Int) + 1 - (lin : Int)).toNat = 1 by omega]
      show (([0] : List Nat).filter _).map _ = _
      by_cases h : 0 < lin ∧ lin < n
      · rw [if_pos h, List.filter_cons_of_pos (by rw [Nat.add_zero, decide_eq_true h.1, decide_eq_true h.2]; rfl), List.filter_nil]
        rfl
      · rw [if_neg h, List.filter_cons_of_neg (by
          rw [Nat.add_zero, Bool.and_eq_true, decide_eq_true_iff, decide_eq_true_iff]
          exact h), List.filter_nil]
        rfl

-- BS1
open FX (ok_fixed_residuals)
open DT (Bt PD tp Sol)
theorem ex_tup2 {σ : L2.St} {H : Hp} {t1 t2 : TE} {x y : V} {S : V → Hp → Prop} (h1 : Ev t1 σ H x) (h2 : Ev t2 σ H y) (hS : ∀ t H1, Ex H H1 → H1 t = some (.tup [x, y]) → S (.ref t) H1) : EvX (tTup (tCons t1 (tCons t2 tNil))) σ H S := fun H1 e Q q =>
  h1 H1 e _ fun H2 e2 => h2 H2 (e.trans e2) _ fun H3 e3 => ⟨sz_of (show 2 ≤ 100000 by decide), fun t ht => q (.ref t) _ ((e2.trans e3).trans (Ex.new ht)) (hS t _ ((e.trans (e2.trans e3)).trans (Ex.new ht)) upd_same)⟩
def sp_fcands (K : PySem.W.Frag) (CS CT : Addr) : Sp := fun vs H Q _ => ∃ (a q : Addr) (vl : List Int) (w : Int) (lo fo lin p hi : Nat) (se wd sr ws : Bool), vs = [.ref a, .int w, .int (lo : Int), .ref q] ∧ SetG CT H q fo lin se p hi wd sr ws ∧ H a = some (.lst (vl.map V.int)) ∧ 0 < vl.length ∧ vl.length ≤ 100 ∧ fo ≤ 4 ∧ hi ≤ 15 ∧
  ∀ L (es : List En) H', H L = none → Ex H H' → H' L = some (.lst (es.map fun e => V.ref e.1)) → (∀ e ∈ es, EnAt K CS H' e lo) → CdR w lo hi (if wd = true then 2 else 1) ((List.range (min fo (vl.length - 1) + 1)).map (cdF vl)) es → Q (.ref L) H'
theorem ok_fixed_candidates (T : TX K mg) : FnOk P w K mg base CX0 6 T.a_fixed_candidates T.d_fixed_candidates ["values", "width", "wasted", "settings"] (sp_fcands K T.C_Subframe T.C_Settings) := by
  refine T.F_fixed_candidates.ok sc_fixed_candidates (fun vs H Q E h => by obtain ⟨a, q, vl, w, lo, fo, lin, p, hi, se, wd, sr, ws, rfl, _⟩ := h; rfl) (fun cdv A outer s H vs Q E hr h => ?_)
  obtain ⟨a, q, vl, wi, lo, fo, lin, p, hi, se, wd, sr, ws, rfl, hq, ha, h0, hl, hfo, hhi, k⟩ := h
  refine ⟨_, (pss_cons (ps_set (i := 4) sc_fixed_candidates.nd rfl (Or.inl rfl) (pe_lst pa_nil))
      (pss_cons (ps_for PassesOwn.never rfl (pi_range1 (by rfl) T.m_range (pa_cons (pe_op op_add (pe_callB (call_min2 rfl) (by rfl) T.m_min PyProof.Rows.boot_min (pa_cons (pe_fld (pv 3) rfl) (pa_cons (pe_op op_sub (pe_callB (r := rLenS K) call_len_seq (by rfl) T.m_len PySem.boot_len (pa_cons (pv 0) pa_nil)) pe_int) pa_nil))) pe_int) pa_nil)) (pg_name (i := 5) sc_fixed_candidates.nd rfl (Or.inl rfl)) (pss_cons (ps_set (i := 6) sc_fixed_candidates.nd rfl (Or.inl rfl) (pe_call (ok_fixed_residuals T) (hr.mono (by decide)) (by rfl) T.g_fixed_residuals T.F_fixed_residuals.kp T.b_fixed_residuals .nil pass0 (pa_cons (pv 0) (pa_cons (pv 5) pa_nil))))
        (pss_one (ps_if (pt_val (pe_call (ok_in_bounds T) (hr.mono (by decide)) (by rfl) T.g_in_bounds T.F_in_bounds.kp T.b_in_bounds .nil pass0 (pa_cons (pv 6) pa_nil))) (pss_cons (ps_asg (pe_call (ok_best_plan T) (hr.mono (by decide)) (by rfl) T.g_best_plan T.F_best_plan.kp T.b_best_plan .nil pass0 (pa_cons (pv 6) (pa_cons (pv 5) (pa_cons (pv 3) pa_nil)))) (pg_tup rfl (pgs_cons (pg_name (i := 7) sc_fixed_candidates.nd rfl (Or.inl rfl)) (pgs_cons (pg_name (i := 8) sc_fixed_candidates.nd rfl (Or.inl rfl)) pgs_nil))))
          (pss_cons (ps_set (i := 9) sc_fixed_candidates.nd rfl (Or.inl rfl) (pe_makeK T.M_Subframe (ok_Subframe_init T) (hr.mono (by decide)) (by rfl) T.g_Subframe T.k2_order_plan_wasted_Subframe_init pass0 (pa_cons pe_str pa_nil) (pk_cons (pv 5) (pk_cons (pv 7) (pk_cons (pv 2) pk_nil)))))
          (pss_one (ps_expr (pe_bm PySem.F.plainAttrs_list PySem.F.slot_list_append PySem.F.type_list_append mt_append (pv 4) (pa_cons (pe_tup (pa_cons (pv 9) (pa_cons (pe_op op_add (pe_op op_add (pe_op op_add (pe_glob (by rfl) T.c_HEADER_BITS T.r_HEADER_BITS) (pv 2)) (pe_op op_mul (pv 5) (pv 1))) (pv 8)) pa_nil))) pa_nil)))))) pss_nil))))
      (pss_one (ps_ret (pv 4))))), ?_⟩
  obtain ⟨M, hM⟩ : ∃ M, M = if wd = true then 2 else 1 := ⟨_, rfl⟩
  rw [← hM] at k
  refine q_asgL (xs := []) (el_lst ea_nil (by decide)) fun L H1 hL e1 g1 => ?_
  obtain ⟨dx, x0, v0, x10, x11, hq1⟩ := hq.ex e1
  refine q_forR1 (n := ((min fo (vl.length - 1) + 1 : Nat) : Int)) (ea_cons (Ev.is (ev_I0 (g := fun i j => .int (i + j)) (ev_min2 (ev_fld T.cl_Settings T.n_Settings_fixed_order (v := .int (fo : Int)) (ev_var rfl) hq1 rfl) (ev_I0 (g := fun i j => .int (i - j)) (Ev.is (ev_lenS (K := K) (Ev.s (ev_var rfl) (sq_of (e1 _ _ ha)))) (by rw [List.length_map])) ev_c)) ev_c) (congrArg V.int (by split <;> omega))) ea_nil) (by omega) (fun i σ' H' => ∃ (es : List En) (z5 z6 z7 z8 z9 : Option V), σ' = [some (.ref a), some (.int wi), some (.int (lo : Int)), some (.ref q), some (.ref L), z5, z6, z7, z8, z9] ∧ Ex H H' ∧ H' L = some (.lst (es.map fun e => V.ref e.1)) ∧ (∀ e ∈ es, EnAt K T.C_Subframe H' e lo) ∧ CdR wi lo hi M ((List.range i).map (cdF vl)) es) (fun H2 e2 => ⟨[], none, none, none, none, none, rfl, e1.trans e2, e2 _ _ g1, (fun e he => by cases he), rfl⟩) ?_ ?_
  · rintro i σ' H2 hi' ⟨es, z5, z6, z7, z8, z9, rfl, e2, g2, hen, hfd⟩
    have hiv : i < vl.length ∧ i ≤ 4 := by omega
    refine q_asgL (xs := (FX.diffsN i vl).map V.int) (FX.el_fixres (Ev.s (ev_var rfl) (sq_of (e2 _ _ ha))) (ev_var rfl) (by omega) (by omega)) fun pr2 H3 hpr e3 g3 => ?_
    have hel : es.length ≤ i := by have := hfd.len; rwa [List.length_map, List.length_range] at this
    have hrs : (List.range (i + 1)).map (cdF vl) = (List.range i).map (cdF vl) ++ [cdF vl i] := by rw [List.range_succ, List.map_append]; rfl
    have hdl : (FX.diffsN i vl).length = vl.length - i := FX.diffsN_len _ _
    have e23 := e2.trans e3
    refine s_when (b := inB (FX.diffsN i vl)) (et_B (ev_call (ea_cons (ev_var rfl) ea_nil) fun G e Q2 q2 _ => ⟨pr2, FX.diffsN i vl, rfl, sq_of (e _ _ g3), by omega, q2⟩)) (fun hb H4 e4 => ?_) (fun hb H4 e4 => ?_)
    · refine q_asgCG (vs := [.ref pr2, .int (i : Int), .ref q]) (ea_cons (ev_var rfl) (ea_cons (ev_var rfl) (ea_cons (ev_var rfl) ea_nil))) fun H5 e5 => ⟨pr2, q, FX.diffsN i vl, i, fo, lin, p, hi, se, wd, sr, ws, rfl, hq.ex (e23.trans (e4.trans e5)), sq_of ((e4.trans e5) _ _ g3), by omega, by omega, hhi, fun v H6 x e6 hbq hbc => ?_⟩
      obtain ⟨t, t1, tc, rs, rfl, gt, gt1, gtc, hcod⟩ := hbc
      refine ⟨t, [.ref t1, .int x.b], rfl, st_of gt, rfl, .ref t1, [.int x.b], rfl, .int x.b, [], rfl, rfl, ?_⟩
      have e36 := e4.trans (e5.trans e6)
      have e26 := e23.trans e36
      show tSeq _ _ _ [some (.ref a), some (.int wi), some (.int (lo : Int)), some (.ref q), some (.ref L), some (.int (i : Int)), some (.ref pr2), some (.ref t1), some (.int x.b), z9] _
      refine q_asgN (R := fun p H' => SbAt K T.C_Subframe H' p ((cdF vl i).mk' x) lo) (en_makeKF (vs := [.str "fixed"]) (zs := [.int (i : Int), .ref t1, .int (lo : Int)]) (ea_cons ev_c ea_nil) (ea_cons (ev_var rfl) (ea_cons (ev_var rfl) (ea_cons (ev_var rfl) ea_nil))) rfl rfl fun a' dx G Q' E' eG hn hG k' => ⟨a', dx, _, _, _, _, _, _, _, rfl, hG, fun H' hF hA => k' H' hF ?_⟩) fun p H7 hp e7 hSb => ?_
      · have eH := FrO.after hF eG hn
        exact ⟨dx, T.e_Subframe_init_coefficients, .ref t1, hA, T.ze_Subframe_init_coefficients _, t1, tc, rs, rfl, eH _ _ gt1, eH _ _ gtc, hcod.tx (TxH.ex eH)⟩
      · have e37 := e3.trans (e36.trans e7)
        refine s_appE (S := fun v H' => ∃ tt, v = .ref tt ∧ H' tt = some (.tup [.ref p, .int (8 + (lo : Int) + (i : Int) * wi + x.b)])) (e37 _ _ g2) (ev_var rfl) (ex_tup2 (ev_var rfl) (ev_I0 (g := fun i j => .int (i + j)) (ev_I0 (g := fun i j => .int (i + j)) (ev_I0 (g := fun i j => .int (i + j)) (ev_relC T.r_HEADER_BITS) (ev_var rfl)) (ev_I (ev_var rfl) (ev_var rfl) (.inl (by omega)))) (ev_var rfl)) fun tt H' _ g => ⟨tt, rfl, g⟩) (by rw [List.length_map]; omega) fun v H8 e8 hv => ?_
        obtain ⟨tt, rfl, gtt⟩ := hv
        have e38 := e37.trans e8
        have gL8 := e38 _ _ g2
        have nl := NlH.upd (o := .lst (es.map (fun e => V.ref e.1) ++ [.ref tt])) gL8
        refine ⟨es ++ [(tt, (cdF vl i).bits wi lo x, (cdF vl i).mk' x)], _, _, _, _, _, rfl, Ex.mut (e2.trans e38) hL, ?_, fun e he => ?_, ?_⟩
        · rw [upd_same, List.map_append]
          rfl
        · rcases List.mem_append.mp he with he | he
          · exact ((hen e he).nl (NlH.ex e38)).nl nl
          · rw [List.mem_singleton.mp he]
            refine ⟨p, nl.tx _ _ ?_, (hSb.ex e8).nl nl⟩
            rw [gtt]
            show some (HO.tup [V.ref p, V.int (8 + (lo : Int) + (i : Int) * wi + x.b)]) = some (HO.tup [V.ref p, V.int (8 + (lo : Int) + (i : Int) * wi + 0 + x.b)])
            rw [Int.add_zero]
        · rw [hrs]
          exact hfd.app (CdR.one hb (by rw [hM]; exact hbq))
    · refine ⟨es, _, _, _, _, _, rfl, e23.trans e4, (e3.trans e4) _ _ g2, fun e he => (hen e he).nl (NlH.ex (e3.trans e4)), ?_⟩
      rw [hrs]
      have := hfd.app (CdR.zero (w := wi) (lo := lo) (hi := hi) (M := M) (d := cdF vl i) hb)
      rwa [List.append_nil] at this
  · rintro σ' H2 ⟨es, z5, z6, z7, z8, z9, rfl, e2, g2, hen, hfd⟩
    rw [Int.toNat_natCast] at hfd
    exact s_ret (ev_var rfl) fun H3 e3 => k L es H3 hL (e2.trans e3) (e3 _ _ g2) (fun e he => (hen e he).nl (NlH.ex e3)) hfd
def pkA (s c : Addr × Int) : Addr × Int := if c.2 < s.2 then c else s
def prj (e : En) : Addr × Int := (e.1, e.2.1)
theorem pkA_prj (s c : En) : pkA (prj s) (prj c) = prj (pk s c) := by
  unfold pkA pk prj
  split <;> rfl
theorem fold_prj : ∀ (es : List En) (s : En), (es.map prj).foldl pkA (prj s) = prj (es.foldl pk s)
  | [], s => rfl
  | c :: es, s => by
    show (es.map prj).foldl pkA (pkA (prj s) (prj c)) = prj (es.foldl pk (pk s c))
    rw [pkA_prj, fold_prj es]
theorem pkA_self (s : Addr × Int) : pkA s s = s := by unfold pkA; split <;> rfl
theorem pkA_mem : ∀ (es : List (Addr × Int)) (s : Addr × Int), es.foldl pkA s = s ∨ es.foldl pkA s ∈ es
  | [], s => .inl rfl
  | c :: es, s => by
    show es.foldl pkA (pkA s c) = s ∨ es.foldl pkA (pkA s c) ∈ c :: es
    rcases pkA_mem es (pkA s c) with h | h
    · rw [h]
      unfold pkA
      split
      · exact .inr (List.mem_cons_self ..)
      · exact .inl rfl
    · exact .inr (List.mem_cons_of_mem _ h)
def sp_fsm : Sp := fun vs H Q _ => ∃ (L : Addr) (e0 : Addr × Int) (es : List (Addr × Int)), vs = [.ref L] ∧ H L = some (.lst ((e0 :: es).map fun e => V.ref e.1)) ∧ (∀ e ∈ e0 :: es, ∃ xs, H e.1 = some (.tup xs) ∧ atI xs (-1) = some (.int e.2)) ∧ RetV (.ref (es.foldl pkA e0).1) H Q
theorem ok_first_smallest (T : TX K mg) : FnOk P w K mg base CX0 1 T.a_first_smallest T.d_first_smallest ["candidates"] sp_fsm := by
  refine T.F_first_smallest.ok sc_first_smallest (fun vs H Q E h => by obtain ⟨L, e0, es, rfl, _⟩ := h; rfl) (fun cdv A outer s H vs Q E hr h => ?_)
  obtain ⟨L, e0, es, rfl, hL, hen, k⟩ := h
  refine ⟨_, (pss_cons (ps_set (i := 1) sc_first_smallest.nd rfl (Or.inl rfl) (pe_ix (r := rIxL K) ix_list (pv 0) pe_int (fun _ _ => rfl)))
      (pss_cons (ps_for PassesOwn.never rfl (pi_list (pv 0)) (pg_name (i := 2) sc_first_smallest.nd rfl (Or.inl rfl)) (pss_one (ps_if (pt_cmpR op_lt (pe_ix (r := rIxT K) ix_tup (pv 2) (pe_un un_neg pe_int) (fun _ _ => rfl)) (pe_ix (r := rIxT K) ix_tup (pv 1) (pe_un un_neg pe_int) (fun _ _ => rfl)) (nomark _)) (pss_one (ps_set (i := 1) sc_first_smallest.nd rfl (Or.inl rfl) (pv 2))) pss_nil)))
      (pss_one (ps_ret (pv 1))))), ?_⟩
  have k : RetV (.ref ((e0 :: es).foldl pkA e0).1) H Q := by
    show RetV (.ref (es.foldl pkA (pkA e0 e0)).1) H Q
    rw [pkA_self]
    exact k
  obtain ⟨l, hl⟩ : ∃ l, e0 :: es = l := ⟨_, rfl⟩
  have he0 : e0 ∈ l := by rw [← hl]; exact List.mem_cons_self ..
  refine q_asg (v := .ref e0.1) (ev_at (n := 0) (Ev.s (ev_var rfl) (sq_of hL)) ev_c (at_of (j := 0) rfl rfl)) fun H1 e1 => ?_
  rw [hl] at hL hen k
  refine q_forLn (K := K) (a := L) (ev_var rfl) (sq_of (e1 _ _ hL)) (fun i σ' H' => ∃ z2 : Option V, σ' = [some (.ref L), some (.ref ((l.take i).foldl pkA e0).1), z2] ∧ Ex H H') (fun H2 e2 => ⟨none, rfl, e1.trans e2⟩) (fun i σ' H' _ h => by obtain ⟨_, _, ex⟩ := h; exact sq_of (ex _ _ hL)) ?_ ?_
  · rintro i x σ' H2 hx ⟨z2, rfl, ex⟩
    rw [List.getElem?_map] at hx
    obtain ⟨c, hc, rfl⟩ := Option.map_eq_some_iff.mp hx
    have hsm : ∃ s, (l.take i).foldl pkA e0 = s ∧ s ∈ l := ⟨_, rfl, by
      rcases pkA_mem (l.take i) e0 with h | h
      · rw [h]; exact he0
      · exact List.mem_of_mem_take h⟩
    obtain ⟨s, hs, hsl⟩ := hsm
    have hnx : (l.take (i + 1)).foldl pkA e0 = pkA s c := by
      rw [List.take_add_one, hc]
      show ((l.take i) ++ [c]).foldl pkA e0 = _
      rw [List.foldl_append, hs]
      rfl
    obtain ⟨xs1, g1, a1⟩ := hen c (List.mem_of_getElem? hc)
    obtain ⟨xs2, g2, a2⟩ := hen s hsl
    rw [hs, hnx]
    refine s_when (et_test (ev_I0 (g := fun i j => .bl (decide (i < j))) (ev_atT (n := -1) (v := .int c.2) (ev_var rfl) (st_of (ex _ _ g1)) (ev_negI ev_c) a1) (ev_atT (n := -1) (v := .int s.2) (ev_var rfl) (st_of (ex _ _ g2)) (ev_negI ev_c) a2))) (fun hb H3 e3 => ?_) (fun hb H3 e3 => ?_)
    · refine s_asg (v := .ref c.1) (ev_var rfl) fun H4 e4 => ⟨some (.ref c.1), ?_, ex.trans (e3.trans e4)⟩
      unfold pkA
      rw [if_pos (of_decide_eq_true hb)]
      rfl
    · refine ⟨some (.ref c.1), ?_, ex.trans e3⟩
      unfold pkA
      rw [if_neg (of_decide_eq_false hb)]
      rfl
  · rintro σ' H2 ⟨z2, rfl, ex⟩
    rw [List.length_map, List.take_length]
    exact s_ret (ev_var rfl) fun H3 e3 => k H3 (ex.trans e3)

-- BS2
/-! ### the best subframe -/
theorem waste_spec {ns : List Int} (hb : ∀ n ∈ ns, -(2 ^ 45) < n ∧ n < 2 ^ 45) (hx : ∃ n ∈ ns, n ≠ 0) : ∃ E : Nat, wasteI ns = (E : Int) ∧ E < 64 ∧ ∀ w, (∀ n ∈ ns, n % 2 ^ w = 0) ↔ w ≤ E := by
  have hb70 : ∀ n ∈ ns, -(2 ^ 70) < n ∧ n < 2 ^ 70 := fun n hn => by have := hb n hn; omega
  obtain ⟨x, hxm, hx0⟩ := hx
  have hj : ∀ w, dv w (joinI ns) ↔ ∀ n ∈ ns, dv w n := fun w => by
    unfold joinI
    rw [dv_foldl]
    exact ⟨fun h => h.2, fun h => ⟨dv_zero' w, h⟩⟩
  obtain ⟨E, hE⟩ : ∃ E : Nat, expI ns = (E : Int) := ⟨(expI ns).toNat, by have := exp_nn ns 70 (by decide); unfold expI; omega⟩
  have hle : ∀ w : Nat, w ≤ E ↔ w ≤ 70 ∧ ∀ n ∈ ns, n ≠ 0 → w ≤ vI n := fun w => by
    have := exp_le w ns 70
    unfold expI at hE
    rw [hE] at this
    constructor
    · intro h
      obtain ⟨a, b⟩ := this.mp (by omega)
      exact ⟨by omega, b⟩
    · rintro ⟨a, b⟩
      have := this.mpr ⟨by omega, b⟩
      omega
  have h70 : vI x ≤ 70 := vl_le 70 _
  have hd : ∀ w, (∀ n ∈ ns, dv w n) ↔ w ≤ E := fun w => by
    rw [hle]
    constructor
    · intro h
      have h1 := (dv_vI hx0 (hb70 x hxm).1 (hb70 x hxm).2 w).mp (h x hxm)
      exact ⟨by omega, fun n hn h0 => (dv_vI h0 (hb70 n hn).1 (hb70 n hn).2 w).mp (h n hn)⟩
    · rintro ⟨_, h⟩ n hn
      by_cases h0 : n = 0
      · rw [h0]; exact dv_zero' w
      · exact (dv_vI h0 (hb70 n hn).1 (hb70 n hn).2 w).mpr (h n hn h0)
  refine ⟨E, by rw [waste_is hb70 ⟨x, hxm, hx0⟩, hE], ?_, hd⟩
  rcases Nat.lt_or_ge E 64 with h | h
  · exact h
  · exfalso
    have h1 : x % 2 ^ 64 = 0 := (hd 64).mpr h x hxm
    have h2 := hb x hxm
    omega
def wst (xs : List Int) (ws : Bool) : Nat := if ws = true then (wasteI xs).toNat else 0
def vlW (xs : List Int) (lo : Nat) : List Int := xs.map fun x => x / 2 ^ lo
theorem allq_iff {xs : List Int} (h : 0 < xs.length) : minL xs = maxL xs ↔ ∀ x ∈ xs, x = xs.getD 0 0 := by
  obtain ⟨a1, a2⟩ := minL_is h
  obtain ⟨b1, b2⟩ := maxL_is h
  have h0 : xs.getD 0 0 ∈ xs := by
    cases xs with
    | nil => exact absurd h (by decide)
    | cons y r => exact List.mem_cons_self ..
  constructor
  · intro e x hx
    have c1 := a2 x hx
    have c2 := b2 x hx
    have c3 := a2 _ h0
    have c4 := b2 _ h0
    omega
  · intro e
    rw [e _ a1, e _ b1]
theorem ne_zero {xs : List Int} (h : 0 < xs.length) (hne : minL xs ≠ maxL xs) : ∃ n ∈ xs, n ≠ 0 := by
  obtain ⟨a1, _⟩ := minL_is h
  obtain ⟨b1, _⟩ := maxL_is h
  by_cases h0 : minL xs = 0
  · exact ⟨maxL xs, b1, fun z => hne (by rw [h0, z])⟩
  · exact ⟨minL xs, a1, h0⟩

open DT (Bt PD tp Sol)
theorem q_asgVP {σ : L2.St} {H : Hp} {te : TE} {i j : Nat} {t : Addr} {x y : V} {D : Ends} {tz : TS} (h : Ev te σ H (.ref t)) (hT : H t = some (.tup [x, y])) (k : ∀ H1, Ex H H1 → tz D ((σ.set i (some x)).set j (some y)) H1) : tSeq (tAsg te (gTup K 2 (gCons (gName i) (gCons (gName j) gNil)))) tz D σ H := h H (Ex.refl H) _ fun H1 e => ⟨t, [x, y], rfl, st_of (e _ _ hT), rfl, x, [y], rfl, y, [], rfl, rfl, k H1 e⟩
theorem eu_ofS {σ : L2.St} {H : Hp} {te : TE} {xs : List V} (h : EvS K te σ H xs) : EvU (tCB (fun xs H Q => ∃ p ys, xs = [V.ref p] ∧ ((SqL K H p ys ∧ ∀ l, H l = none → Q (V.ref l) (upd H l (.tup ys))) ∨ (SqT K H p ys ∧ Q (V.ref p) H))) (tCons te tNil)) σ H xs := fun H1 e Q q =>
  h H1 e _ fun p H2 e2 hp => ⟨p, xs, rfl, .inl ⟨hp, fun l hl => q l _ (fresh_back e2 hl) (e2.trans (Ex.new hl)) upd_same⟩⟩
theorem en_makeKAPb {σ : L2.St} {H : Hp} {C : Addr} {n m : Nat} {sp : Sp} {gV : List V → List V → List V} {E : XK} {t tk : TA} {vs : List V} {R : List V → Hp → Prop} {S : Addr → Hp → Prop} (h : EvA t σ H vs) (hz : EvAP tk σ H R) (l1 : vs.length = n) (l2 : ∀ zs G, R zs G → zs.length = m) (k : ∀ zs a dx H0 H1 (Q : VK) (E : XK), R zs H0 → Ex H H0 → Ex H0 H1 → H0 a = none → H1 a = some (.ins C dx []) → (∀ H', FrO a H1 H' → S a H' → Q .non H') → sp (gV (.ref a :: vs) zs) H1 Q E) : EvN (tMakeK C n m sp gV E t tk) σ H S := fun H1 e Q q =>
  h H1 e _ fun H2 e2 => hz H2 (e.trans e2) _ fun zs H3 e3 hR => ⟨l1, l2 zs H3 hR, fun x dx hx hdx hne => k zs x dx H3 _ _ _ hR ((e.trans e2).trans e3) (Ex.mut (Ex.new hdx) hx) hx upd_same fun H' hF hS => ⟨rfl, q x H' (fresh_back (e2.trans e3) hx) (fun b o hb => hF b o (fresh_ne hx ((e2.trans e3) b o hb)) ((Ex.mut (Ex.new hdx) hx) b o ((e2.trans e3) b o hb))) hS⟩⟩
def sp_lcands (K : PySem.W.Frag) (CS CT : Addr) : Sp := fun vs H Q _ => ∃ (a q : Addr) (vl : List Int) (w : Int) (lo fo lin p hi : Nat) (se wd sr ws : Bool), vs = [.ref a, .int w, .int (lo : Int), .ref q] ∧ SetG CT H q fo lin se p hi wd sr ws ∧ H a = some (.lst (vl.map V.int)) ∧ 0 < vl.length ∧ vl.length ≤ 64 ∧ (∀ x ∈ vl, -(2 ^ 33) < x ∧ x < 2 ^ 33) ∧ lin ≤ 40 ∧ 1 ≤ p ∧ p ≤ 32 ∧ hi ≤ 15 ∧ (-64 ≤ w ∧ w ≤ 100) ∧
  ∀ L (es : List En) H', H L = none → Ex H H' → H' L = some (.lst (es.map fun e => V.ref e.1)) → (∀ e ∈ es, EnAt K CS H' e lo) → CdR w lo hi (if wd = true then 2 else 1) ((ordsL lin se vl.length).filterMap (cdL vl p)) es → Q (.ref L) H'
theorem ok_linear_candidates (T : TX K mg) : FnOk P w K mg base CX0 6 T.a_linear_candidates T.d_linear_candidates ["values", "width", "wasted", "settings"] (sp_lcands K T.C_Subframe T.C_Settings) := by
  refine T.F_linear_candidates.ok sc_linear_candidates (fun vs H Q E h => by obtain ⟨a, q, vl, w, lo, fo, lin, p, hi, se, wd, sr, ws, rfl, _⟩ := h; rfl) (fun cdv A outer s H vs Q E hr h => ?_)
  obtain ⟨a, q, vl, wi, lo, fo, lin, p, hi, se, wd, sr, ws, rfl, hq, ha, h0, hl, hb, hlin, hp1, hp2, hhi, hwi, k⟩ := h
  refine ⟨_, (pss_cons (ps_set (i := 4) sc_linear_candidates.nd rfl (Or.inl rfl) (pe_call (ok_linear_orders T) (hr.mono (by decide)) (by rfl) T.g_linear_orders T.F_linear_orders.kp T.b_linear_orders .nil pass0 (pa_cons (pe_callB (r := rLenS K) call_len_seq (by rfl) T.m_len PySem.boot_len (pa_cons (pv 0) pa_nil)) (pa_cons (pv 3) pa_nil))))
      (pss_cons (ps_set (i := 5) sc_linear_candidates.nd rfl (Or.inl rfl) (pe_call (ok_predictors T) (hr.mono (by decide)) (by rfl) T.g_predictors T.F_predictors.kp T.b_predictors .nil pass0 (pa_cons (pv 0) (pa_cons (pe_callBK (cr_maxDef (hu64 hr)) (by rfl) T.m_max PyProof.Rows.boot_max (pa_cons (pv 4) pa_nil) (pk_cons pe_int pk_nil)) (pa_cons (pe_fld (pv 3) rfl) pa_nil)))))
      (pss_cons (ps_set (i := 6) sc_linear_candidates.nd rfl (Or.inl rfl) (pe_lst pa_nil))
      (pss_cons (ps_for PassesOwn.never rfl (pi_list (pv 4)) (pg_name (i := 7) sc_linear_candidates.nd rfl (Or.inl rfl)) (pss_cons (ps_set (i := 8) sc_linear_candidates.nd rfl (Or.inl rfl) (pe_ix (r := rIxL K) ix_list (pv 5) (pe_op op_sub (pv 7) pe_int) (fun _ _ => rfl)))
        (pss_one (ps_if (pt_cmpR op_notN1 (pv 8) pe_non (nomark _)) (pss_cons (ps_asg (pv 8) (pg_tup rfl (pgs_cons (pg_name (i := 9) sc_linear_candidates.nd rfl (Or.inl rfl)) (pgs_cons (pg_name (i := 10) sc_linear_candidates.nd rfl (Or.inl rfl)) pgs_nil))))
          (pss_cons (ps_set (i := 11) sc_linear_candidates.nd rfl (Or.inl rfl) (pe_call (ok_linear_residuals T) (hr.mono (by decide)) (by rfl) T.g_linear_residuals T.F_linear_residuals.kp T.b_linear_residuals .nil pass0 (pa_cons (pv 0) (pa_cons (pv 9) (pa_cons (pv 10) pa_nil)))))
          (pss_one (ps_if (pt_val (pe_call (ok_in_bounds T) (hr.mono (by decide)) (by rfl) T.g_in_bounds T.F_in_bounds.kp T.b_in_bounds .nil pass0 (pa_cons (pv 11) pa_nil))) (pss_cons (ps_asg (pe_call (ok_best_plan T) (hr.mono (by decide)) (by rfl) T.g_best_plan T.F_best_plan.kp T.b_best_plan .nil pass0 (pa_cons (pv 11) (pa_cons (pv 7) (pa_cons (pv 3) pa_nil)))) (pg_tup rfl (pgs_cons (pg_name (i := 12) sc_linear_candidates.nd rfl (Or.inl rfl)) (pgs_cons (pg_name (i := 13) sc_linear_candidates.nd rfl (Or.inl rfl)) pgs_nil))))
            (pss_cons (ps_set (i := 14) sc_linear_candidates.nd rfl (Or.inl rfl) (pe_makeK T.M_Subframe (ok_Subframe_init T) (hr.mono (by decide)) (by rfl) T.g_Subframe T.k2_order_precision_shift_coefficients_plan_wasted_Subframe_init pass0 (pa_cons pe_str pa_nil) (pk_cons (pv 7) (pk_cons (pe_fld (pv 3) rfl) (pk_cons (pv 10) (pk_cons (pe_callTy call_tuple_of (by rfl) T.m_tuple PyProof.Rows.boot_tuple (pa_cons (pv 9) pa_nil)) (pk_cons (pv 12) (pk_cons (pv 2) pk_nil))))))))
            (pss_cons (ps_set (i := 15) sc_linear_candidates.nd rfl (Or.inl rfl) (pe_op op_add (pe_op op_add (pe_op op_mul (pv 7) (pv 1)) (pe_glob (by rfl) T.c_PREDICTOR_BITS T.r_PREDICTOR_BITS)) (pe_op op_mul (pv 7) (pe_fld (pv 3) rfl))))
            (pss_one (ps_expr (pe_bm PySem.F.plainAttrs_list PySem.F.slot_list_append PySem.F.type_list_append mt_append (pv 6) (pa_cons (pe_tup (pa_cons (pv 14) (pa_cons (pe_op op_add (pe_op op_add (pe_op op_add (pe_glob (by rfl) T.c_HEADER_BITS T.r_HEADER_BITS) (pv 2)) (pv 15)) (pv 13)) pa_nil))) pa_nil))))))) pss_nil)))) pss_nil))))
      (pss_one (ps_ret (pv 6))))))), ?_⟩
  obtain ⟨M, hM⟩ : ∃ M, M = if wd = true then 2 else 1 := ⟨_, rfl⟩
  rw [← hM] at k
  obtain ⟨os, hos⟩ : ∃ os, ordsL lin se vl.length = os := ⟨_, rfl⟩
  have hosk : ∀ o ∈ os, 0 < o ∧ o < vl.length ∧ o ≤ lin := by rw [← hos]; exact ordsL_ok
  have hosl : os.length ≤ lin := by rw [← hos]; exact ordsL_len _ _ _
  obtain ⟨oi, hoi⟩ : ∃ oi : List Int, os.map (fun (o : Nat) => (o : Int)) = oi := ⟨_, rfl⟩
  have hov : os.map (fun (o : Nat) => V.int (o : Int)) = oi.map V.int := by rw [← hoi, List.map_map]; rfl
  have hvb : ∀ x ∈ vl, Bt 33 x := fun x hx => int_bt (hb x hx)
  have hwb : ∀ y ∈ wgt vl, Bt 47 y := wgt_bt (s := 6) hvb (by omega)
  have hbd : BdA (wgt vl) := bda_of fun y hy => (hwb y hy).mono (by decide)
  obtain ⟨c, hc⟩ : ∃ c, lagS (wgt vl) = c := ⟨_, rfl⟩
  have hcb : ∀ j, Bt 100 (c j) := fun j => by rw [← hc]; exact lag_bt (s := 6) hwb (by rw [wgt_len]; omega) j
  have hpd : c 0 ≠ 0 → PD c := fun h => by rw [← hc] at h ⊢; exact lag_pd h
  refine q_asgL (xs := oi.map V.int) (EvL.is (el_call (ea_cons (ev_lenS (K := K) (Ev.s (ev_var rfl) (sq_of ha))) (ea_cons (ev_var rfl) ea_nil)) fun G e Q2 q2 _ => ⟨q, (vl.map V.int).length, fo, lin, p, hi, se, wd, sr, ws, rfl, hq.ex e, by omega, q2⟩) (by rw [List.length_map, hos, hov])) fun po H1 hpo e1 g1 => ?_
  obtain ⟨dx, x0, v0, x10, x11, hq1⟩ := hq.ex e1
  obtain ⟨m1, m2, m3⟩ := maxI_nnQ (us := oi) fun u hu => by
    rw [← hoi] at hu
    obtain ⟨o, _, rfl⟩ := List.mem_map.mp hu
    exact Int.natCast_nonneg _
  obtain ⟨mx, hmx⟩ : ∃ mx : Nat, maxI 0 oi = (mx : Int) := ⟨(maxI 0 oi).toNat, by omega⟩
  have hmx40 : mx ≤ 40 := by
    rcases m2 with e | e
    · omega
    · rw [← hoi] at e
      obtain ⟨o, ho, he⟩ := List.mem_map.mp e
      have := (hosk o ho).2.2
      rw [hoi] at he
      omega
  have hmxo : ∀ o ∈ os, o ≤ mx := fun o ho => by
    have := m3 (o : Int) (by rw [← hoi]; exact List.mem_map_of_mem ho)
    omega
  refine q_asgC (vs := [.ref a, .int (mx : Int), .int (p : Int)]) (ea_cons (ev_var rfl) (ea_cons (Ev.is (ev_maxD (K := K) (ns := oi) (Ev.s (ev_var rfl) (sq_of g1)) ev_c) (congrArg V.int hmx)) (ea_cons (ev_fld T.cl_Settings T.n_Settings_precision (v := .int (p : Int)) (ev_var rfl) hq1 rfl) ea_nil))) fun H2 e2 => ⟨a, vl, mx, p, 100, rfl, sq_of ((e1.trans e2) _ _ ha), by omega, by omega, hp1, by omega, by decide, hbd, by rw [hc]; exact hcb, ?_⟩
  rw [hc]
  intro Lf vf H3 hLf e3 gLf hvfl hvf
  refine q_asgL (xs := []) (el_lst ea_nil (by decide)) fun L H4 hL e4 g4 => ?_
  have e13 := e1.trans (e2.trans e3)
  have hLH : H L = none := fresh_back e13 hL
  have gpo3 := (e2.trans e3) _ _ g1
  have ha3 := e13 _ _ ha
  have hq3 := (e2.trans e3) _ _ hq1
  show tSeq _ _ _ [some (.ref a), some (.int wi), some (.int (lo : Int)), some (.ref q), some (.ref po), some (.ref Lf), some (.ref L), none, none, none, none, none, none, none, none, none] _
  refine q_forLn (K := K) (a := po) (xs := oi.map V.int) (ev_var rfl) (sq_of (e4 _ _ gpo3)) (fun i σ' H' => ∃ (es : List En) (z7 z8 z9 z10 z11 z12 z13 z14 z15 : Option V), σ' = [some (.ref a), some (.int wi), some (.int (lo : Int)), some (.ref q), some (.ref po), some (.ref Lf), some (.ref L), z7, z8, z9, z10, z11, z12, z13, z14, z15] ∧ Ex H3 H' ∧ H' L = some (.lst (es.map fun e => V.ref e.1)) ∧ (∀ e ∈ es, EnAt K T.C_Subframe H' e lo) ∧ CdR wi lo hi M ((os.take i).filterMap (cdL vl p)) es) (fun H5 e5 => ⟨[], none, none, none, none, none, none, none, none, none, rfl, e4.trans e5, e5 _ _ g4, (fun e he => by cases he), rfl⟩) (fun i σ' H' _ h => by obtain ⟨_, _, _, _, _, _, _, _, _, _, _, ex, _⟩ := h; exact sq_of (ex _ _ gpo3)) ?_ ?_
  · rintro i x σ' H5 hx ⟨es, z7, z8, z9, z10, z11, z12, z13, z14, z15, rfl, e5, g5, hen, hcd⟩
    rw [← hov, List.getElem?_map] at hx
    obtain ⟨o, ho, rfl⟩ := Option.map_eq_some_iff.mp hx
    have hom := List.mem_of_getElem? ho
    obtain ⟨ho0, hon, hol⟩ := hosk o hom
    have homx := hmxo o hom
    have hil : i < os.length := (List.getElem?_eq_some_iff.mp ho).1
    have htk : (os.take (i + 1)).filterMap (cdL vl p) = (os.take i).filterMap (cdL vl p) ++ [o].filterMap (cdL vl p) := by rw [List.take_add_one, ho, List.filterMap_append]; rfl
    have hel : es.length ≤ 40 := by
      have h1 := hcd.len
      have h2 := List.length_filterMap_le (cdL vl p) (os.take i)
      rw [List.length_take] at h2
      omega
    obtain ⟨v, hv⟩ : ∃ v, vf[o - 1]? = some v := ⟨_, List.getElem?_eq_getElem (by omega)⟩
    have hPv := hvf (o - 1) v hv
    refine q_asg (v := v) (ev_at (n := ((o - 1 : Nat) : Int)) (Ev.s (ev_var rfl) (sq_of (e5 _ _ gLf))) (Ev.is (ev_I0 (g := fun i j => .int (i - j)) (ev_var rfl) ev_c) (congrArg V.int (by omega))) (at_of (j := o - 1) rfl hv)) fun H6 e6 => ?_
    have e56 := e5.trans e6
    have hEn : ∀ {G : Hp}, Ex H5 G → ∀ e ∈ es, EnAt K T.C_Subframe G e lo := fun e' e he => (hen e he).nl (NlH.ex e')
    obtain ⟨pz, hpz⟩ : ∃ pz, pqz c p (o - 1) = pz := ⟨_, rfl⟩
    have hPz : PO c (o - 1) pz H3 v := by
      rw [← hpz]
      unfold pqz
      by_cases h0 : c 0 = 0
      · rw [if_pos h0] at hPv ⊢
        exact hPv
      · rw [if_neg h0] at hPv ⊢
        exact hPv
    cases pz with
    | none =>
      obtain rfl : v = .non := hPz
      have hcl : [o].filterMap (cdL vl p) = [] := by
        have : cdL vl p o = none := by unfold cdL; rw [hc, hpz]
        show List.filterMap _ (o :: []) = []
        rw [List.filterMap_cons, this]
        rfl
      refine s_when (b := false) (et_is (et_test (ev_notN (ev_var rfl))) (by decide)) (fun hb => by cases hb) fun _ H7 e7 => ⟨es, _, _, _, _, _, _, _, _, _, rfl, e56.trans e7, (e6.trans e7) _ _ g5, hEn (e6.trans e7), by rw [htk, hcl, List.append_nil]; exact hcd⟩
    | some s =>
      obtain ⟨t, ac, rfl, gt, gac⟩ := hPz
      obtain ⟨cs, hcs⟩ : ∃ cs, pRow c (o - 1) s = cs := ⟨_, rfl⟩
      rw [hcs] at gac
      have hcsl : cs.length = o := by rw [← hcs, pRow_len]; omega
      have hpq : c 0 ≠ 0 ∧ pq c p (o - 1) = some s := by
        unfold pqz at hpz
        split at hpz
        · cases hpz
        · rename_i h
          exact ⟨h, hpz⟩
      obtain ⟨hs16, hcsb⟩ := pRow_bd (hpd hpq.1) hp2 hpq.2
      rw [hcs] at hcsb
      obtain ⟨d, hd⟩ : ∃ d : Cd, d = ⟨"linear", o, p, s, cs, lres cs s vl, 9 + (o : Int) * (p : Int)⟩ := ⟨_, rfl⟩
      have hcl : [o].filterMap (cdL vl p) = [d] := by
        have : cdL vl p o = some d := by unfold cdL; rw [hc, hpz]; dsimp only; rw [hcs, hd]
        show List.filterMap _ (o :: []) = [d]
        rw [List.filterMap_cons, this]
        rfl
      refine s_when (b := true) (et_is (et_test (ev_notN (ev_var rfl))) (by simp)) (fun _ H7 e7 => ?_) (fun hb => by cases hb)
      have e57 := e56.trans e7
      refine q_asgVP (ev_var rfl) (e57 _ _ gt) fun H8 e8 => ?_
      have e58 := e57.trans e8
      have hrl : (lres cs s vl).length = vl.length - o := by rw [lres_len, hcsl]
      refine q_asgL (xs := (lres cs s vl).map V.int) (el_linres (K := K) (Ev.s (ev_var rfl) (sq_of (e58 _ _ ha3))) (Ev.s (ev_var rfl) (sq_of (e58 _ _ gac))) (ev_var rfl) (by omega) (by omega) (by omega) (fun x hx => by have := hcsb x hx; omega)) fun pr H9 hpr e9 g9 => ?_
      have e59 := e58.trans e9
      show tIfS _ _ _ _ [some (.ref a), some (.int wi), some (.int (lo : Int)), some (.ref q), some (.ref po), some (.ref Lf), some (.ref L), some (.int (o : Int)), some (.ref t), some (.ref ac), some (.int (s : Int)), some (.ref pr), z12, z13, z14, z15] _
      refine s_when (b := inB (lres cs s vl)) (et_B (ev_call (ea_cons (ev_var rfl) ea_nil) fun G e Q2 q2 _ => ⟨pr, lres cs s vl, rfl, sq_of (e _ _ g9), by omega, q2⟩)) (fun hb H10 e10 => ?_) (fun hb H10 e10 => ?_)
      · have e510 := e59.trans e10
        refine q_asgCG (vs := [.ref pr, .int (o : Int), .ref q]) (ea_cons (ev_var rfl) (ea_cons (ev_var rfl) (ea_cons (ev_var rfl) ea_nil))) fun H11 e11 => ⟨pr, q, lres cs s vl, o, fo, lin, p, hi, se, wd, sr, ws, rfl, (hq.ex e13).ex (e510.trans e11), sq_of ((e10.trans e11) _ _ g9), by omega, by omega, hhi, fun v H12 x e12 hbq hbc => ?_⟩
        rw [← hM] at hbq
        obtain ⟨tt, t1, tc, rs, rfl, gtt, gt1, gtc, hcod⟩ := hbc
        refine ⟨tt, [.ref t1, .int x.b], rfl, st_of gtt, rfl, .ref t1, [.int x.b], rfl, .int x.b, [], rfl, rfl, ?_⟩
        have e512 := e510.trans (e11.trans e12)
        show tSeq _ _ _ [some (.ref a), some (.int wi), some (.int (lo : Int)), some (.ref q), some (.ref po), some (.ref Lf), some (.ref L), some (.int (o : Int)), some (.ref t), some (.ref ac), some (.int (s : Int)), some (.ref pr), some (.ref t1), some (.int x.b), z14, z15] _
        have hq12 := e512 _ _ hq3
        have hac12 := e512 _ _ gac
        refine q_asgN (R := fun p H' => SbAt K T.C_Subframe H' p (d.mk' x) lo) (en_makeKAPb (vs := [.str "linear"]) (ea_cons ev_c ea_nil) (ap_ev (x := .int (o : Int)) (ev_var rfl) (ap_ev (x := .int (p : Int)) (ev_fld T.cl_Settings T.n_Settings_precision (v := .int (p : Int)) (ev_var rfl) hq12 rfl) (ap_ev (x := .int (s : Int)) (ev_var rfl) (ap_u (xs := cs.map V.int) (eu_ofS (K := K) (Ev.s (ev_var rfl) (sq_of hac12))) (ap_ev (x := .ref t1) (ev_var rfl) (ap_ev (x := .int (lo : Int)) (ev_var rfl) ap_nil)))))) rfl (fun zs G hR => by obtain ⟨_, rfl, _, rfl, _, rfl, pt, _, rfl, _, _, _, rfl, _, rfl, rfl⟩ := hR; rfl) fun zs a' dx' G0 G Q' E' hR e0 eG hn hG k' => ?_) fun ps H13 hps e13' hSb => ?_
        · obtain ⟨_, rfl, _, rfl, _, rfl, pt, _, rfl, _, gpt, _, rfl, _, rfl, rfl⟩ := hR
          refine ⟨a', dx', _, _, _, _, _, _, _, rfl, hG, fun H' hF hA => k' H' hF ?_⟩
          have eH := FrO.after hF eG hn
          rw [hd]
          exact ⟨dx', pt, .ref t1, hA, st_of (eH _ _ gpt), t1, tc, rs, rfl, eH _ _ (e0 _ _ gt1), eH _ _ (e0 _ _ gtc), hcod.tx (TxH.ex (e0.trans eH))⟩
        · refine q_asg (v := .int ((o : Int) * wi + 9 + (o : Int) * (p : Int))) (ev_I0 (g := fun i j => .int (i + j)) (ev_I0 (g := fun i j => .int (i + j)) (ev_I (ev_var rfl) (ev_var rfl) (.inl (by omega))) (ev_relC T.r_PREDICTOR_BITS)) (ev_I (ev_var rfl) (ev_fld T.cl_Settings T.n_Settings_precision (v := .int (p : Int)) (ev_var rfl) (e13' _ _ hq12) rfl) (.inl (by omega)))) fun H14 e14 => ?_
          have e514 := e512.trans (e13'.trans e14)
          have e5_14 := e6.trans (e7.trans (e8.trans (e9.trans (e10.trans (e11.trans (e12.trans (e13'.trans e14)))))))
          refine s_appE (S := fun v H' => ∃ tt, v = .ref tt ∧ H' tt = some (.tup [.ref ps, .int (8 + (lo : Int) + ((o : Int) * wi + 9 + (o : Int) * (p : Int)) + x.b)])) (e5_14 _ _ g5) (ev_var rfl) (ex_tup2 (ev_var rfl) (ev_I0 (g := fun i j => .int (i + j)) (ev_I0 (g := fun i j => .int (i + j)) (ev_I0 (g := fun i j => .int (i + j)) (ev_relC T.r_HEADER_BITS) (ev_var rfl)) (ev_var rfl)) (ev_var rfl)) fun tt H' _ g => ⟨tt, rfl, g⟩) (by rw [List.length_map]; omega) fun v H15 e15 hv => ?_
          obtain ⟨tn, rfl, gtn⟩ := hv
          have e5_15 := e5_14.trans e15
          have gL15 := e5_15 _ _ g5
          have nl := NlH.upd (o := .lst (es.map (fun e => V.ref e.1) ++ [.ref tn])) gL15
          refine ⟨es ++ [(tn, d.bits wi lo x, d.mk' x)], _, _, _, _, _, _, _, _, _, rfl, Ex.mut (e514.trans e15) hL, ?_, fun e he => ?_, ?_⟩
          · rw [upd_same, List.map_append]
            rfl
          · rcases List.mem_append.mp he with he | he
            · exact (hEn e5_15 e he).nl nl
            · rw [List.mem_singleton.mp he]
              refine ⟨ps, nl.tx _ _ ?_, (hSb.ex (e14.trans e15)).nl nl⟩
              rw [gtn]
              have hbits : 8 + (lo : Int) + ((o : Int) * wi + 9 + (o : Int) * (p : Int)) + x.b = d.bits wi lo x := by
                rw [hd]
                show _ = 8 + (lo : Int) + (o : Int) * wi + (9 + (o : Int) * (p : Int)) + x.b
                generalize (o : Int) * wi = y1
                generalize (o : Int) * (p : Int) = y2
                omega
              rw [hbits]
          · rw [htk, hcl]
            refine hcd.app (CdR.one ?_ ?_)
            · rw [hd]; exact hb
            · rw [hd]; exact hbq
      · refine ⟨es, _, _, _, _, _, _, _, _, _, rfl, e59.trans e10, (e6.trans (e7.trans (e8.trans (e9.trans e10)))) _ _ g5, hEn (e6.trans (e7.trans (e8.trans (e9.trans e10)))), ?_⟩
        rw [htk, hcl]
        have := hcd.app (CdR.zero (w := wi) (lo := lo) (hi := hi) (M := M) (d := d) (by rw [hd]; exact hb))
        rwa [List.append_nil] at this
  · rintro σ' H5 ⟨es, z7, z8, z9, z10, z11, z12, z13, z14, z15, rfl, e5, g5, hen, hcd⟩
    rw [List.length_map, ← hoi, List.length_map, List.take_length] at hcd
    exact s_ret (ev_var rfl) fun H6 e6 => k L es H6 hLH (e13.trans (e5.trans e6)) (e6 _ _ g5) (fun e he => (hen e he).nl (NlH.ex e6)) (by rw [hos]; exact hcd)
theorem s_ret2NV {σ : L2.St} {H : Hp} {t1 t2 : TE} {y : V} {R : Addr → Hp → Prop} {D : Ends} (h1 : EvN t1 σ H R) (h2 : Ev t2 σ H y) (k : ∀ t p H1 H2, Ex H H1 → R p H1 → Ex H1 H2 → H2 t = none → D.rt (.ref t) (upd H2 t (.tup [.ref p, y]))) : tRet (tTup (tCons t1 (tCons t2 tNil))) D σ H :=
  h1 H (Ex.refl H) _ fun p H1 hp e1 hR => h2 H1 e1 _ fun H2 e2 => ⟨sz_of (show 2 ≤ 100000 by decide), fun t ht => k t p H1 H2 e1 hR e2 ht⟩
theorem q_asgLTN {σ : L2.St} {H : Hp} {t1 t2 : TE} {y : V} {R : Addr → Hp → Prop} {i : Nat} {D : Ends} {tz : TS} (h1 : EvN t1 σ H R) (h2 : Ev t2 σ H y) (k : ∀ L t p H1 H2, Ex H H1 → R p H1 → Ex H1 H2 → H L = none → H2 t = some (.tup [.ref p, y]) → H2 L = some (.lst [.ref t]) → tz D (σ.set i (some (.ref L))) H2) : tSeq (tAsg (tLst (tCons (tTup (tCons t1 (tCons t2 tNil))) tNil)) (gName i)) tz D σ H :=
  h1 H (Ex.refl H) _ fun p H1 hp e1 hR => h2 H1 e1 _ fun H2 e2 => ⟨sz_of (show 2 ≤ 100000 by decide), fun t ht => ⟨sz_of (show 1 ≤ 100000 by decide), fun L hL => by
    have x1 := Ex.new (o := .tup [.ref p, y]) ht
    have x2 := Ex.new (o := .lst [V.ref t]) hL
    exact k L t p H1 _ e1 hR (e2.trans (x1.trans x2)) (fresh_back (e1.trans (e2.trans x1)) hL) (x2 _ _ upd_same) upd_same⟩⟩
theorem q_extM {σ : L2.St} {H : Hp} {ta te : TE} {D : Ends} {tz : TS} {l : Addr} {xs : List V} (hl : H l = some (.lst xs)) (ha : Ev ta σ H (.ref l)) (he : ∀ H1, Ex H H1 → te σ H1 (fun v H2 => ∃ l' b xs' zs, V.ref l = .ref l' ∧ [v] = [V.ref b] ∧ H2 l' = some (.lst xs') ∧ H2 b = some (.lst zs) ∧ xs'.length + zs.length ≤ sizeLine ∧ tz D σ (upd H2 l' (.lst (xs' ++ zs))))) : tSeq (tDrop (tBM K "list" rExtend ta (tCons te tNil))) tz D σ H :=
  ha H (Ex.refl H) _ fun H1 e1 => ⟨.inl ⟨rfl, _, sq_of (e1 _ _ hl)⟩, he H1 e1⟩
def ResG (xs : List Int) (D : Nat) (ws : Bool) (fo lin : Nat) (se : Bool) (pr hi M : Nat) (c : Cc) (lo : Nat) (b : Int) : Prop :=
  (minL xs = maxL xs ∧ c = conC ∧ lo = 0 ∧ b = 8 + (D : Int)) ∨
  (minL xs ≠ maxL xs ∧ lo = wst xs ws ∧ ∃ es t0, CdR ((D : Int) - (lo : Int)) lo hi M (cands (vlW xs lo) fo lin se pr) es ∧ (es.foldl pk (t0, 8 + (lo : Int) + ((D : Int) - (lo : Int)) * (xs.length : Int), verC)).2 = (b, c))
def sp_bsub (K : PySem.W.Frag) (CS CT : Addr) : Sp := fun vs H Q _ => ∃ (a q : Addr) (xs : List Int) (D fo lin pr hi : Nat) (se wd sr ws : Bool), vs = [.ref a, .int (D : Int), .ref q] ∧ SetG CT H q fo lin se pr hi wd sr ws ∧ H a = some (.lst (xs.map V.int)) ∧ 0 < xs.length ∧ xs.length ≤ 64 ∧ (∀ x ∈ xs, -(2 ^ 33) < x ∧ x < 2 ^ 33) ∧ fo ≤ 4 ∧ lin ≤ 40 ∧ 1 ≤ pr ∧ pr ≤ 32 ∧ hi ≤ 15 ∧ D ≤ 100 ∧
  ∀ t p c lo b H', Ex H H' → H' t = some (.tup [.ref p, .int b]) → SbAt K CS H' p c lo → ResG xs D ws fo lin se pr hi (if wd = true then 2 else 1) c lo b → Q (.ref t) H'
theorem ok_best_subframe (T : TX K mg) : FnOk P w K mg base CX0 7 T.a_best_subframe T.d_best_subframe ["samples", "depth", "settings"] (sp_bsub K T.C_Subframe T.C_Settings) := by
  refine T.F_best_subframe.ok sc_best_subframe (fun vs H Q E h => by obtain ⟨a, q, xs, D, fo, lin, pr, hi, se, wd, sr, ws, rfl, _⟩ := h; rfl) (fun cdv A outer s H vs Q E hr h => ?_)
  obtain ⟨a, q, xs, D, fo, lin, pr, hi, se, wd, sr, ws, rfl, hq, ha, h0, hl, hb33, hfo, hlin, hp1, hp2, hhi, hD, k⟩ := h
  have hb : ∀ x ∈ xs, -(2 ^ 45) < x ∧ x < 2 ^ 45 := fun x hx => by have := hb33 x hx; omega
  refine ⟨_, (pss_cons (ps_if (pt_cmpR op_eq (pe_callB (r := rMin K) (cr_min rfl) (by rfl) T.m_min PyProof.Rows.boot_min (pa_cons (pv 0) pa_nil)) (pe_callB (r := rMax K) (cr_max rfl) (by rfl) T.m_max PyProof.Rows.boot_max (pa_cons (pv 0) pa_nil)) (nomark _)) (pss_one (ps_ret (pe_tup (pa_cons (pe_make T.M_Subframe (ok_Subframe_init T) (hr.mono (by decide)) (by rfl) T.g_Subframe T.b2_Subframe_init T.v2_Subframe_init pass0 (pa_cons pe_str pa_nil)) (pa_cons (pe_op op_add (pe_glob (by rfl) T.c_HEADER_BITS T.r_HEADER_BITS) (pv 1)) pa_nil))))) pss_nil)
      (pss_cons (ps_set (i := 3) sc_best_subframe.nd rfl (Or.inr rfl) (pe_ifExp (pt_val (pe_fld (pv 2) rfl)) (pe_call (ok_wasted_bits T) (hr.mono (by decide)) (by rfl) T.g_wasted_bits T.F_wasted_bits.kp T.b_wasted_bits .nil pass0 (pa_cons (pv 0) pa_nil)) pe_int))
      (pss_cons (ps_setLc (i := 4) (own := [("sample", 7)]) (g := gName 7) (tt := tYes) rfl sc_best_subframe.nd rfl rfl (sw_true rfl rfl rfl (by decide +kernel)) (pi_list (pv 0)) (blkOk_by (N := ["samples", "depth", "settings", "wasted", "values", "width", "candidates", "sample"]) (sc := defScope s_best_subframe) (by decide +kernel)) (fun _ _ _ _ _ => pg_name (i := 7) sc_best_subframe.nd rfl (Or.inl rfl)) (fun _ _ _ _ _ => pts_nil) (fun _ _ _ _ _ => (pe_op op_shr (pv 7) (pv 3))))
      (pss_cons (ps_set (i := 5) sc_best_subframe.nd rfl (Or.inl rfl) (pe_op op_sub (pv 1) (pv 3)))
      (pss_cons (ps_set (i := 6) sc_best_subframe.nd rfl (Or.inl rfl) (pe_lst (pa_cons (pe_tup (pa_cons (pe_makeK T.M_Subframe (ok_Subframe_init T) (hr.mono (by decide)) (by rfl) T.g_Subframe T.k2_wasted_Subframe_init pass0 (pa_cons pe_str pa_nil) (pk_cons (pv 3) pk_nil)) (pa_cons (pe_op op_add (pe_op op_add (pe_glob (by rfl) T.c_HEADER_BITS T.r_HEADER_BITS) (pv 3)) (pe_op op_mul (pe_callB (r := rLenS K) call_len_seq (by rfl) T.m_len PySem.boot_len (pa_cons (pv 4) pa_nil)) (pv 5))) pa_nil))) pa_nil)))
      (pss_cons (ps_expr (pe_bm PySem.F.plainAttrs_list PySem.F.slot_list_extend PySem.F.type_list_extend mt_extend (pv 6) (pa_cons (pe_call (ok_fixed_candidates T) (hr.mono (by decide)) (by rfl) T.g_fixed_candidates T.F_fixed_candidates.kp T.b_fixed_candidates .nil pass0 (pa_cons (pv 4) (pa_cons (pv 5) (pa_cons (pv 3) (pa_cons (pv 2) pa_nil))))) pa_nil)))
      (pss_cons (ps_expr (pe_bm PySem.F.plainAttrs_list PySem.F.slot_list_extend PySem.F.type_list_extend mt_extend (pv 6) (pa_cons (pe_call (ok_linear_candidates T) (hr.mono (by decide)) (by rfl) T.g_linear_candidates T.F_linear_candidates.kp T.b_linear_candidates .nil pass0 (pa_cons (pv 4) (pa_cons (pv 5) (pa_cons (pv 3) (pa_cons (pv 2) pa_nil))))) pa_nil)))
      (pss_one (ps_ret (pe_call (ok_first_smallest T) (hr.mono (by decide)) (by rfl) T.g_first_smallest T.F_first_smallest.kp T.b_first_smallest .nil pass0 (pa_cons (pv 6) pa_nil))))))))))), ?_⟩
  have hS : EvS K (tVar 0) [some (.ref a), some (.int (D : Int)), some (.ref q), none, none, none, none, none] H (xs.map V.int) := Ev.s (ev_var rfl) (sq_of ha)
  refine q_when (b := decide (minL xs = maxL xs)) (et_test (Ev.is (ev_eq (ev_minL hS h0) (ev_maxL hS h0) rfl) (congrArg V.bl (decide_eq_decide.mpr ⟨V.int.inj, congrArg V.int⟩)))) (fun hm H1 e1 => ?_) (fun hm H1 e1 => ?_)
  · refine s_ret2NV (R := fun p H' => SbAt K T.C_Subframe H' p conC 0) (en_makeF (vs := [.str "constant"]) (ea_cons ev_c ea_nil) fun a' dx G Q' E' eG hn hG k' => ⟨a', dx, _, _, _, _, _, _, _, rfl, hG, fun H' hF hA => k' H' hF ⟨dx, T.e_Subframe_init_coefficients, .non, hA, T.ze_Subframe_init_coefficients _, rfl⟩⟩) (ev_I0 (g := fun i j => .int (i + j)) (ev_relC T.r_HEADER_BITS) (ev_var rfl)) fun t p G G2 eG hSb eG2 ht => ?_
    have x := Ex.new (o := .tup [.ref p, .int (8 + (D : Int))]) ht
    exact k t p conC 0 (8 + (D : Int)) _ (e1.trans (eG.trans (eG2.trans x))) upd_same (hSb.ex (eG2.trans x)) (.inl ⟨of_decide_eq_true hm, rfl, rfl, rfl⟩)
  have hm := of_decide_eq_false hm
  obtain ⟨E0, hE0, hE64, hEd⟩ := waste_spec hb (ne_zero h0 hm)
  obtain ⟨lo, hlo⟩ : ∃ lo, wst xs ws = lo := ⟨_, rfl⟩
  have hlo64 : lo < 64 := by
    rw [← hlo]
    unfold wst
    split
    · rw [hE0, Int.toNat_natCast]; exact hE64
    · decide
  obtain ⟨dx, x0, v0, x10, x11, hq1⟩ := hq.ex e1
  refine q_asg (v := .int (lo : Int)) (ev_if (b := ws) (et_B (ev_fld T.cl_Settings T.n_Settings_wasted (v := .bl ws) (ev_var rfl) hq1 rfl)) (fun hw => Ev.is (ev_waste (Ev.s (ev_var rfl) (sq_of (e1 _ _ ha))) (by omega)) (by rw [hE0, ← hlo]; unfold wst; rw [if_pos hw, hE0, Int.toNat_natCast])) fun hw => Ev.is ev_c (by rw [← hlo]; unfold wst; rw [if_neg (by rw [hw]; decide)]; rfl)) fun H2 e2 => ?_
  have e12 := e1.trans e2
  obtain ⟨vl, hvl⟩ : ∃ vl, vlW xs lo = vl := ⟨_, rfl⟩
  have hvll : vl.length = xs.length := by rw [← hvl]; exact List.length_map ..
  have hvb : ∀ v ∈ vl, -(2 ^ 33) < v ∧ v < 2 ^ 33 := fun v hv => by
    rw [← hvl] at hv
    obtain ⟨x, hx, rfl⟩ := List.mem_map.mp hv
    have h1 := hb33 x hx
    obtain ⟨p, hp⟩ : ∃ p : Int, 2 ^ lo = p := ⟨_, rfl⟩
    have hp0 : 0 < p := by rw [← hp]; exact Int.pow_pos (by decide)
    rw [hp]
    have a1 : -(2 ^ 33) + 1 ≤ x / p := (Int.le_ediv_iff_mul_le hp0).mpr (by omega)
    have a2 : x / p < 2 ^ 33 := Int.ediv_lt_of_lt_mul hp0 (by omega)
    omega
  refine q_asgL (xs := vl.map V.int) (el_lcS (K := K) (xs := xs.map V.int) _ (Ev.s (ev_var rfl) (sq_of (e12 _ _ ha))) (by rw [List.length_map, List.length_map, hvll]) (by rw [List.length_map]; omega) (fun _ => rfl) fun i z G eG hz => ?_) fun pv H3 hpv e3 g3 => ?_
  · obtain ⟨n, hn, hi, rfl⟩ := int_at hz
    exact ⟨.int (n / 2 ^ lo), at_int (by rw [← hvl]; unfold vlW; rw [List.getElem?_map, hn]; rfl), Ev.is (ev_I (ev_var rfl) (ev_var rfl) (by omega)) (by rw [Int.toNat_natCast])⟩
  obtain ⟨wi, hwi⟩ : ∃ wi : Int, (D : Int) - (lo : Int) = wi := ⟨_, rfl⟩
  refine q_asg (v := .int wi) (Ev.is (ev_I0 (g := fun i j => .int (i - j)) (ev_var rfl) (ev_var rfl)) (congrArg V.int hwi)) fun H4 e4 => ?_
  have e14 := e12.trans (e3.trans e4)
  have g4 := e4 _ _ g3
  have hwb : -64 ≤ wi ∧ wi ≤ 100 := by omega
  refine q_asgLTN (R := fun p H' => SbAt K T.C_Subframe H' p verC lo) (y := .int (8 + (lo : Int) + (xs.length : Int) * wi)) (en_makeKF (vs := [.str "verbatim"]) (zs := [.int (lo : Int)]) (ea_cons ev_c ea_nil) (ea_cons (ev_var rfl) ea_nil) rfl rfl fun a' dx G Q' E' eG hn hG k' => ⟨a', dx, _, _, _, _, _, _, _, rfl, hG, fun H' hF hA => k' H' hF ⟨dx, T.e_Subframe_init_coefficients, .non, hA, T.ze_Subframe_init_coefficients _, rfl⟩⟩) (ev_I0 (g := fun i j => .int (i + j)) (ev_I0 (g := fun i j => .int (i + j)) (ev_relC T.r_HEADER_BITS) (ev_var rfl)) (ev_I (Ev.is (ev_lenS (K := K) (Ev.s (ev_var rfl) (sq_of g4))) (by rw [List.length_map, hvll])) (ev_var rfl) (.inl (by omega)))) fun L t p G1 G2 eG1 hSb eG2 hL gt gL => ?_
  have e42 := eG1.trans eG2
  show tSeq _ _ _ [some (.ref a), some (.int (D : Int)), some (.ref q), some (.int (lo : Int)), some (.ref pv), some (.int wi), some (.ref L), none] _
  obtain ⟨M, hM⟩ : ∃ M, M = if wd = true then 2 else 1 := ⟨_, rfl⟩
  have e24 := e3.trans e4
  refine q_extM (l := L) (xs := [.ref t]) gL (ev_var rfl) fun H5 e5 => ea_go (ea_cons (ev_var rfl) (ea_cons (ev_var rfl) (ea_cons (ev_var rfl) (ea_cons (ev_var rfl) ea_nil)))) fun H6 e6 => ?_
  have e46 := e42.trans (e5.trans e6)
  refine ⟨pv, q, vl, wi, lo, fo, lin, pr, hi, se, wd, sr, ws, rfl, hq.ex (e14.trans e46), e46 _ _ g4, by omega, by omega, hfo, hhi, fun L2 es H7 hL2 e7 gL2 hen hfd => ?_⟩
  rw [← hM] at hfd
  have hel : es.length ≤ 5 := by have := hfd.len; rw [List.length_map, List.length_range] at this; omega
  have e27 := (e5.trans e6).trans e7
  have gL7 := e27 _ _ gL
  refine ⟨L, L2, [.ref t], _, rfl, rfl, gL7, gL2, sz_of (by rw [List.length_map]; show 1 + es.length ≤ _; omega), ?_⟩
  obtain ⟨l3, hl3⟩ : ∃ l3, [V.ref t] ++ es.map (fun e => V.ref e.1) = l3 := ⟨_, rfl⟩
  rw [hl3]
  have nl7 := NlH.upd (o := .lst l3) gL7
  have x7 : Ex H4 (upd H7 L (.lst l3)) := Ex.mut (e42.trans e27) hL
  have g7 : upd H7 L (.lst l3) L = some (.lst l3) := upd_same
  generalize upd H7 L (.lst l3) = G7 at *
  refine q_extM (l := L) (xs := l3) g7 (ev_var rfl) fun H8 e8 => ea_go (ea_cons (ev_var rfl) (ea_cons (ev_var rfl) (ea_cons (ev_var rfl) (ea_cons (ev_var rfl) ea_nil)))) fun H9 e9 => ?_
  have x9 := x7.trans (e8.trans e9)
  refine ⟨pv, q, vl, wi, lo, fo, lin, pr, hi, se, wd, sr, ws, rfl, hq.ex (e14.trans x9), x9 _ _ g4, by omega, by omega, hvb, hlin, hp1, hp2, hhi, hwb, fun L4 es2 H10 hL4 e10 gL4 hen2 hfd2 => ?_⟩
  rw [← hM] at hfd2
  have hel2 : es2.length ≤ 40 := by
    have h1 := hfd2.len
    have h2 := List.length_filterMap_le (cdL vl pr) (ordsL lin se vl.length)
    have h3 := ordsL_len lin vl.length se
    omega
  have e79 := (e8.trans e9).trans e10
  have gL10 := e79 _ _ g7
  obtain ⟨l4, hl4⟩ : ∃ l4, es2.map (fun e => V.ref e.1) = l4 := ⟨_, rfl⟩
  have hl4l : l4.length = es2.length := by rw [← hl4, List.length_map]
  rw [hl4] at gL4
  refine ⟨L, L4, l3, l4, rfl, rfl, gL10, gL4, sz_of (by rw [← hl3, List.length_append, List.length_map]; show 1 + es.length + _ ≤ _; omega), ?_⟩
  have nl10 := NlH.upd (o := .lst (l3 ++ l4)) gL10
  have x10 : Ex H4 (upd H10 L (.lst (l3 ++ l4))) := by
    refine fun c o h => ?_
    have hcL : c ≠ L := by rintro rfl; rw [hL] at h; cases h
    rw [upd_ne hcL]
    exact (x7.trans e79) _ _ h
  have g10 : upd H10 L (.lst (l3 ++ l4)) L = some (.lst (l3 ++ l4)) := upd_same
  generalize upd H10 L (.lst (l3 ++ l4)) = G10 at *
  obtain ⟨e0, he0⟩ : ∃ e0 : En, e0 = (t, 8 + (lo : Int) + (xs.length : Int) * wi, verC) := ⟨_, rfl⟩
  have g10 : G10 L = some (.lst ((e0 :: (es ++ es2)).map fun e => V.ref e.1)) := by
    rw [g10, ← hl3, ← hl4, he0, List.map_cons, List.map_append]
    rfl
  have hall : ∀ e ∈ e0 :: (es ++ es2), EnAt K T.C_Subframe G10 e lo := fun e he => by
    have nn : NlH H7 G10 := (nl7.trans (NlH.ex e79)).trans nl10
    rcases List.mem_cons.mp he with rfl | he
    · rw [he0]
      exact ⟨p, nn.tx _ _ (e27 _ _ gt), (hSb.ex (eG2.trans e27)).nl nn⟩
    · rcases List.mem_append.mp he with he | he
      · exact (hen e he).nl nn
      · exact (hen2 e he).nl nl10
  refine s_retC (ea_cons (ev_var rfl) ea_nil) fun G11 e11 => ⟨L, prj e0, (es ++ es2).map prj, rfl, e11 _ _ (by rw [g10, ← List.map_cons, List.map_map]; rfl), fun e he => ?_, ?_⟩
  · rw [← List.map_cons] at he
    obtain ⟨x, hx, rfl⟩ := List.mem_map.mp he
    obtain ⟨px, h1, _⟩ := (hall x hx).nl (NlH.ex e11)
    exact ⟨_, h1, rfl⟩
  rw [fold_prj]
  intro G12 e12'
  have hmem : (es ++ es2).foldl pk e0 ∈ e0 :: (es ++ es2) := by
    rcases pk_mem (s0 := e0) (es ++ es2) e0 (.inl rfl) with h | h
    · rw [h]; exact List.mem_cons_self ..
    · exact List.mem_cons_of_mem _ h
  obtain ⟨p2, h1, h2⟩ := (hall _ hmem).nl (NlH.ex (e11.trans e12'))
  refine k _ p2 _ lo _ G12 (e14.trans (x10.trans (e11.trans e12'))) h1 h2 (.inr ⟨hm, hlo.symm, es ++ es2, t, ?_, ?_⟩)
  · rw [hvl, hwi, ← hM]
    exact hfd.app hfd2
  · rw [hwi, Int.mul_comm wi, ← he0]

-- LAWS
namespace SH
theorem log_pow (j : Nat) (h : j ≤ 1000) : (2 ^ j : Nat).log2 < 9000 := by rw [Nat.log2_two_pow]; omega
theorem cdivw (v : Int) (j : Nat) (h : j ≤ 1000) : CDivW v (1 * 2 ^ (j : Int).toNat) := by
  have e : (1 : Int) * 2 ^ (j : Int).toNat = ((2 ^ j : Nat) : Int) := by rw [Int.toNat_natCast, Int.one_mul]; exact (Int.natCast_pow 2 j).symm
  rw [e]
  refine ⟨?_, ?_⟩
  · have := Nat.two_pow_pos j
    omega
  · rw [Int.natAbs_natCast]
    exact log_pow j h
theorem ev_shl1 {σ : L2.St} {H : Hp} {t2 : TE} {j : Nat} (h2 : Ev t2 σ H (.int (j : Int))) (hj : j ≤ 1000) : Ev (tOp (rI CPow fun i j => .int (i * 2 ^ j.toNat)) (tC (.int 1)) t2) σ H (.int (1 * 2 ^ (j : Int).toNat)) := ev_I ev_c h2 (show CPow 1 (j : Int) from ⟨by omega, by omega, by decide⟩)
theorem ev_divp {σ : L2.St} {H : Hp} {t1 t2 : TE} {v : Int} {j : Nat} (h1 : Ev t1 σ H (.int v)) (h2 : Ev t2 σ H (.int (j : Int))) (hj : j ≤ 1000) : Ev (tOp (rI CDivW fun i j => .int (i / j)) t1 (tOp (rI CPow fun i j => .int (i * 2 ^ j.toNat)) (tC (.int 1)) t2)) σ H (.int (v / 2 ^ j)) :=
  Ev.is (ev_I h1 (ev_shl1 h2 (by omega)) (cdivw v j hj)) (by rw [Int.toNat_natCast, Int.one_mul])
end SH

/-! ### the law's signal, settings, halvings, differences -/
theorem ev_allI {σ : L2.St} {H : Hp} {t1 te : TE} {vs : List Nat} {j : Nat} {xs : List Int} {f : Int → Bool} (h1 : EvS K t1 σ H (xs.map V.int)) (hl : xs.length ≤ 1000) (hw : ∀ x, wipe ((wipe σ vs).set j (some x)) vs = wipe σ vs) (he : ∀ x ∈ xs, ∀ G, Ex H G → Ev te ((wipe σ vs).set j (some (.int x))) G (.bl (f x))) : Ev (tCB (rAll K) (tCons (tLc (iList K t1) (gName j) tYes te vs) tNil)) σ H (.bl (xs.all f)) :=
  ev_all (bs := xs.map f) (EvR.s (EvL.r (el_lcS (xs := xs.map V.int) _ h1 (by rw [List.length_map, List.length_map, List.length_map]) (by rw [List.length_map, List.length_map]; omega) hw fun i z G eG hz => by
    obtain ⟨n, hn, hi, rfl⟩ := int_at hz
    exact ⟨.bl (f n), by rw [List.map_map, List.getElem?_map, hn]; rfl, he n (List.mem_of_getElem? hn) G eG⟩))) (by rw [List.all_map]; rfl)
theorem s_sigLC {σ : L2.St} {H : Hp} {ta : TA} {te : TE} {vs : List Nat} {j n : Nat} {c bd : Int} {E : XK} {D : Ends} {f : Int → Int} (hA : EvA ta σ H [.int c, .int (n : Int), .int bd]) (hn : n ≤ 1000) (hb0 : 0 < bd) (hb1 : bd ≤ 2 ^ 50) (hw : ∀ x, wipe ((wipe σ vs).set j (some x)) vs = wipe σ vs) (he : ∀ x G, 0 ≤ x → x < bd → Ex H G → Ev te ((wipe σ vs).set j (some (.int x))) G (.int (f x))) (k : ∀ (r : Addr) (ns : List Int) (H' : Hp), H r = none → Ex H H' → H' r = some (.lst ((ns.map f).map V.int)) → ns.length = n → (∀ x ∈ ns, 0 ≤ x ∧ x < bd) → D.rt (.ref r) H') : tRet (tLc (iList K (tCall sp_lrow [] E ta)) (gName j) tYes te vs) D σ H :=
  s_retLC hA fun H1 e1 => ⟨c, n, bd, rfl, hn, hb0, hb1, fun p ns H2 hp e2 g2 hl hx => s_retL (xs := (ns.map f).map V.int) (el_lcS (K := K) (xs := ns.map V.int) _ (Ev.s ev_c (sq_of g2)) (by rw [List.length_map, List.length_map, List.length_map]) (by rw [List.length_map, List.length_map]; omega) hw fun i z G eG hz => by
    obtain ⟨m, hm, hi, rfl⟩ := int_at hz
    have hmx := hx m (List.mem_of_getElem? hm)
    exact ⟨.int (f m), by rw [List.map_map, List.getElem?_map, hm]; rfl, he m G hmx.1 hmx.2 (e1.trans (e2.trans eG))⟩) fun r H3 hr e3 g3 => k r ns H3 (fresh_back (e1.trans e2) hr) (e1.trans (e2.trans e3)) g3 hl hx⟩
theorem q_forC2 {σ : L2.St} {H : Hp} {ta : TA} {args dvs : List V} {sp : Sp} {E : XK} {g : TG} {tu tz : TS} {D : Ends} (h : EvA ta σ H args) (k : ∀ H1, Ex H H1 → sp (args ++ dvs) H1 (fun x H2 => tSeq (tFor (iList K (tC x)) g tu) tz D σ H2) E) : tSeq (tFor (iList K (tCall sp dvs E ta)) g tu) tz D σ H := h H (Ex.refl H) _ fun H1 e => k H1 e
def sp_sig : Sp := fun vs H Q _ => ∃ (c : Int) (n D : Nat) (sh : Int), vs = [.int c, .int (n : Int), .int (D : Int), .int sh] ∧ n ≤ 64 ∧ 4 ≤ D ∧ D ≤ 33 ∧ ∀ r (xs : List Int) H', H r = none → Ex H H' → H' r = some (.lst (xs.map V.int)) → xs.length = n → (∀ x ∈ xs, -(2 ^ (D - 1)) ≤ x ∧ x < 2 ^ (D - 1)) → Q (.ref r) H'
theorem ok_law_signal (T : TX K mg) : FnOk P w K mg base CX0 2 T.a_law_signal T.d_law_signal ["cell", "count", "depth", "shape"] sp_sig := by
  refine T.F_law_signal.ok sc_law_signal (fun vs H Q E h => by obtain ⟨c, n, D, sh, rfl, _⟩ := h; rfl) (fun cdv A outer s0 H vs Q E hr h => ?_)
  obtain ⟨c, n, D, sh, rfl, hn, hD4, hD, k⟩ := h
  refine ⟨_, (pss_cons (ps_set (i := 4) sc_law_signal.nd rfl (Or.inr rfl) (pe_op op_shl pe_int (pe_op op_sub (pv 2) pe_int)))
      (pss_cons (ps_if (pt_cmpR op_eq (pv 3) pe_int (nomark _)) (pss_one (ps_ret (pe_op op_rep (pe_lst (pa_cons (pe_op op_sub (pe_op op_mod (pe_callTy call_int1 (by rfl) T.m_int PyProof.Rows.boot_int (pa_cons (pv 0) pa_nil)) (pe_op op_mul pe_int (pv 4))) (pv 4)) pa_nil)) (pv 1)))) pss_nil)
      (pss_cons (ps_if (pt_cmpR op_eq (pv 3) pe_int (nomark _)) (pss_cons (ps_set (i := 5) sc_law_signal.nd rfl (Or.inr rfl) (pe_op op_shl pe_int (pe_op op_fdiv (pv 2) pe_int)))
        (pss_one (ps_ret (pe_lc (own := [("x", 6)]) (g := gName 6) (tt := tYes) rfl sc_law_signal.nd (pi_list (pe_call (ok_law_row T) (hr.mono (by decide)) (by rfl) T.g_law_row T.F_law_row.kp T.b_law_row .nil pass0 (pa_cons (pv 0) (pa_cons (pv 1) (pa_cons (pe_op op_fdiv (pe_op op_mul pe_int (pv 4)) (pv 5)) pa_nil))))) (blkOk_by (N := ["cell", "count", "depth", "shape", "half", "step", "x", "samples", "level", "slope"]) (sc := defScope s_law_signal) (by decide +kernel)) (fun _ _ _ _ _ => pg_name (i := 6) sc_law_signal.nd rfl (Or.inl rfl)) (fun _ _ _ _ _ => pts_nil) (fun _ _ _ _ _ => (pe_op op_sub (pe_op op_mul (pv 6) (pv 5)) (pv 4))))))) pss_nil)
      (pss_cons (ps_if (pt_cmpR op_eq (pv 3) pe_int (nomark _)) (pss_one (ps_ret (pe_lc (own := [("x", 6)]) (g := gName 6) (tt := tYes) rfl sc_law_signal.nd (pi_list (pe_call (ok_law_row T) (hr.mono (by decide)) (by rfl) T.g_law_row T.F_law_row.kp T.b_law_row .nil pass0 (pa_cons (pv 0) (pa_cons (pv 1) (pa_cons pe_int pa_nil))))) (blkOk_by (N := ["cell", "count", "depth", "shape", "half", "step", "x", "samples", "level", "slope"]) (sc := defScope s_law_signal) (by decide +kernel)) (fun _ _ _ _ _ => pg_name (i := 6) sc_law_signal.nd rfl (Or.inl rfl)) (fun _ _ _ _ _ => pts_nil) (fun _ _ _ _ _ => (pe_op op_sub (pe_op op_mul (pv 6) (pe_op op_sub (pe_op op_mul pe_int (pv 4)) pe_int)) (pv 4)))))) pss_nil)
      (pss_cons (ps_if (pt_cmpR op_eq (pv 3) pe_int (nomark _)) (pss_one (ps_ret (pe_lc (own := [("x", 6)]) (g := gName 6) (tt := tYes) rfl sc_law_signal.nd (pi_list (pe_call (ok_law_row T) (hr.mono (by decide)) (by rfl) T.g_law_row T.F_law_row.kp T.b_law_row .nil pass0 (pa_cons (pv 0) (pa_cons (pv 1) (pa_cons (pe_op op_mul pe_int (pv 4)) pa_nil))))) (blkOk_by (N := ["cell", "count", "depth", "shape", "half", "step", "x", "samples", "level", "slope"]) (sc := defScope s_law_signal) (by decide +kernel)) (fun _ _ _ _ _ => pg_name (i := 6) sc_law_signal.nd rfl (Or.inl rfl)) (fun _ _ _ _ _ => pts_nil) (fun _ _ _ _ _ => (pe_op op_sub (pv 6) (pv 4)))))) pss_nil)
      (pss_cons (ps_set (i := 7) sc_law_signal.nd rfl (Or.inl rfl) (pe_lst pa_nil))
      (pss_cons (ps_set (i := 8) sc_law_signal.nd rfl (Or.inl rfl) pe_int)
      (pss_cons (ps_set (i := 9) sc_law_signal.nd rfl (Or.inl rfl) pe_int)
      (pss_cons (ps_for PassesOwn.never rfl (pi_list (pe_call (ok_law_row T) (hr.mono (by decide)) (by rfl) T.g_law_row T.F_law_row.kp T.b_law_row .nil pass0 (pa_cons (pv 0) (pa_cons (pv 1) (pa_cons pe_int pa_nil))))) (pg_name (i := 6) sc_law_signal.nd rfl (Or.inl rfl)) (pss_cons (ps_set (i := 9) sc_law_signal.nd rfl (Or.inl rfl) (pe_op op_sub (pe_op op_add (pe_op op_mul (pv 9) (pe_callTy call_int1 (by rfl) T.m_int PyProof.Rows.boot_int (pa_cons (pe_cmpR op_eq (pv 3) pe_int (nomark _)) pa_nil))) (pv 6)) pe_int))
        (pss_cons (ps_set (i := 8) sc_law_signal.nd rfl (Or.inl rfl) (pe_op op_sub (pe_op op_mod (pe_callTy call_int1 (by rfl) T.m_int PyProof.Rows.boot_int (pa_cons (pe_op op_add (pe_op op_add (pv 8) (pv 9)) (pv 4)) pa_nil)) (pe_op op_mul pe_int (pv 4))) (pv 4)))
        (pss_one (ps_expr (pe_bm PySem.F.plainAttrs_list PySem.F.slot_list_append PySem.F.type_list_append mt_append (pv 7) (pa_cons (pv 8) pa_nil)))))))
      (pss_one (ps_ret (pv 7)))))))))))), ?_⟩
  obtain ⟨hf, hhf⟩ : ∃ hf : Int, (2 : Int) ^ (D - 1) = hf := ⟨_, rfl⟩
  have hfn : ((2 ^ (D - 1) : Nat) : Int) = hf := by rw [← hhf]; exact Int.natCast_pow 2 _
  have hf0 : 0 < 2 ^ (D - 1) := Nat.two_pow_pos _
  have hf9 : 2 ^ (D - 1) ≤ 2 ^ 32 := Nat.pow_le_pow_right (by decide) (by omega)
  have hf1 : 0 < hf := by omega
  have hf2 : hf ≤ 2 ^ 32 := by omega
  rw [hhf] at k
  clear hf0 hf9 hfn
  refine q_asg (v := .int hf) (Ev.is (SH.ev_shl1 (j := D - 1) (Ev.is (ev_I0 (g := fun i j => .int (i - j)) (ev_var rfl) ev_c) (congrArg V.int (by omega))) (by omega)) (congrArg V.int (by rw [Int.toNat_natCast, Int.one_mul, hhf]))) fun H1 e1 => ?_
  have kq : ∀ {σ : L2.St} {G : Hp} (m : Int), σ[3]? = some (some (.int sh)) → EvT (tTest (tOp rEq (tVar 3) (tC (.int m)))) σ G (decide (V.int sh = V.int m)) := fun m h => et_test (ev_eq (ev_var h) ev_c rfl)
  refine q_when (kq 2 rfl) (fun _ H2 e2 => ?_) (fun _ H2 e2 => ?_)
  · refine s_retL (xs := (List.replicate n (c % (2 * hf) - hf)).map V.int) (EvL.is (el_rep (xs := [V.int (c % (2 * hf) - hf)]) (k := (n : Int)) (EvL.r (el_lst (ea_cons (ev_I0 (g := fun i j => .int (i - j)) (ev_I (ev_int1 (ev_var rfl)) (ev_I ev_c (ev_var rfl) (.inl (by decide))) (by omega)) (ev_var rfl)) ea_nil) (show 1 ≤ 100000 by decide))) (ev_var rfl) (by omega) (by rw [Int.toNat_natCast]; show 1 * n ≤ _; omega)) (by rw [Int.toNat_natCast, List.flatten_replicate_singleton, List.map_replicate])) fun r H3 hr e3 g3 => k r _ H3 (fresh_back (e1.trans e2) hr) (e1.trans (e2.trans e3)) g3 (List.length_replicate ..) fun x hx => ?_
    rw [List.eq_of_mem_replicate hx]
    have a1 := Int.emod_nonneg c (show 2 * hf ≠ 0 by omega)
    have a2 := Int.emod_lt_of_pos c (show 0 < 2 * hf by omega)
    omega
  have e12 := e1.trans e2
  refine q_when (kq 4 rfl) (fun _ H3 e3 => ?_) (fun _ H3 e3 => ?_)
  · obtain ⟨st, hst⟩ : ∃ st : Int, (2 : Int) ^ (D / 2) = st := ⟨_, rfl⟩
    have hsn : ((2 ^ (D / 2) : Nat) : Int) = st := by rw [← hst]; exact Int.natCast_pow 2 _
    have hs0 : 0 < 2 ^ (D / 2) := Nat.two_pow_pos _
    have hs9 : 2 ^ (D / 2) ≤ 2 ^ 16 := Nat.pow_le_pow_right (by decide) (by omega)
    have hs1 : 0 < st := by omega
    have hs2 : st ≤ 2 ^ 16 := by omega
    have hsf : st ≤ 2 * hf := by
      rw [← hst, ← hhf, ← Int.pow_succ']
      have : 2 ^ (D / 2) ≤ 2 ^ (D - 1 + 1) := Nat.pow_le_pow_right (by decide) (by omega)
      have h2 : ((2 ^ (D / 2) : Nat) : Int) ≤ ((2 ^ (D - 1 + 1) : Nat) : Int) := Int.ofNat_le.mpr this
      rwa [Int.natCast_pow, Int.natCast_pow] at h2
    have hq0 : 0 < 2 * hf / st := by have := (Int.le_ediv_iff_mul_le (a := 1) (b := 2 * hf) hs1).mpr (by omega); omega
    have hq1 : 2 * hf / st ≤ 2 * hf := Int.ediv_le_self _ (by omega)
    have hq2 : 2 * hf / st * st ≤ 2 * hf := Int.ediv_mul_le _ (by omega)
    generalize hqe : 2 * hf / st = qd at *
    refine q_asg (v := .int st) (Ev.is (SH.ev_shl1 (j := D / 2) (Ev.is (ev_I (ev_var rfl) ev_c ⟨by decide, by decide⟩) (congrArg V.int (by omega))) (by omega)) (congrArg V.int (by rw [Int.toNat_natCast, Int.one_mul, hst]))) fun H4 e4 => ?_
    refine s_sigLC (n := n) (c := c) (bd := qd) (f := fun x => x * st - hf) (ea_cons (ev_var rfl) (ea_cons (ev_var rfl) (ea_cons (Ev.is (ev_I (ev_I ev_c (ev_var rfl) (.inl (by decide))) (ev_var rfl) ⟨by omega, by omega⟩) (congrArg V.int hqe)) ea_nil))) (by omega) hq0 (by omega) (fun _ => rfl) (fun x G h0 h1 eG => ev_I0 (g := fun i j => .int (i - j)) (ev_I (ev_var rfl) (ev_var rfl) (.inl (by omega))) (ev_var rfl)) fun r ns H5 hr e5 g5 hl hx => k r _ H5 (fresh_back (e12.trans (e3.trans e4)) hr) (e12.trans (e3.trans (e4.trans e5))) g5 (by rw [List.length_map]; exact hl) fun y hy => ?_
    obtain ⟨x, hxm, rfl⟩ := List.mem_map.mp hy
    obtain ⟨h0, h1⟩ := hx x hxm
    have b1 : 0 ≤ x * st := Int.mul_nonneg h0 (by omega)
    have b2 : (x + 1) * st ≤ qd * st := Int.mul_le_mul_of_nonneg_right (by omega) (by omega)
    rw [Int.add_mul, Int.one_mul] at b2
    omega
  have e13 := e12.trans e3
  refine q_when (kq 5 rfl) (fun _ H4 e4 => ?_) (fun _ H4 e4 => ?_)
  · refine s_sigLC (n := n) (c := c) (bd := 2) (f := fun x => x * (2 * hf - 1) - hf) (ea_cons (ev_var rfl) (ea_cons (ev_var rfl) (ea_cons ev_c ea_nil))) (by omega) (by decide) (by decide) (fun _ => rfl) (fun x G h0 h1 eG => ev_I0 (g := fun i j => .int (i - j)) (ev_I (ev_var rfl) (ev_I0 (g := fun i j => .int (i - j)) (ev_I ev_c (ev_var rfl) (.inl (by decide))) ev_c) (.inl (by omega))) (ev_var rfl)) fun r ns H5 hr e5 g5 hl hx => k r _ H5 (fresh_back (e13.trans e4) hr) (e13.trans (e4.trans e5)) g5 (by rw [List.length_map]; exact hl) fun y hy => ?_
    obtain ⟨x, hxm, rfl⟩ := List.mem_map.mp hy
    have h0 := hx x hxm
    rcases (show x = 0 ∨ x = 1 by omega) with rfl | rfl
    · omega
    · omega
  have e14 := e13.trans e4
  refine q_when (kq 0 rfl) (fun _ H5 e5 => ?_) (fun _ H5 e5 => ?_)
  · refine s_sigLC (n := n) (c := c) (bd := 2 * hf) (f := fun x => x - hf) (ea_cons (ev_var rfl) (ea_cons (ev_var rfl) (ea_cons (ev_I ev_c (ev_var rfl) (.inl (by decide))) ea_nil))) (by omega) (by omega) (by omega) (fun _ => rfl) (fun x G h0 h1 eG => ev_I0 (g := fun i j => .int (i - j)) (ev_var rfl) (ev_var rfl)) fun r ns H6 hr e6 g6 hl hx => k r _ H6 (fresh_back (e14.trans e5) hr) (e14.trans (e5.trans e6)) g6 (by rw [List.length_map]; exact hl) fun y hy => ?_
    obtain ⟨x, hxm, rfl⟩ := List.mem_map.mp hy
    have h0 := hx x hxm
    omega
  have e15 := e14.trans e5
  refine q_asgL (xs := []) (el_lst ea_nil (by decide)) fun L H6 hL e6 g6 => ?_
  refine q_asg (v := .int 0) ev_c fun H7 e7 => ?_
  refine q_asg (v := .int 0) ev_c fun H8 e8 => ?_
  refine q_forC2 (ea_cons (ev_var rfl) (ea_cons (ev_var rfl) (ea_cons ev_c ea_nil))) fun H9 e9 => ⟨c, n, 5, rfl, by omega, by decide, by decide, fun p ns H10 hp e10 g10 hl hx => ?_⟩
  have e610 := e7.trans (e8.trans (e9.trans e10))
  have hLp : L ≠ p := by rintro rfl; rw [(e7.trans (e8.trans e9)) _ _ g6] at hp; cases hp
  refine q_forLn (K := K) (a := p) ev_c (sq_of g10) (fun i σ' H' => ∃ (xs : List Int) (lv sl : Int) (z5 z6 : Option V), σ' = [some (.int c), some (.int (n : Int)), some (.int (D : Int)), some (.int sh), some (.int hf), z5, z6, some (.ref L), some (.int lv), some (.int sl)] ∧ Ex H5 H' ∧ H' L = some (.lst (xs.map V.int)) ∧ H' p = some (.lst (ns.map V.int)) ∧ xs.length = i ∧ ∀ x ∈ xs, -hf ≤ x ∧ x < hf) (fun G eG => ⟨[], 0, 0, none, none, rfl, e6.trans (e610.trans eG), (e610.trans eG) _ _ g6, eG _ _ g10, rfl, fun x hx => by cases hx⟩) (fun i σ' H' _ h => by obtain ⟨_, _, _, _, _, _, _, _, g, _⟩ := h; exact sq_of g) ?_ ?_
  · rintro i x σ' H' hx' ⟨xs, lv, sl, z5, z6, rfl, ex, gx, gp, hxl, hxb⟩
    obtain ⟨v, hv, hi, rfl⟩ := int_at hx'
    have hvb := hx v (List.mem_of_getElem? hv)
    obtain ⟨s2, hs2⟩ : ∃ s2, sl * (if decide (V.int sh = V.int 3) = true then 1 else 0) + v - 2 = s2 := ⟨_, rfl⟩
    refine q_asg (v := .int s2) (Ev.is (ev_I0 (g := fun i j => .int (i - j)) (ev_I0 (g := fun i j => .int (i + j)) (ev_I (ev_var rfl) (ev_intB (ev_eq (ev_var rfl) ev_c rfl)) (.inr (by split <;> decide))) (ev_var rfl)) ev_c) (congrArg V.int hs2)) fun G1 f1 => ?_
    obtain ⟨l2, hl2⟩ : ∃ l2, (lv + s2 + hf) % (2 * hf) - hf = l2 := ⟨_, rfl⟩
    have hl2b : -hf ≤ l2 ∧ l2 < hf := by
      have a1 := Int.emod_nonneg (lv + s2 + hf) (show 2 * hf ≠ 0 by omega)
      have a2 := Int.emod_lt_of_pos (lv + s2 + hf) (show 0 < 2 * hf by omega)
      omega
    refine q_asg (v := .int l2) (Ev.is (ev_I0 (g := fun i j => .int (i - j)) (ev_I (ev_int1 (ev_I0 (g := fun i j => .int (i + j)) (ev_I0 (g := fun i j => .int (i + j)) (ev_var rfl) (ev_var rfl)) (ev_var rfl))) (ev_I ev_c (ev_var rfl) (.inl (by decide))) (by omega)) (ev_var rfl)) (congrArg V.int hl2)) fun G2 f2 => ?_
    refine s_app (v := .int l2) ((f1.trans f2) _ _ gx) (ev_var rfl) (ev_var rfl) (by rw [List.length_map]; omega) fun G3 f3 => ?_
    have f13 := f1.trans (f2.trans f3)
    refine ⟨xs ++ [l2], l2, s2, _, _, rfl, Ex.mut (ex.trans f13) hL, by rw [upd_same, List.map_append]; rfl, by rw [upd_ne hLp.symm]; exact f13 _ _ gp, by rw [List.length_append, hxl]; rfl, fun y hy => ?_⟩
    rcases List.mem_append.mp hy with h | h
    · exact hxb y h
    · rw [List.mem_singleton.mp h]
      exact hl2b
  · rintro σ' H' ⟨xs, lv, sl, z5, z6, rfl, ex, gx, gp, hxl, hxb⟩
    rw [List.length_map, hl] at hxl
    exact s_ret (ev_var rfl) fun G eG => k L xs G (fresh_back e15 hL) (e15.trans (ex.trans eG)) (eG _ _ gx) hxl hxb

theorem s_retKN2 {σ : L2.St} {H : Hp} {te : TE} {R : Addr → Hp → Prop} {D : Ends} (h : EvN te σ H R) (k : ∀ q H', Ex H H' → R q H' → D.rt (.ref q) H') : tRet te D σ H := h H (Ex.refl H) _ fun p H1 _ e hR => k p H1 e hR
def sp_lsets (CT : Addr) : Sp := fun vs H Q _ => ∃ (c sz : Int) (L : Nat), vs = [.int c, .int sz, .int (L : Int)] ∧ ∀ q H' fo lin se p hi wd sr ws, Ex H H' → SetG CT H' q fo lin se p hi wd sr ws → fo ≤ 4 → lin ≤ L → 5 ≤ p → p ≤ 15 → hi ≤ 3 → Q (.ref q) H'
theorem ok_law_settings (T : TX K mg) : FnOk P w K mg base CX0 3 T.a_law_settings T.d_law_settings ["cell", "size", "linear"] (sp_lsets T.C_Settings) := by
  refine T.F_law_settings.ok sc_law_settings (fun vs H Q E h => by obtain ⟨c, sz, L, rfl, _⟩ := h; rfl) (fun cdv A outer s0 H vs Q E hr h => ?_)
  obtain ⟨c, sz, L, rfl, k⟩ := h
  refine ⟨_, (pss_cons (ps_set (i := 3) sc_law_settings.nd rfl (Or.inl rfl) (pe_callB call_abs (by rfl) T.m_abs PyProof.Rows.boot_abs (pa_cons (pe_callTy call_int1 (by rfl) T.m_int PyProof.Rows.boot_int (pa_cons (pv 0) pa_nil)) pa_nil)))
      (pss_cons (ps_set (i := 4) sc_law_settings.nd rfl (Or.inl rfl) (pe_op op_mod (pv 3) pe_int))
      (pss_cons (ps_set (i := 5) sc_law_settings.nd rfl (Or.inl rfl) (pe_op op_mod (pe_op op_fdiv (pv 3) pe_int) (pe_op op_add (pv 2) pe_int)))
      (pss_cons (ps_set (i := 6) sc_law_settings.nd rfl (Or.inl rfl) (pe_cmpR op_eq (pe_op op_mod (pe_op op_fdiv (pv 3) pe_int) pe_int) pe_int (nomark _)))
      (pss_cons (ps_set (i := 7) sc_law_settings.nd rfl (Or.inl rfl) (pe_op op_add pe_int (pe_op op_mod (pe_op op_fdiv (pv 3) pe_int) pe_int)))
      (pss_cons (ps_set (i := 8) sc_law_settings.nd rfl (Or.inl rfl) (pe_op op_mod (pe_op op_fdiv (pv 3) pe_int) pe_int))
      (pss_cons (ps_set (i := 9) sc_law_settings.nd rfl (Or.inl rfl) (pe_cmpR op_eq (pe_op op_mod (pe_op op_fdiv (pv 3) pe_int) pe_int) pe_int (nomark _)))
      (pss_cons (ps_set (i := 10) sc_law_settings.nd rfl (Or.inl rfl) (pe_cmpR op_ne (pe_op op_mod (pe_op op_fdiv (pv 3) pe_int) pe_int) pe_int (nomark _)))
      (pss_cons (ps_set (i := 11) sc_law_settings.nd rfl (Or.inl rfl) (pe_cmpR op_ne (pe_op op_mod (pe_op op_fdiv (pv 3) pe_int) pe_int) pe_int (nomark _)))
      (pss_one (ps_ret (pe_makeK T.M_Settings (ok_Settings_init T) (hr.mono (by decide)) (by rfl) T.g_Settings T.k2_fixed_order_linear_order_search_precision_partition_order_wide_stereo_wasted_Settings_init pass0 (pa_cons (pv 1) pa_nil) (pk_cons (pv 4) (pk_cons (pv 5) (pk_cons (pv 6) (pk_cons (pv 7) (pk_cons (pv 8) (pk_cons (pv 9) (pk_cons (pv 10) (pk_cons (pv 11) pk_nil)))))))))))))))))))), ?_⟩
  obtain ⟨re, hre⟩ : ∃ re : Int, (if c < 0 then -c else c) = re := ⟨_, rfl⟩
  have md : ∀ {σ : L2.St} {G : Hp} {t : TE} {x m : Int}, 0 < m → Ev t σ G (.int x) → Ev (tOp (rI (fun _ j => 0 < j) fun i j => .int (i % j)) t (tC (.int m))) σ G (.int (x % m)) := fun hm h => ev_I h ev_c hm
  have dv : ∀ {σ : L2.St} {G : Hp} {m : Int}, 0 < m → m < 1073741824 → σ[3]? = some (some (.int re)) → Ev (tOp (rI CDiv fun i j => .int (i / j)) (tVar 3) (tC (.int m))) σ G (.int (re / m)) := fun h1 h2 h => ev_I (ev_var h) ev_c ⟨h1, h2⟩
  refine q_asg (v := .int re) (Ev.is (ev_abs (ev_int1 (ev_var rfl))) (congrArg V.int hre)) fun H1 e1 => ?_
  obtain ⟨fo, hfo⟩ : ∃ fo : Nat, re % 5 = (fo : Int) := ⟨(re % 5).toNat, by omega⟩
  refine q_asg (v := .int (fo : Int)) (Ev.is (md (by decide) (ev_var rfl)) (congrArg V.int hfo)) fun H2 e2 => ?_
  obtain ⟨lin, hlin⟩ : ∃ lin : Nat, re / 5 % ((L : Int) + 1) = (lin : Int) := ⟨(re / 5 % ((L : Int) + 1)).toNat, by have := Int.emod_nonneg (re / 5) (show (L : Int) + 1 ≠ 0 by omega); omega⟩
  have hlinL : lin ≤ L := by have := Int.emod_lt_of_pos (re / 5) (show 0 < (L : Int) + 1 by omega); omega
  refine q_asg (v := .int (lin : Int)) (Ev.is (ev_I (dv (by decide) (by decide) rfl) (ev_I0 (g := fun i j => .int (i + j)) (ev_var rfl) ev_c) (by omega)) (congrArg V.int hlin)) fun H3 e3 => ?_
  obtain ⟨se, hse⟩ : ∃ se : Bool, decide (V.int (re / 35 % 2) = V.int 1) = se := ⟨_, rfl⟩
  refine q_asg (v := .bl se) (Ev.is (ev_eq (md (by decide) (dv (by decide) (by decide) rfl)) ev_c rfl) (congrArg V.bl hse)) fun H4 e4 => ?_
  obtain ⟨p, hp⟩ : ∃ p : Nat, 5 + re / 70 % 11 = (p : Int) := ⟨(5 + re / 70 % 11).toNat, by omega⟩
  refine q_asg (v := .int (p : Int)) (Ev.is (ev_I0 (g := fun i j => .int (i + j)) ev_c (md (by decide) (dv (by decide) (by decide) rfl))) (congrArg V.int hp)) fun H5 e5 => ?_
  obtain ⟨hi, hhi⟩ : ∃ hi : Nat, re / 770 % 4 = (hi : Int) := ⟨(re / 770 % 4).toNat, by omega⟩
  refine q_asg (v := .int (hi : Int)) (Ev.is (md (by decide) (dv (by decide) (by decide) rfl)) (congrArg V.int hhi)) fun H6 e6 => ?_
  obtain ⟨wd, hwd⟩ : ∃ wd : Bool, decide (V.int (re / 3080 % 2) = V.int 1) = wd := ⟨_, rfl⟩
  show tSeq _ _ _ [some (.int c), some (.int sz), some (.int (L : Int)), some (.int re), some (.int (fo : Int)), some (.int (lin : Int)), some (.bl se), some (.int (p : Int)), some (.int (hi : Int)), none, none, none] _
  refine q_asg (v := .bl wd) (Ev.is (ev_eq (md (by decide) (dv (by decide) (by decide) rfl)) ev_c rfl) (congrArg V.bl hwd)) fun H7 e7 => ?_
  obtain ⟨sr, hsr⟩ : ∃ sr : Bool, (!decide (V.int (re / 6160 % 3) = V.int 1)) = sr := ⟨_, rfl⟩
  refine q_asg (v := .bl sr) (Ev.is (ev_ne (md (by decide) (dv (by decide) (by decide) rfl)) ev_c rfl) (congrArg V.bl hsr)) fun H8 e8 => ?_
  obtain ⟨ws, hws⟩ : ∃ ws : Bool, (!decide (V.int (re / 18480 % 3) = V.int 1)) = ws := ⟨_, rfl⟩
  refine q_asg (v := .bl ws) (Ev.is (ev_ne (md (by decide) (dv (by decide) (by decide) rfl)) ev_c rfl) (congrArg V.bl hws)) fun H9 e9 => ?_
  have e19 := e1.trans (e2.trans (e3.trans (e4.trans (e5.trans (e6.trans (e7.trans (e8.trans e9)))))))
  refine s_retKN2 (R := fun q H' => SetG T.C_Settings H' q fo lin se p hi wd sr ws) (en_makeKF (vs := [.int sz]) (zs := [.int (fo : Int), .int (lin : Int), .bl se, .int (p : Int), .int (hi : Int), .bl wd, .bl sr, .bl ws]) (ea_cons (ev_var rfl) ea_nil) (ea_cons (ev_var rfl) (ea_cons (ev_var rfl) (ea_cons (ev_var rfl) (ea_cons (ev_var rfl) (ea_cons (ev_var rfl) (ea_cons (ev_var rfl) (ea_cons (ev_var rfl) (ea_cons (ev_var rfl) ea_nil)))))))) rfl rfl fun a dx G Q' E' eG hn hG k' => ?_) fun q H' e hQ => k q H' fo lin se p hi wd sr ws (e19.trans e) hQ (by omega) hlinL (by omega) (by omega) (by omega)
  exact ⟨a, dx, _, _, _, _, _, _, _, _, _, _, _, _, none, rfl, hG, rfl, fun H' v hF hA hN => k' H' hF ⟨dx, _, v, _, _, hA⟩⟩

theorem CdR.mem {w : Int} {lo hi M : Nat} : ∀ {l : List Cd} {es : List En}, CdR w lo hi M l es → ∀ e ∈ es, ∃ d ∈ l, inB d.vs = true ∧ ∃ x, BestQ d.vs d.o hi M x ∧ e.2 = (d.bits w lo x, d.mk' x)
  | [], es, h, e, he => by rw [show es = [] from h] at he; cases he
  | d :: r, es, h, e, he => by
    obtain ⟨es', g1, g2⟩ := h
    split at g2
    · rename_i hb
      obtain ⟨x, t, hx, rfl⟩ := g2
      rcases List.mem_cons.mp he with rfl | he
      · exact ⟨d, List.mem_cons_self .., hb, x, hx, rfl⟩
      · obtain ⟨d', h1, h2⟩ := CdR.mem g1 e he
        exact ⟨d', List.mem_cons_of_mem _ h1, h2⟩
    · rw [g2] at he
      obtain ⟨d', h1, h2⟩ := CdR.mem g1 e he
      exact ⟨d', List.mem_cons_of_mem _ h1, h2⟩
theorem CdR.has {w : Int} {lo hi M : Nat} : ∀ {l : List Cd} {es : List En}, CdR w lo hi M l es → ∀ d ∈ l, inB d.vs = true → ∃ x t, BestQ d.vs d.o hi M x ∧ (t, d.bits w lo x, d.mk' x) ∈ es
  | [], es, h, d, hd, _ => by cases hd
  | c :: r, es, h, d, hd, hb => by
    obtain ⟨es', g1, g2⟩ := h
    rcases List.mem_cons.mp hd with rfl | hd
    · rw [if_pos hb] at g2
      obtain ⟨x, t, hx, rfl⟩ := g2
      exact ⟨x, t, hx, List.mem_cons_self ..⟩
    · obtain ⟨x, t, h1, h2⟩ := CdR.has g1 d hd hb
      split at g2
      · obtain ⟨y, t', _, rfl⟩ := g2
        exact ⟨x, t, h1, List.mem_cons_of_mem _ h2⟩
      · rw [g2]
        exact ⟨x, t, h1, h2⟩
theorem pk_le : ∀ (es : List En) (s : En), (es.foldl pk s).2.1 ≤ s.2.1 ∧ ∀ e ∈ es, (es.foldl pk s).2.1 ≤ e.2.1
  | [], s => ⟨Int.le_refl _, fun e he => by cases he⟩
  | c :: es, s => by
    obtain ⟨h1, h2⟩ := pk_le es (pk s c)
    have h3 : (pk s c).2.1 ≤ s.2.1 ∧ (pk s c).2.1 ≤ c.2.1 := by unfold pk; split <;> omega
    show (es.foldl pk (pk s c)).2.1 ≤ s.2.1 ∧ ∀ e ∈ c :: es, (es.foldl pk (pk s c)).2.1 ≤ e.2.1
    refine ⟨by omega, fun e he => ?_⟩
    rcases List.mem_cons.mp he with rfl | he
    · omega
    · exact h2 e he
theorem pRow_fit {c : Nat → Int} {p k s : Nat} (hpd : PD c) (hp : 1 ≤ p) (h : pq c p k = some s) : s < 16 ∧ ∀ x ∈ pRow c k s, fitR p x = true := by
  obtain ⟨h1, h2⟩ := pick_le h
  refine ⟨h2, fun x hx => ?_⟩
  have hD : 0 < Dn c (k + 1) := (DT.lev_all hpd (k + 1)).1
  obtain ⟨t1, t2⟩ := size_top (ns := lf (k + 1) (Un c (k + 1))) (b := Dn c (k + 1)) s hD (by rw [lf_len]; omega)
  have h3 := t2 (absI x) (List.mem_map_of_mem hx)
  unfold fitR
  have e : ((2 ^ (p - 1) : Nat) : Int) = 2 ^ (p - 1) := Int.natCast_pow 2 _
  rw [if_neg (by omega), Bool.and_eq_true, decide_eq_true_iff, decide_eq_true_iff, e]
  unfold absI at h3
  split at h3 <;> omega
structure okC (k : Kd) (d : Cd) (vl : List Int) : Prop where
  kd : d.kd = kdS k
  fx : k = .fix → d.o ≤ 4 ∧ d.pr = 0 ∧ d.sh = 0 ∧ d.cs = [] ∧ d.vs = FX.diffsN d.o vl ∧ d.ex = 0
  ln : k = .lin → d.o = d.cs.length ∧ 1 ≤ d.o ∧ d.o ≤ 32 ∧ 1 ≤ d.pr ∧ d.pr ≤ 15 ∧ d.sh ≤ 15 ∧ (∀ c ∈ d.cs, fitR d.pr c = true) ∧ d.vs = lres d.cs d.sh vl ∧ d.ex = 9 + (d.o : Int) * (d.pr : Int)
  pk : k = .fix ∨ k = .lin
  lt : d.o < vl.length
theorem cands_ok {vl : List Int} {fo lin p : Nat} {se : Bool} (h0 : 0 < vl.length) (hfo : fo ≤ 4) (hlin : lin ≤ 32) (hp1 : 1 ≤ p) (hp2 : p ≤ 15) : ∀ d ∈ cands vl fo lin se p, ∃ k, okC k d vl := fun d hd => by
  unfold cands at hd
  rcases List.mem_append.mp hd with hd | hd
  · obtain ⟨i, hi, rfl⟩ := List.mem_map.mp hd
    have hi := List.mem_range.mp hi
    refine ⟨.fix, rfl, fun _ => ⟨?_, rfl, rfl, rfl, rfl, rfl⟩, (fun h => by cases h), .inl rfl, ?_⟩
    · show i ≤ 4
      omega
    · show i < vl.length
      omega
  · obtain ⟨o, ho, hc⟩ := List.mem_filterMap.mp hd
    obtain ⟨o1, o2, o3⟩ := ordsL_ok o ho
    unfold cdL at hc
    split at hc
    · cases hc
    · rename_i s hs
      obtain rfl := Option.some.inj hc
      unfold pqz at hs
      split at hs
      · cases hs
      · rename_i hc0
        obtain ⟨h1, h2⟩ := pRow_fit (lag_pd hc0) hp1 hs
        have hl := pRow_len (lagS (wgt vl)) (o - 1) s
        refine ⟨.lin, rfl, (fun h => by cases h), fun _ => ⟨?_, o1, ?_, hp1, hp2, ?_, h2, rfl, rfl⟩, .inr rfl, o2⟩
        · show o = (pRow (lagS (wgt vl)) (o - 1) s).length
          omega
        · show o ≤ 32
          omega
        · show s ≤ 15
          omega

end BS
-- LAWB
/-! ### the best subframe as a subframe -/
open BS
def sfD (k : Kd) (d : BS.Cd) (lo m p : Nat) : Sf := ⟨k, d.o, d.pr, d.sh, d.cs, m, p, cdsE d.vs d.o m p, lo⟩
def sfV (k : Kd) (lo : Nat) : Sf := ⟨k, 0, 0, 0, [], 0, 0, [], lo⟩
theorem sf_cand {C p : Addr} {H : Hp} {k : Kd} {d : BS.Cd} {lo m q : Nat} (h : SbAt K C H p (d.mk' (qdF d.vs d.o m q)) lo) (hk : d.kd = kdS k) (hp : prd k = true) : SfAt K C H p (sfD k d lo m q) := by
  obtain ⟨dx, e, pl, h1, h2, t1, tc, rs, rfl, g1, g2, g3⟩ := h
  obtain ⟨qs, hq⟩ := cods_cds g2 g3
  refine ⟨dx, e, .ref t1, ?_, h2, ?_⟩
  · show H p = some (.ins C dx (fsS (.str (kdS k)) _ _ _ _ _ _))
    rw [← hk]
    exact h1
  · unfold PlAt
    rw [if_pos (show prd (sfD k d lo m q).kd = true from hp)]
    exact ⟨t1, tc, qs, rfl, g1, hq⟩
theorem sf_con {C p : Addr} {H : Hp} {lo : Nat} (h : SbAt K C H p conC lo) : SfAt K C H p (sfV .con lo) := by
  obtain ⟨dx, e, pl, h1, h2, h3⟩ := h
  exact ⟨dx, e, pl, h1, h2, h3⟩
theorem sf_ver {C p : Addr} {H : Hp} {lo : Nat} (h : SbAt K C H p verC lo) : SfAt K C H p (sfV .ver lo) := by
  obtain ⟨dx, e, pl, h1, h2, h3⟩ := h
  exact ⟨dx, e, pl, h1, h2, h3⟩
theorem BS.okC.all {k : Kd} {d : BS.Cd} {vl : List Int} (h : okC k d vl) (lo m p : Nat) : prd k = true ∧ ordS (sfD k d lo m p) = d.o ∧ resS (sfD k d lo m p) vl = d.vs ∧ d.vs.length + d.o = vl.length := by
  have hlt := h.lt
  rcases h.pk with rfl | rfl
  · obtain ⟨h1, h2, h3, h4, h5, h6⟩ := h.fx rfl
    refine ⟨rfl, rfl, ?_, ?_⟩
    · rw [h5]; rfl
    · rw [h5, FX.diffsN_len]; omega
  · obtain ⟨h1, h2, h3, h4, h5, h6, h7, h8, h9⟩ := h.ln rfl
    refine ⟨rfl, ?_, ?_, ?_⟩
    · rw [h1]; rfl
    · rw [h8]; rfl
    · rw [h8, lres_len]; omega
theorem sfB_cand {k : Kd} {d : BS.Cd} {xs : List Int} {D lo m p : Nat} (hk : okC k d (vlW xs lo)) (hlo : lo ≤ D) (hleg : LegP (d.vs.length + d.o) d.o p) : ((sfB D (sfD k d lo m p) xs).length : Int) = d.bits ((D : Int) - (lo : Int)) lo (qdF d.vs d.o m p) := by
  obtain ⟨a1, a2, a3, a4⟩ := hk.all lo m p
  have hvl : (vlW xs lo).length = xs.length := List.length_map ..
  have hlt := hk.lt
  have h := sfB_prd_len (D := D) (s := sfD k d lo m p) (xs := xs) a1 (by rw [a2]; omega)
  have ht : (qdF d.vs d.o m p).b = _ := tot_bits (ns := d.vs) (g := d.o) (m := m) (p := p) (Nat.le_of_lt hleg.2)
  rw [h, a2, show resS (sfD k d lo m p) (vls (sfD k d lo m p) xs) = d.vs from a3]
  have hli : ((linB (sfD k d lo m p)).length : Int) = d.ex := by
    rcases hk.pk with rfl | rfl
    · rw [(hk.fx rfl).2.2.2.2.2]; rfl
    · obtain ⟨h1, h2, h3, h4, h5, h6, h7, h8, h9⟩ := hk.ln rfl
      rw [h9]
      unfold linB
      rw [if_pos (show (sfD Kd.lin d lo m p).kd = .lin from rfl), List.length_append, List.length_append, bitsN_len, sgB_len, sgs_len]
      show ((4 + 5 + d.cs.length * d.pr : Nat) : Int) = _
      rw [← h1, Int.natCast_add, Int.natCast_mul]
      omega
  unfold BS.Cd.bits
  rw [ht, a4, hvl]
  show ((8 + lo + (d.o * (D - lo) + (linB (sfD k d lo m p)).length + rbits m (cdsE d.vs d.o m p) d.vs d.o (xs.length / 2 ^ p) (2 ^ p)) : Nat) : Int) = _
  rw [Int.natCast_add, Int.natCast_add, Int.natCast_add, Int.natCast_add, Int.natCast_mul, hli, Int.natCast_sub hlo]
  generalize (d.o : Int) * ((D : Int) - (lo : Int)) = y
  omega
theorem okSf_cand {k : Kd} {d : BS.Cd} {xs : List Int} {D lo m p : Nat} (hk : okC k d (vlW xs lo)) (hlo : lo < D) (hD : D ≤ 33) (hl : xs.length ≤ 64) (hdv : ∀ x ∈ xs, x % 2 ^ lo = 0) (hft : ∀ v ∈ vlW xs lo, fitR (D - lo) v = true) (hb : inB d.vs = true) (hm : m ≤ 1) (hp : p ≤ 15) (hleg : LegP (d.vs.length + d.o) d.o p) (hbits : d.bits ((D : Int) - (lo : Int)) lo (qdF d.vs d.o m p) ≤ 20000) : okSf D (sfD k d lo m p) xs := by
  obtain ⟨a1, a2, a3, a4⟩ := hk.all lo m p
  have hvl : (vlW xs lo).length = xs.length := List.length_map ..
  have hlt := hk.lt
  have hlen := sfB_cand (m := m) hk (Nat.le_of_lt hlo) hleg
  have h := sfB_prd_len (D := D) (s := sfD k d lo m p) (xs := xs) a1 (by rw [a2]; omega)
  rw [a2, show resS (sfD k d lo m p) (vls (sfD k d lo m p) xs) = d.vs from a3] at h
  have hr : rbits m (cdsE d.vs d.o m p) d.vs d.o ((d.vs.length + d.o) / 2 ^ p) (2 ^ p) ≤ 20000 := by
    rw [a4, hvl]
    have h : (sfB D (sfD k d lo m p) xs).length = 8 + lo + (d.o * (D - lo) + (linB (sfD k d lo m p)).length + rbits m (cdsE d.vs d.o m p) d.vs d.o (xs.length / 2 ^ p) (2 ^ p)) := h
    omega
  have hvs : 0 < d.vs.length := by omega
  have hbv := (inB_iff hvs).mp hb
  refine ⟨hlo, hD, by omega, by omega, hdv, hft, fun h => ?_, fun h => ?_, fun h => ?_, fun h => ?_, fun _ => ?_, by omega⟩
  · rcases hk.pk with rfl | rfl <;> cases h
  · rw [show prd (sfD k d lo m p).kd = true from a1] at h; cases h
  · obtain ⟨h1, h2, h3, h4, _⟩ := hk.fx h
    exact ⟨h1, h2, h3, h4⟩
  · obtain ⟨h1, h2, h3, h4, h5, h6, h7, h8, h9⟩ := hk.ln h
    exact ⟨h1, (by show 1 ≤ d.cs.length; omega), (by show d.cs.length ≤ 32; omega), h4, h5, h6, h7⟩
  · have hv : vls (sfD k d lo m p) xs = vlW xs lo := rfl
    have hl2 : LegP xs.length d.o p := by rw [← hvl, ← a4]; exact hleg
    rw [hv]
    refine ⟨hm, hp, cdsE_len .., ?_, ?_, cdsE_ok hm, ?_⟩
    · rw [hvl]
      exact (Nat.div_mul_cancel (Nat.dvd_of_mod_eq_zero hl2.1)).symm
    · rw [a2, hvl]
      exact hl2.2
    · rw [a2, a3, hvl]
      have h1 := cdsE_valB (m := m) (Nat.le_of_lt hleg.2) hbv hr
      rw [a4, hvl] at h1
      exact h1

theorem fit_div {D lo : Nat} {x : Int} (hlo : lo < D) (h1 : -(2 ^ (D - 1)) ≤ x) (h2 : x < 2 ^ (D - 1)) : fitR (D - lo) (x / 2 ^ lo) = true := by
  unfold fitR
  have e : (2 : Int) ^ (D - 1) = 2 ^ (D - lo - 1) * 2 ^ lo := by rw [← Int.pow_add]; congr 1; omega
  have hp : (0 : Int) < 2 ^ lo := Int.pow_pos (by decide)
  have ec : ((2 ^ (D - lo - 1) : Nat) : Int) = 2 ^ (D - lo - 1) := Int.natCast_pow 2 _
  rw [if_neg (by omega), Bool.and_eq_true, decide_eq_true_iff, decide_eq_true_iff, ec]
  rw [e] at h1 h2
  exact ⟨(Int.le_ediv_iff_mul_le hp).mpr (by rw [Int.neg_mul]; exact h1), Int.ediv_lt_of_lt_mul hp h2⟩
theorem lo_lt {D lo : Nat} {x : Int} (hx : x ≠ 0) (hd : x % 2 ^ lo = 0) (hD : 1 ≤ D) (h1 : -(2 ^ (D - 1)) ≤ x) (h2 : x < 2 ^ (D - 1)) : lo < D := by
  rcases Nat.lt_or_ge lo D with h | h
  · exact h
  · exfalso
    obtain ⟨q, hq⟩ := Int.dvd_of_emod_eq_zero hd
    have hle : (2 : Int) ^ (D - 1) < 2 ^ lo := by
      have := Int.ofNat_lt.mpr (Nat.pow_lt_pow_right (a := 2) (by decide) (show D - 1 < lo by omega))
      rwa [Int.natCast_pow, Int.natCast_pow] at this
    have hq0 : q ≠ 0 := by rintro rfl; rw [Int.mul_zero] at hq; exact hx hq
    generalize (2 : Int) ^ (D - 1) = a at *
    generalize (2 : Int) ^ lo = b at *
    rcases Int.lt_or_gt_of_ne hq0 with hn | hp
    · have := Int.mul_le_mul_of_nonneg_left (show q ≤ -1 by omega) (show 0 ≤ b by omega)
      omega
    · have := Int.mul_le_mul_of_nonneg_left (show 1 ≤ q by omega) (show 0 ≤ b by omega)
      omega
theorem sfV_len {k : Kd} {D lo : Nat} {xs : List Int} : (k = .con → (sfB D (sfV k lo) xs).length = 8 + lo + (D - lo)) ∧ (k = .ver → (sfB D (sfV k lo) xs).length = 8 + lo + xs.length * (D - lo)) := by
  refine ⟨?_, ?_⟩
  · rintro rfl
    rw [sfB_len]
    show 8 + lo + (sgB (D - lo) _).length = _
    rw [sgB_len]
  · rintro rfl
    rw [sfB_len]
    show 8 + lo + ((vls (sfV .ver lo) xs).flatMap (sgB (D - lo))).length = _
    rw [sgs_len, vls_len]
theorem okSfV {k : Kd} {D lo : Nat} {xs : List Int} (hk : prd k = false) (hlo : lo < D) (hD : D ≤ 33) (hl1 : 1 ≤ xs.length) (hl : xs.length ≤ 64) (hdv : ∀ x ∈ xs, x % 2 ^ lo = 0) (hft : ∀ v ∈ vlW xs lo, fitR (D - lo) v = true) (hc : k = .con → ∀ v ∈ vlW xs lo, v = gi (vlW xs lo) 0) (hb : (sfB D (sfV k lo) xs).length ≤ 40000) : okSf D (sfV k lo) xs :=
  ⟨hlo, hD, hl1, by omega, hdv, hft, hc, fun _ => ⟨rfl, rfl, rfl, rfl⟩, (fun h => by rw [show k = .fix from h] at hk; cases hk), (fun h => by rw [show k = .lin from h] at hk; cases hk), (fun h => by rw [show prd k = true from h] at hk; cases hk), hb⟩
theorem res_sf {C p : Addr} {H : Hp} {xs : List Int} {D fo lin pr hi M lo : Nat} {ws se : Bool} {c : Cc} {b : Int} (h : ResG xs D ws fo lin se pr hi M c lo b) (hSb : SbAt K C H p c lo) (h0 : 1 ≤ xs.length) (hl : xs.length ≤ 64) (hD4 : 4 ≤ D) (hD : D ≤ 33) (hx : ∀ x ∈ xs, -(2 ^ (D - 1)) ≤ x ∧ x < 2 ^ (D - 1)) (hfo : fo ≤ 4) (hlin : lin ≤ 32) (hp1 : 1 ≤ pr) (hp2 : pr ≤ 15) (hhi : hi ≤ 15) (hM : M ≤ 2) :
    ∃ s, SfAt K C H p s ∧ okSf D s xs ∧ ((sfB D s xs).length : Int) = b ∧ b ≤ 8 + (D : Int) * (xs.length : Int) := by
  have hvl : ∀ lo, (vlW xs lo).length = xs.length := fun lo => List.length_map ..
  have hDl : (D : Int) * (xs.length : Int) ≤ 33 * 64 := Int.mul_le_mul (by omega) (by omega) (by omega) (by decide)
  have hD1 : (D : Int) * 1 ≤ (D : Int) * (xs.length : Int) := Int.mul_le_mul_of_nonneg_left (by omega) (by omega)
  have hft : ∀ lo, lo < D → ∀ v ∈ vlW xs lo, fitR (D - lo) v = true := fun lo hlo v hv => by
    obtain ⟨x, hxm, rfl⟩ := List.mem_map.mp hv
    exact fit_div hlo (hx x hxm).1 (hx x hxm).2
  rcases h with ⟨hm, rfl, rfl, rfl⟩ | ⟨hm, rfl, es, t0, hcd, hfd⟩
  · have hlen : (sfB D (sfV .con 0) xs).length = 8 + 0 + (D - 0) := sfV_len.1 rfl
    refine ⟨sfV .con 0, sf_con hSb, okSfV rfl (by omega) hD h0 hl (fun x _ => by rw [Int.pow_zero]; exact Int.emod_one x) (hft 0 (by omega)) (fun _ v hv => ?_) (by omega), by omega, by omega⟩
    obtain ⟨x, hxm, rfl⟩ := List.mem_map.mp hv
    have ha := (allq_iff (xs := xs) (by omega)).mp hm
    have hg : gi (vlW xs 0) 0 = gi xs 0 / 2 ^ 0 := gi_of (by unfold vlW; rw [List.getElem?_map, gi_get (by omega)]; rfl)
    rw [hg, ha x hxm]
    congr 1
  · obtain ⟨lo, hlo⟩ : ∃ lo, wst xs ws = lo := ⟨_, rfl⟩
    rw [hlo] at hcd hfd hSb
    obtain ⟨x0, hx0m, hx0⟩ := ne_zero (by omega) hm
    have hb45 : ∀ x ∈ xs, -(2 ^ 45) < x ∧ x < 2 ^ 45 := fun x hxm => by
      have h1 := hx x hxm
      have h2 : (2 : Int) ^ (D - 1) ≤ 2 ^ 32 := by
        have := Int.ofNat_le.mpr (Nat.pow_le_pow_right (n := 2) (by decide) (show D - 1 ≤ 32 by omega))
        rwa [Int.natCast_pow, Int.natCast_pow] at this
      omega
    obtain ⟨E0, hE0, hE64, hEd⟩ := waste_spec hb45 ⟨x0, hx0m, hx0⟩
    have hdv : ∀ x ∈ xs, x % 2 ^ lo = 0 := by
      rw [← hlo]
      unfold wst
      split
      · rw [hE0, Int.toNat_natCast]
        exact (hEd E0).mpr (Nat.le_refl _)
      · intro x _
        rw [Int.pow_zero]
        exact Int.emod_one x
    have hlD : lo < D := lo_lt hx0 (hdv x0 hx0m) (by omega) (hx x0 hx0m).1 (hx x0 hx0m).2
    have hle := pk_le es (t0, 8 + (lo : Int) + ((D : Int) - (lo : Int)) * (xs.length : Int), verC)
    have hbe : (es.foldl pk (t0, 8 + (lo : Int) + ((D : Int) - (lo : Int)) * (xs.length : Int), verC)).2.1 = b := by rw [hfd]
    have hle1 : b ≤ 8 + (lo : Int) + ((D : Int) - (lo : Int)) * (xs.length : Int) := by rw [← hbe]; exact hle.1
    have hm1 : ((D : Int) - (lo : Int)) * (xs.length : Int) = (D : Int) * (xs.length : Int) - (lo : Int) * (xs.length : Int) := Int.sub_mul _ _ _
    have hm2 : (lo : Int) * 1 ≤ (lo : Int) * (xs.length : Int) := Int.mul_le_mul_of_nonneg_left (by omega) (by omega)
    have hbb : b ≤ 8 + (D : Int) * (xs.length : Int) := by omega
    rcases pk_mem (s0 := (t0, 8 + (lo : Int) + ((D : Int) - (lo : Int)) * (xs.length : Int), verC)) es _ (.inl rfl) with he | he
    · rw [he] at hfd
      obtain ⟨rfl, rfl⟩ := Prod.mk.inj hfd
      have hlen : (sfB D (sfV .ver lo) xs).length = 8 + lo + xs.length * (D - lo) := sfV_len.2 rfl
      have hle2 : ((sfB D (sfV .ver lo) xs).length : Int) = 8 + (lo : Int) + ((D : Int) - (lo : Int)) * (xs.length : Int) := by
        rw [hlen, Int.natCast_add, Int.natCast_mul, Int.natCast_sub (Nat.le_of_lt hlD), Int.mul_comm]
        rfl
      exact ⟨sfV .ver lo, sf_ver hSb, okSfV rfl hlD hD h0 hl hdv (hft lo hlD) (fun h => by cases h) (by omega), hle2, hbb⟩
    · obtain ⟨d, hdm, hb, x, hbq, hed⟩ := hcd.mem _ he
      rw [hfd] at hed
      obtain ⟨hbx, hcx⟩ := Prod.mk.inj hed
      obtain ⟨k, hok⟩ := cands_ok (vl := vlW xs lo) (by rw [hvl]; omega) hfo hlin hp1 hp2 d hdm
      obtain ⟨m, q, ⟨hmM, hqh, hleg⟩, rfl, _⟩ := hbq
      rw [hcx] at hSb
      refine ⟨sfD k d lo m q, sf_cand hSb hok.kd (hok.all lo m q).1, okSf_cand hok hlD hD hl hdv (hft lo hlD) hb (by omega) (by omega) hleg (by rw [← hbx]; omega), ?_, hbb⟩
      rw [hbx]
      exact sfB_cand hok (Nat.le_of_lt hlD) hleg

-- LAWX
/-! ### the law's bound -/
theorem sum_snoc' (f : Int → Int) {xs : List Int} {i : Nat} {x : Int} (h : xs[i]? = some x) : ((xs.take (i + 1)).map f).sum = ((xs.take i).map f).sum + f x := by
  have : xs.take (i + 1) = xs.take i ++ [x] := by rw [List.take_add_one, h]; rfl
  rw [this, List.map_append, List.sum_append]
  show _ + (f x + 0) = _
  rw [Int.add_zero]
def riceT (ns : List Int) (k : Nat) : Int := (ns.length : Int) * (1 + (k : Int)) + sumI ns k
theorem rice_at (ns : List Int) (k : Nat) : (ns.map fun n => 1 + (k : Int) + foldI n / 2 ^ k).sum = riceT ns k := by
  unfold riceT sumI
  induction ns with
  | nil => simp
  | cons n r ih =>
    rw [List.map_cons, List.sum_cons, ih, List.map_cons, List.sum_cons, List.length_cons]
    generalize (List.map (fun n => foldI n / 2 ^ k) r).sum = S
    generalize foldI n / 2 ^ k = y
    rw [show ((r.length + 1 : Nat) : Int) = (r.length : Int) + 1 by omega, Int.add_mul, Int.one_mul]
    generalize (r.length : Int) * (1 + (k : Int)) = z
    omega
theorem bestN_min (f : Nat → Int) {j : Nat} : ∀ i, j ≤ i → (bestN f i).1 ≤ f j
  | 0, h => by rw [show j = 0 by omega]; exact Int.le_refl _
  | i + 1, h => by
    have hs : bestN f (i + 1) = if f (i + 1) < (bestN f i).1 then (f (i + 1), i + 1) else bestN f i := rfl
    rw [hs]
    rcases Nat.lt_or_ge i j with hj | hj
    · rw [show j = i + 1 by omega]
      split
      · exact Int.le_refl _
      · omega
    · have ih := bestN_min f i hj
      split
      · show f (i + 1) ≤ f j
        omega
      · exact ih
theorem best_rice {ns : List Int} {g hi M kk : Nat} {x : Qd} (h : BestQ ns g hi M x) (hM : 0 < M) (hn : 0 < ns.length) (hk : kk ≤ 14) : x.b ≤ 10 + riceT ns kk := by
  obtain ⟨m, p, _, rfl, hmin⟩ := h
  have h1 := hmin 0 0 ⟨hM, Nat.zero_le _, legP_zero (by omega)⟩
  have h2 : (qdF ns g m p).b ≤ (qdF ns g 0 0).b := by
    unfold ltQ at h1
    omega
  have h3 : (qdF ns g 0 0).b = 6 + (entF (chk ns g 0 0) 0).2 := by
    show 6 + ((List.range (2 ^ 0)).map fun k => (entF (chk ns g 0 k) 0).2).sum = _
    show 6 + ((entF (chk ns g 0 0) 0).2 + 0) = _
    omega
  have h4 : chk ns g 0 0 = ns := by
    unfold chk cutN
    rw [Nat.pow_zero, Nat.div_one, Nat.zero_mul, Nat.zero_sub, List.drop_zero, List.take_of_length_le (by omega)]
  have h5 : (entF ns 0).2 ≤ (bestN (costI ns 0) 14).1 := by
    unfold entF
    split
    · rename_i h
      exact Int.le_of_lt h.2
    · exact Int.le_refl _
  have h6 := bestN_min (costI ns 0) 14 hk
  have h7 : costI ns 0 kk = 4 + 0 + riceT ns kk := rfl
  rw [h4] at h3
  omega
theorem res_bound {xs : List Int} {D fo lin pr hi M lo dg kk : Nat} {se : Bool} {c : Cc} {b : Int} (h : ResG xs D false fo lin se pr hi M c lo b) (hne : minL xs ≠ maxL xs) (hM : 0 < M) (hdf : dg ≤ fo) (hdl : dg < xs.length) (hk : kk ≤ 14) (hb : inB (FX.diffsN dg xs) = true) : b ≤ 8 + (D : Int) * (dg : Int) + 6 + 4 + riceT (FX.diffsN dg xs) kk := by
  rcases h with ⟨hm, _⟩ | ⟨_, rfl, es, t0, hcd, hfd⟩
  · exact absurd hm hne
  · have hw : wst xs false = 0 := rfl
    have hv : vlW xs 0 = xs := by
      unfold vlW
      rw [List.map_congr_left (g := id) fun x _ => by rw [Int.pow_zero]; exact Int.ediv_one x, List.map_id]
    rw [hw, hv] at hcd
    obtain ⟨x, t, hbq, hmem⟩ := hcd.has (cdF xs dg) (by
      unfold cands
      exact List.mem_append.mpr (.inl (List.mem_map_of_mem (List.mem_range.mpr (by omega))))) hb
    have h1 := (pk_le es (t0, 8 + ((wst xs false : Nat) : Int) + ((D : Int) - ((wst xs false : Nat) : Int)) * (xs.length : Int), verC)).2 _ hmem
    rw [hfd] at h1
    have h2 := best_rice (kk := kk) hbq hM (by show 0 < (FX.diffsN dg xs).length; rw [FX.diffsN_len]; omega) hk
    have h3 : (cdF xs dg).bits ((D : Int) - ((0 : Nat) : Int)) 0 x = 8 + ((0 : Nat) : Int) + (dg : Int) * ((D : Int) - ((0 : Nat) : Int)) + 0 + x.b := rfl
    have h2 : x.b ≤ 10 + riceT (FX.diffsN dg xs) kk := h2
    have h1 : b ≤ (cdF xs dg).bits ((D : Int) - ((0 : Nat) : Int)) 0 x := h1
    rw [h3, show (D : Int) - ((0 : Nat) : Int) = (D : Int) by omega, Int.mul_comm] at h1
    omega
theorem ev_allq {σ : L2.St} {H : Hp} {r : Addr} {xs : List Int} {i j : Nat} {vs : List Nat} (hr : H r = some (.lst (xs.map V.int))) (h0 : 0 < xs.length) (hl : xs.length ≤ 1000) (hσ : σ[i]? = some (some (.ref r))) (hw : ∀ x, wipe ((wipe σ vs).set j (some x)) vs = wipe σ vs) (hj : ∀ x : V, ((wipe σ vs).set j (some x))[j]? = some (some x)) (hi : ∀ x : V, ((wipe σ vs).set j (some x))[i]? = some (some (.ref r))) : Ev (tCB (rAll K) (tCons (tLc (iList K (tVar i)) (gName j) tYes (tOp rEq (tVar j) (tOp (rIxL K) (tVar i) (tC (.int 0)))) vs) tNil)) σ H (.bl (decide (minL xs = maxL xs))) := by
  have hg : xs[0]? = some (xs.getD 0 0) := by
    cases xs with
    | nil => exact absurd h0 (by decide)
    | cons y r => rfl
  refine Ev.is (ev_allI (K := K) (xs := xs) (f := fun x => decide (V.int x = V.int (xs.getD 0 0))) (Ev.s (ev_var hσ) (sq_of hr)) hl hw fun x _ G eG => ev_eq (ev_var (hj _)) (ev_at (n := 0) (Ev.s (ev_var (hi _)) (sq_of (eG _ _ hr))) ev_c (at_of (j := 0) rfl (at_int hg))) rfl) (congrArg V.bl ?_)
  rw [Bool.eq_iff_iff, List.all_eq_true, decide_eq_true_iff, allq_iff h0]
  exact ⟨fun h x hx => V.int.inj (of_decide_eq_true (h x hx)), fun h x hx => decide_eq_true (congrArg V.int (h x hx))⟩
def sp_lbnd (K : PySem.W.Frag) (CT : Addr) : Sp := fun vs H Q _ => ∃ (r q : Addr) (xs : List Int) (D fo lin p hi dg kk : Nat) (se wd sr ws : Bool) (b : Int), vs = [.ref r, .int (D : Int), .ref q, .int (dg : Int), .int (kk : Int), .int b] ∧ SetG CT H q fo lin se p hi wd sr ws ∧ H r = some (.lst (xs.map V.int)) ∧ 0 < xs.length ∧ xs.length ≤ 64 ∧ dg ≤ 10 ∧ kk ≤ 40 ∧ D ≤ 100 ∧ (ws = false → minL xs ≠ maxL xs → dg ≤ fo → dg < xs.length → inB (FX.diffsN dg xs) = true → b ≤ 8 + (D : Int) * (dg : Int) + 6 + 4 + riceT (FX.diffsN dg xs) kk) ∧ RetV (.bl true) H Q
theorem ok_law_bounded (T : TX K mg) : FnOk P w K mg base CX0 1 T.a_law_bounded T.d_law_bounded ["samples", "depth", "settings", "degree", "k", "bits"] (sp_lbnd K T.C_Settings) := by
  refine T.F_law_bounded.ok sc_law_bounded (fun vs H Q E h => by obtain ⟨r, q, xs, D, fo, lin, p, hi, dg, kk, se, wd, sr, ws, b, rfl, _⟩ := h; rfl) (fun cdv A outer s0 H vs Q E hr h => ?_)
  obtain ⟨r, q, xs, D, fo, lin, p, hi, dg, kk, se, wd, sr, ws, b, rfl, ⟨dx, x0, v0, x10, x11, hq⟩, gr, h0, hl, hdg, hkk, hD, hbd, k⟩ := h
  refine ⟨_, (pss_cons (ps_if (PW.pt (pw_or (pt_val (pe_fld (pv 2) rfl)) (pw_or (pt_cmpR op_gt (pv 3) (pe_fld (pv 2) rfl) (nomark _)) (pw_or1 (pt_cmpR op_ge (pv 3) (pe_callB (r := rLenS K) call_len_seq (by rfl) T.m_len PySem.boot_len (pa_cons (pv 0) pa_nil)) (nomark _)))))) (pss_one (ps_ret pe_bl)) pss_nil)
      (pss_cons (ps_if (pt_val (pe_callB (r := rAll K) (cr_all rfl) (by rfl) T.m_all PyProof.Rows.boot_all (pa_cons (pe_lc (own := [("x", 6)]) (g := gName 6) (tt := tYes) rfl sc_law_bounded.nd (pi_list (pv 0)) (blkOk_by (N := ["samples", "depth", "settings", "degree", "k", "bits", "x", "row", "j", "total", "folded", "i"]) (sc := defScope s_law_bounded) (by decide +kernel)) (fun _ _ _ _ _ => pg_name (i := 6) sc_law_bounded.nd rfl (Or.inl rfl)) (fun _ _ _ _ _ => pts_nil) (fun _ _ _ _ _ => (pe_cmpR op_eq (pv 6) (pe_ix (r := rIxL K) ix_list (pv 0) pe_int (fun _ _ => rfl)) (nomark _)))) pa_nil))) (pss_one (ps_ret pe_bl)) pss_nil)
      (pss_cons (ps_set (i := 7) sc_law_bounded.nd rfl (Or.inr rfl) (pv 0))
      (pss_cons (ps_for PassesOwn.never rfl (pi_range1 (by rfl) T.m_range (pa_cons (pv 3) pa_nil)) (pg_name (i := 8) sc_law_bounded.nd rfl (Or.inl rfl)) (pss_one (ps_set (i := 7) sc_law_bounded.nd rfl (Or.inr rfl) (pe_lc (own := [("i", 11)]) (g := gName 11) (tt := tYes) rfl sc_law_bounded.nd (pi_range1 (by rfl) T.m_range (pa_cons (pe_op op_sub (pe_callB (r := rLenS K) call_len_seq (by rfl) T.m_len PySem.boot_len (pa_cons (pv 7) pa_nil)) pe_int) pa_nil)) (blkOk_by (N := ["samples", "depth", "settings", "degree", "k", "bits", "x", "row", "j", "total", "folded", "i"]) (sc := defScope s_law_bounded) (by decide +kernel)) (fun _ _ _ _ _ => pg_name (i := 11) sc_law_bounded.nd rfl (Or.inl rfl)) (fun _ _ _ _ _ => pts_nil) (fun _ _ _ _ _ => (pe_op op_sub (pe_ix (r := rIxL K) ix_list (pv 7) (pe_op op_add (pv 11) pe_int) (fun _ _ => rfl)) (pe_ix (r := rIxL K) ix_list (pv 7) (pv 11) (fun _ _ => rfl))))))))
      (pss_cons (ps_if (pt_not (pt_val (pe_callB (r := rAll K) (cr_all rfl) (by rfl) T.m_all PyProof.Rows.boot_all (pa_cons (pe_lc (own := [("x", 6)]) (g := gName 6) (tt := tYes) rfl sc_law_bounded.nd (pi_list (pv 7)) (blkOk_by (N := ["samples", "depth", "settings", "degree", "k", "bits", "x", "row", "j", "total", "folded", "i"]) (sc := defScope s_law_bounded) (by decide +kernel)) (fun _ _ _ _ _ => pg_name (i := 6) sc_law_bounded.nd rfl (Or.inl rfl)) (fun _ _ _ _ _ => pts_nil) (fun _ _ _ _ _ => (pe_chain op_lt op_lt (pe_un un_neg pe_int) (pv 6) pe_int))) pa_nil)))) (pss_one (ps_ret pe_bl)) pss_nil)
      (pss_cons (ps_set (i := 9) sc_law_bounded.nd rfl (Or.inl rfl) (pe_op op_add (pe_op op_add (pe_op op_add pe_int (pe_op op_mul (pv 1) (pv 3))) pe_int) pe_int))
      (pss_cons (ps_for PassesOwn.never rfl (pi_list (pv 7)) (pg_name (i := 6) sc_law_bounded.nd rfl (Or.inl rfl)) (pss_cons (ps_set (i := 10) sc_law_bounded.nd rfl (Or.inl rfl) (pe_op op_mul pe_int (pv 6)))
        (pss_cons (ps_if (pt_cmpR op_lt (pv 6) pe_int (nomark _)) (pss_one (ps_set (i := 10) sc_law_bounded.nd rfl (Or.inl rfl) (pe_op op_sub (pe_op op_mul (pe_un un_neg pe_int) (pv 6)) pe_int))) pss_nil)
        (pss_one (ps_set (i := 9) sc_law_bounded.nd rfl (Or.inl rfl) (pe_op op_add (pe_op op_add (pe_op op_add (pv 9) pe_int) (pv 4)) (pe_op op_fdivW (pv 10) (pe_op op_shl pe_int (pv 4)))))))))
      (pss_one (ps_ret (pe_cmpR op_le (pv 5) (pv 9) (nomark _))))))))))), ?_⟩
  have yes : ∀ {σ : L2.St} {G : Hp}, Ex H G → tRet (tC (.bl true)) { nx := fun x H' => Q V.non H', rt := Q } σ G := fun e => s_ret (v := .bl true) ev_c fun H2 e2 => k H2 (e.trans e2)
  refine q_when (b := ws || (decide ((fo : Int) < (dg : Int)) || decide ((xs.length : Int) ≤ (dg : Int)))) (et_or (et_B (ev_fld T.cl_Settings T.n_Settings_wasted (v := .bl ws) (ev_var rfl) hq rfl)) fun _ => et_or (et_test (ev_I0 (g := fun i j => .bl (decide (j < i))) (ev_var rfl) (ev_fld T.cl_Settings T.n_Settings_fixed_order (v := .int (fo : Int)) (ev_var rfl) hq rfl))) fun _ => et_test (ev_I0 (g := fun i j => .bl (decide (j ≤ i))) (ev_var rfl) (Ev.is (ev_lenS (K := K) (Ev.s (ev_var rfl) (sq_of gr))) (by rw [List.length_map])))) (fun _ H1 e1 => yes e1) fun hb H1 e1 => ?_
  rw [Bool.or_eq_false_iff, Bool.or_eq_false_iff, decide_eq_false_iff_not, decide_eq_false_iff_not] at hb
  obtain ⟨hws, hfo, hlt⟩ := hb
  refine q_when (b := decide (minL xs = maxL xs)) (et_B (ev_allq (e1 _ _ gr) h0 (by omega) rfl (fun _ => rfl) (fun _ => rfl) (fun _ => rfl))) (fun _ H2 e2 => yes (e1.trans e2)) fun hne H2 e2 => ?_
  have hne := of_decide_eq_false hne
  have e12 := e1.trans e2
  have hbd := hbd hws hne (by omega) (by omega)
  refine q_asg (v := .ref r) (ev_var rfl) fun H3 e3 => ?_
  show tSeq _ _ _ [some (.ref r), some (.int (D : Int)), some (.ref q), some (.int (dg : Int)), some (.int (kk : Int)), some (.int b), none, some (.ref r), none, none, none, none] _
  refine q_forR1 (n := (dg : Int)) (ea_cons (ev_var rfl) ea_nil) (by omega) (fun i σ' H' => ∃ (r2 : Addr) (z8 : Option V), σ' = [some (.ref r), some (.int (D : Int)), some (.ref q), some (.int (dg : Int)), some (.int (kk : Int)), some (.int b), none, some (.ref r2), z8, none, none, none] ∧ Ex H H' ∧ H' r2 = some (.lst ((FX.diffsN i xs).map V.int))) (fun H4 e4 => ⟨r, none, rfl, e12.trans (e3.trans e4), (e12.trans (e3.trans e4)) _ _ gr⟩) ?_ ?_
  · rintro i σ' H' hi ⟨r2, z8, rfl, ex, g⟩
    obtain ⟨rs, hrs⟩ : ∃ rs, FX.diffsN i xs = rs := ⟨_, rfl⟩
    have hrl : rs.length ≤ 100 := by rw [← hrs, FX.diffsN_len]; omega
    have hnx : FX.diffsN (i + 1) xs = FX.diffs rs := by rw [← hrs]; rfl
    rw [hrs] at g
    have hdl : (FX.diffs rs).length = rs.length - 1 := FX.diffs_len rs
    refine s_asgL (xs := (FX.diffs rs).map V.int) (el_lcR (n := (rs.length : Int) - 1) _ (ea_cons (Ev.is (ev_I0 (g := fun i j => .int (i - j)) (ev_lenS (K := K) (Ev.s (ev_var rfl) (sq_of g))) ev_c) (by rw [List.length_map])) ea_nil) (by omega) (by rw [List.length_map, hdl]; omega) (by rw [List.length_map]; omega) (fun _ => rfl) fun j G eG hj => ?_) fun r3 H2 hr2 e2 g2 => ⟨r3, _, rfl, ex.trans e2, by rw [hnx]; exact g2⟩
    rw [List.length_map, hdl] at hj
    have h1 : rs[j]? = some rs[j] := List.getElem?_eq_getElem (by omega)
    have h2 : rs[j + 1]? = some rs[j + 1] := List.getElem?_eq_getElem (by omega)
    exact ⟨.int (rs[j + 1] - rs[j]), at_int (FX.diffs_get h1 h2), ev_I0 (g := fun i j => .int (i - j)) (ev_at (n := ((j + 1 : Nat) : Int)) (Ev.s (ev_var rfl) (sq_of (eG _ _ g))) (Ev.is (ev_I0 (g := fun i j => .int (i + j)) (ev_var rfl) ev_c) (congrArg V.int (by omega))) (at_of (j := j + 1) rfl (at_int h2))) (ev_at (n := (j : Int)) (Ev.s (ev_var rfl) (sq_of (eG _ _ g))) (ev_var rfl) (at_of (j := j) rfl (at_int h1)))⟩
  · rintro σ' H4 ⟨r2, z8, rfl, ex, g⟩
    rw [Int.toNat_natCast] at g
    have hdl : (FX.diffsN dg xs).length = xs.length - dg := FX.diffsN_len _ _
    obtain ⟨rs, hrs⟩ : ∃ rs, FX.diffsN dg xs = rs := ⟨_, rfl⟩
    rw [hrs] at g hbd hdl
    have hr0 : 0 < rs.length := by omega
    refine q_when (b := !inB rs) (et_not (et_B (Ev.is (ev_allI (K := K) (f := fun x => decide (-2147483648 < x) && decide (x < 2147483648)) (Ev.s (ev_var rfl) (sq_of g)) (by omega) (fun _ => rfl) fun x hx G eG => ev_chain (g := fun i j => decide (i < j)) (g' := fun i j => decide (i < j)) (ev_negI ev_c) (ev_var rfl) ev_c) (congrArg V.bl ?_)))) (fun _ H5 e5 => yes (ex.trans e5)) fun hin H5 e5 => ?_
    · rw [Bool.eq_iff_iff, inB_iff hr0, List.all_eq_true]
      constructor
      · intro h x hx
        have := h x hx
        rw [Bool.and_eq_true, decide_eq_true_iff, decide_eq_true_iff] at this
        omega
      · intro h x hx
        have := h x hx
        rw [Bool.and_eq_true, decide_eq_true_iff, decide_eq_true_iff]
        omega
    have hin : inB rs = true := by rw [Bool.not_eq_false'] at hin; exact hin
    have hbd := hbd hin
    have e5 := ex.trans e5
    have g5 := ‹Ex H4 H5› _ _ g
    obtain ⟨t0, ht0⟩ : ∃ t0, 8 + (D : Int) * (dg : Int) + 6 + 4 = t0 := ⟨_, rfl⟩
    rw [ht0] at hbd
    refine q_asg (v := .int t0) (Ev.is (ev_I0 (g := fun i j => .int (i + j)) (ev_I0 (g := fun i j => .int (i + j)) (ev_I0 (g := fun i j => .int (i + j)) ev_c (ev_I (ev_var rfl) (ev_var rfl) (.inl (by omega)))) ev_c) ev_c) (congrArg V.int ht0)) fun H6 e6 => ?_
    have e6' := e5.trans e6
    show tSeq _ _ _ [some (.ref r), some (.int (D : Int)), some (.ref q), some (.int (dg : Int)), some (.int (kk : Int)), some (.int b), none, some (.ref r2), z8, some (.int t0), none, none] _
    refine q_forLn (K := K) (a := r2) (ev_var rfl) (sq_of (e6 _ _ g5)) (fun i σ' H' => ∃ z6 z10 : Option V, σ' = [some (.ref r), some (.int (D : Int)), some (.ref q), some (.int (dg : Int)), some (.int (kk : Int)), some (.int b), z6, some (.ref r2), z8, some (.int (t0 + ((rs.take i).map fun n => 1 + (kk : Int) + foldI n / 2 ^ kk).sum)), z10, none] ∧ Ex H6 H') (fun H7 e7 => ⟨none, none, by rw [List.take_zero]; show _ = [_, _, _, _, _, _, _, _, _, some (V.int (t0 + 0)), _, _]; rw [Int.add_zero], e7⟩) (fun i σ' H' _ h => by obtain ⟨_, _, _, ex⟩ := h; exact sq_of ((e6.trans ex) _ _ g5)) ?_ ?_
    · rintro i x σ' H7 hx ⟨z6, z10, rfl, ex7⟩
      obtain ⟨v, hv, hi, rfl⟩ := int_at hx
      have hsn := sum_snoc' (fun n => 1 + (kk : Int) + foldI n / 2 ^ kk) hv
      refine q_asg (v := .int (2 * v)) (ev_I ev_c (ev_var rfl) (.inl (by decide))) fun H8 e8 => ?_
      have fin : ∀ {z : Int} {G : Hp}, z = foldI v → Ex H6 G → tAsg (tOp (rI0 fun i j => V.int (i + j)) (tOp (rI0 fun i j => V.int (i + j)) (tOp (rI0 fun i j => V.int (i + j)) (tVar 9) (tC (.int 1))) (tVar 4)) (tOp (rI CDivW fun i j => V.int (i / j)) (tVar 10) (tOp (rI CPow fun i j => V.int (i * 2 ^ j.toNat)) (tC (.int 1)) (tVar 4)))) (gName 9) { nx := fun σ' H' => ∃ z6 z10 : Option V, σ' = [some (.ref r), some (.int (D : Int)), some (.ref q), some (.int (dg : Int)), some (.int (kk : Int)), some (.int b), z6, some (.ref r2), z8, some (.int (t0 + ((rs.take (i + 1)).map fun n => 1 + (kk : Int) + foldI n / 2 ^ kk).sum)), z10, none] ∧ Ex H6 H', rt := Q } [some (.ref r), some (.int (D : Int)), some (.ref q), some (.int (dg : Int)), some (.int (kk : Int)), some (.int b), some (.int v), some (.ref r2), z8, some (.int (t0 + ((rs.take i).map fun n => 1 + (kk : Int) + foldI n / 2 ^ kk).sum)), some (.int z), none] G := fun hz eG => by
        refine s_asg (v := .int (t0 + ((rs.take (i + 1)).map fun n => 1 + (kk : Int) + foldI n / 2 ^ kk).sum)) (Ev.is (ev_I0 (g := fun i j => .int (i + j)) (ev_I0 (g := fun i j => .int (i + j)) (ev_I0 (g := fun i j => .int (i + j)) (ev_var rfl) ev_c) (ev_var rfl)) (SH.ev_divp (j := kk) (ev_var rfl) (ev_var rfl) (by omega))) (congrArg V.int (by rw [hsn, hz]; omega))) fun H9 e9 => ⟨_, _, rfl, eG.trans e9⟩
      refine q_when (b := decide (v < 0)) (et_test (ev_I0 (ev_var rfl) ev_c)) (fun hb H9 e9 => ?_) (fun hb H9 e9 => ?_)
      · have hb := of_decide_eq_true hb
        refine s_asg (v := .int (-2 * v - 1)) (ev_I0 (g := fun i j => .int (i - j)) (ev_I (ev_negI ev_c) (ev_var rfl) (.inl (by decide))) ev_c) fun H10 e10 => ?_
        exact fin (by unfold foldI; rw [if_pos hb]) (ex7.trans (e8.trans (e9.trans e10)))
      · have hb := of_decide_eq_false hb
        exact fin (by unfold foldI; rw [if_neg hb]) (ex7.trans (e8.trans e9))
    · rintro σ' H7 ⟨z6, z10, rfl, ex7⟩
      rw [List.length_map, List.take_length, rice_at]
      exact s_ret (v := .bl true) (Ev.is (ev_I0 (g := fun i j => .bl (decide (i ≤ j))) (ev_var rfl) (ev_var rfl)) (congrArg V.bl (decide_eq_true hbd))) fun H8 e8 => k H8 (e6'.trans (ex7.trans e8))

-- LAWY
/-! ### the law -/
theorem PlAt.frA {C a d : Addr} {H H1 : Hp} {pos : Nat} {s : Sf} {x : V} (h : PlAt H s x) (hR : RdAt C H a d pos) (hF : FrA a H H1) : PlAt H1 s x := by
  have ne : ∀ {q : Addr} {ys : List V}, H q = some (.tup ys) → q ≠ a := fun hq => by
    obtain ⟨dx, ha⟩ := hR
    rintro rfl
    rw [ha] at hq
    cases hq
  unfold PlAt at *
  split
  · rename_i hp
    rw [if_pos hp] at h
    obtain ⟨t, tc, qs, rfl, ht, hc⟩ := h
    exact ⟨t, tc, qs, rfl, hF _ _ (ne ht) ht, hF _ _ (ne hc.1) hc.1, hc.2.1, fun i q c h1 h2 => hF _ _ (ne (hc.2.2 i q c h1 h2)) (hc.2.2 i q c h1 h2)⟩
  · rename_i hp
    rwa [if_neg hp] at h
theorem SfAt.frA {C CS a d p : Addr} {H H1 : Hp} {pos : Nat} {s : Sf} (h : SfAt K CS H p s) (hR : RdAt C H a d pos) (hF : FrA a H H1) : SfAt K CS H1 p s := by
  obtain ⟨dx, tco, x, hp, hc, hpl⟩ := h
  refine ⟨dx, tco, x, hF p _ ?_ hp, sqt_frA hR hF hc, hpl.frA hR hF⟩
  rintro rfl
  obtain ⟨dx', ha⟩ := hR
  rw [ha] at hp
  exact absurd (congrArg List.length (HO.ins.inj (Option.some.inj hp)).2.2) (by simp [fsS, rF])
theorem ev_callAP {σ : L2.St} {H : Hp} {t : TA} {R : List V → Hp → Prop} {sp : Sp} {dvs : List V} {E : XK} {z : V} (h : EvAP t σ H R) (k : ∀ vs H1, Ex H H1 → R vs H1 → ∀ (Q : VK) (E : XK), (∀ H2, Ex H1 H2 → Q z H2) → sp (vs ++ dvs) H1 Q E) : Ev (tCall sp dvs E t) σ H z := fun H1 e Q q =>
  h H1 e _ fun vs H2 e2 hR => k vs H2 (e.trans e2) hR _ _ fun H3 e3 => q H3 (e2.trans e3)
theorem q_dropC4 {t1 t2 t3 t4 : TE} {x y z : V} {xs dvs : List V} {sp : Sp} {E : XK} {tz : TS} {D : Ends} {σ : L2.St} {H : Hp} (h1 : Ev t1 σ H x) (h2 : Ev t2 σ H y) (h3 : EvL t3 σ H xs) (h4 : Ev t4 σ H z) (k : ∀ p H1, H p = none → Ex H H1 → H1 p = some (.lst xs) → sp ([x, y, .ref p, z] ++ dvs) H1 (fun _ H2 => tz D σ H2) E) : tSeq (tDrop (tCall sp dvs E (tCons t1 (tCons t2 (tCons t3 (tCons t4 tNil)))))) tz D σ H :=
  h1 H (Ex.refl _) _ fun H1 e1 => h2 H1 e1 _ fun H2 e2 => h3 H2 (e1.trans e2) _ fun p H3 hp e3 g3 => h4 H3 (e1.trans (e2.trans e3)) _ fun H4 e4 => k p H4 (fresh_back (e1.trans e2) hp) (e1.trans (e2.trans (e3.trans e4))) (e4 _ _ g3)
theorem ev_isiTup {σ : L2.St} {H : Hp} {ta : TE} {a : Addr} {xs : List V} (ha : Ev ta σ H (.ref a)) (h : H a = some (.tup xs)) : Ev (tCB (rIsi K) (tCons ta (tCons (tC (.ty "tuple")) tNil))) σ H (.bl true) := ev_isi ha (isi_tup h) kit_tt
theorem ev_lenTup {σ : L2.St} {H : Hp} {ta : TE} {a : Addr} {xs : List V} (ha : Ev ta σ H (.ref a)) (h : H a = some (.tup xs)) : Ev (tCB (rLenS K) (tCons ta tNil)) σ H (.int (xs.length : Int)) := ev_lenT (Ev.p ha (st_of h))
def sp_lints : Sp := fun vs H Q _ => ∃ (p : Addr) (rs : List Int), vs = [.ref p] ∧ H p = some (.lst (rs.map V.int)) ∧ rs.length ≤ 40000 ∧ RetV (.bl true) H Q
theorem ok_law_integers (T : TX K mg) : FnOk P w K mg base CX0 2 T.a_law_integers T.d_law_integers ["values"] sp_lints := by
  refine T.F_law_integers.ok sc_law_integers (fun vs H Q E h => by obtain ⟨p, rs, rfl, _⟩ := h; rfl) (fun cdv A outer s H vs Q E hr h => ?_)
  obtain ⟨p, rs, rfl, hp, hl, k⟩ := h
  refine ⟨_, (pss_cons (ps_if (pt_not (pt_val (pe_callB (r := rIsi K) call_isi (by rfl) T.m_isinstance PyProof.Rows.boot_isinstance (pa_cons (pv 0) (pa_cons (pe_bltn (v := V.ty "list") (by rfl) T.m_list PyProof.Rows.boot_list rfl) pa_nil))))) (pss_one (ps_ret pe_bl)) pss_nil)
      (pss_one (ps_ret (pe_callB (r := rAll K) (cr_all rfl) (by rfl) T.m_all PyProof.Rows.boot_all (pa_cons (pe_lc (own := [("value", 1)]) (g := gName 1) (tt := tYes) rfl sc_law_integers.nd (pi_list (pv 0)) (blkOk_by (N := ["values", "value"]) (sc := defScope s_law_integers) (by decide +kernel)) (fun _ _ _ _ _ => pg_name (i := 1) sc_law_integers.nd rfl (Or.inl rfl)) (fun _ _ _ _ _ => pts_nil) (fun _ _ _ _ _ => (pe_call (ok_law_integer T) (hr.mono (by decide)) (by rfl) T.g_law_integer T.F_law_integer.kp T.b_law_integer .nil pass0 (pa_cons (pv 1) pa_nil)))) pa_nil))))), ?_⟩
  refine q_when (b := false) (et_is (et_not (et_B (ev_isiL (ev_var rfl) hp))) rfl) (fun hb => by cases hb) fun _ H1 e1 => ?_
  refine s_ret (v := .bl true) (ev_all (bs := rs.map fun _ => true) (EvR.s (EvL.r (EvL.is (xs := rs.map fun _ => V.bl true) (el_lcS _ (Ev.s (ev_var rfl) (sq_of (e1 _ _ hp))) (by rw [List.length_map, List.length_map]) (by rw [List.length_map]; omega) (fun _ => rfl) fun i x H2 e2 hx => ?_) (by rw [List.map_map]; rfl)))) ?_) fun H2 e2 => k H2 (e1.trans e2)
  · obtain ⟨v, hv, hi, rfl⟩ := int_at hx
    exact ⟨_, by rw [List.getElem?_map, hv]; rfl, ev_isint (ev_var rfl)⟩
  · rw [List.all_map]
    exact List.all_eq_true.mpr fun _ _ => rfl
theorem ed_tupA {σ : L2.St} {H : Hp} {ta : TA} {vs : List V} {ds : List PyData} (h : EvA ta σ H vs) (hl : vs.length ≤ 100000) (hd : ∀ H', Ex H H' → DpAll K H' vs ds) : EvD K (tTup ta) σ H (.tuple ds) := fun H1 e Q q => eu_tup h hl H1 e _ fun p H2 _ e2 g => q (.ref p) H2 e2 (.tup (st_of g) (hd H2 (e.trans e2)))
def fldD (s : Sf) : PyData := .tuple [.str (kdS s.kd), .int (s.o : Int), .int (s.pr : Int), .int (s.sh : Int), .tuple (s.co.map .int), planV s, .int (s.lo : Int)]
theorem lay_planV (s : Sf) : PyData.canLay0 (planV s) = true ∧ PyData.depth (planV s) ≤ 8 := by
  unfold planV
  split
  · have h1 := canLay_cds s.cds
    have h2 := depth_cds s.cds
    unfold planD
    refine ⟨by simp only [PyData.canLay0, PyData.canLayAll0, h1, Bool.and_self], ?_⟩
    simp only [PyData.depth, PyData.depthAll]
    omega
  · exact ⟨rfl, by decide⟩
theorem ok_kdS (k : Kd) : PyData.strOk (kdS k) = true := by cases k <;> decide +kernel
theorem shaped_fld (s : Sf) : SeqAt.shaped (fldD s) = true := by
  obtain ⟨h1, h2⟩ := lay_planV s
  have h3 := ok_kdS s.kd
  have h5 := canLay_ints s.co
  have h6 := depth_ints s.co
  unfold SeqAt.shaped fldD
  rw [Bool.and_eq_true, decide_eq_true_iff]
  refine ⟨by simp only [PyData.canLay0, PyData.canLayAll0, h1, h3, h5, Bool.and_self], ?_⟩
  simp only [PyData.depth, PyData.depthAll]
  omega
theorem EvD.ret {te : TE} {σ : L2.St} {H : Hp} {d : PyData} {D : Ends} (h : EvD K te σ H d) (k : ∀ v H1, Ex H H1 → Dp K H1 v d → D.rt v H1) : tRet te D σ H := h H (Ex.refl H) _ k
def sp_lfields (K : PySem.W.Frag) (CS : Addr) : Sp := fun vs H Q _ => ∃ (p : Addr) (s : Sf), vs = [.ref p] ∧ SfAt K CS H p s ∧ ∀ v H', Ex H H' → Dp K H' v (fldD s) → Q v H'
theorem ok_law_fields (T : TX K mg) : FnOk P w K mg base CX0 1 T.a_law_fields T.d_law_fields ["told"] (sp_lfields K T.C_Subframe) := by
  refine T.F_law_fields.ok sc_law_fields (fun vs H Q E h => by obtain ⟨p, s, rfl, _⟩ := h; rfl) (fun cdv A outer s0 H vs Q E hr h => ?_)
  obtain ⟨p, s, rfl, ⟨dx, tco, x, hp, hc, hpl⟩, k⟩ := h
  refine ⟨_, (pss_one (ps_ret (pe_tup (pa_cons (pe_fld (pv 0) rfl) (pa_cons (pe_fld (pv 0) rfl) (pa_cons (pe_fld (pv 0) rfl) (pa_cons (pe_fld (pv 0) rfl) (pa_cons (pe_fld (pv 0) rfl) (pa_cons (pe_fld (pv 0) rfl) (pa_cons (pe_fld (pv 0) rfl) pa_nil)))))))))), ?_⟩
  exact EvD.ret (d := fldD s) (ed_tupA (vs := [.str (kdS s.kd), .int (s.o : Int), .int (s.pr : Int), .int (s.sh : Int), .ref tco, x, .int (s.lo : Int)]) (ea_cons (ev_fld T.cl_Subframe T.n_Subframe_kind (ev_var rfl) hp rfl) (ea_cons (ev_fld T.cl_Subframe T.n_Subframe_order (ev_var rfl) hp rfl) (ea_cons (ev_fld T.cl_Subframe T.n_Subframe_precision (ev_var rfl) hp rfl) (ea_cons (ev_fld T.cl_Subframe T.n_Subframe_shift (ev_var rfl) hp rfl) (ea_cons (ev_fld T.cl_Subframe T.n_Subframe_coefficients (ev_var rfl) hp rfl) (ea_cons (ev_fld T.cl_Subframe T.n_Subframe_plan (ev_var rfl) hp rfl) (ea_cons (ev_fld T.cl_Subframe T.n_Subframe_wasted (ev_var rfl) hp rfl) ea_nil))))))) (show 7 ≤ 100000 by decide) fun H' eH => .cons (.str _) (.cons (.int _) (.cons (.int _) (.cons (.int _) (.cons (.tup (ex_t eH hc) (dp_ints _)) (.cons (dp_planV (hpl.ex eH)) (.cons (.int _) .nil))))))) fun v H1 e hd => k v H1 e hd
theorem ed_lfields {σ : L2.St} {H : Hp} {te : TE} {E : XK} {CS p : Addr} {s : Sf} (h : Ev te σ H (.ref p)) (hs : SfAt K CS H p s) : EvD K (tCall (sp_lfields K CS) [] E (tCons te tNil)) σ H (fldD s) := fun H1 e Q q =>
  h H1 e _ fun H2 e2 => ⟨p, s, rfl, hs.ex (e.trans e2), fun v H3 e3 hd => q v H3 (e2.trans e3) hd⟩
def sp_law (K : PySem.W.Frag) : Sp := fun vs H Q _ => ∃ (a : Addr) (ns : List Int), vs = [.ref a] ∧ SqL K H a (ns.map V.int) ∧ ns.length ≤ 63 ∧ ∀ H', Q (.bl true) H'
theorem ok_law (T : TX K mg) : FnOk P w K mg base CX0 10 T.a_law T.d_law ["script"] (sp_law K) := by
  refine T.F_law.ok sc_law (fun vs H Q E h => by obtain ⟨a, ns, rfl, _⟩ := h; rfl) (fun cdv A outer s0 H vs Q E hr h => ?_)
  obtain ⟨a, ns, rfl, hS, hlen, k⟩ := h
  refine ⟨_, (pss_cons (ps_set (i := 1) sc_law.nd rfl (Or.inl rfl) (pe_call (ok_law_cell T) (hr.mono (by decide)) (by rfl) T.g_law_cell T.F_law_cell.kp T.b_law_cell .nil pass0 (pa_cons (pv 0) (pa_cons pe_int pa_nil))))
      (pss_cons (ps_set (i := 2) sc_law.nd rfl (Or.inl rfl) (pe_op op_add pe_int (pe_op op_mod (pe_op op_fdiv (pe_callTy call_int1 (by rfl) T.m_int PyProof.Rows.boot_int (pa_cons (pv 1) pa_nil)) pe_int) pe_int)))
      (pss_cons (ps_set (i := 3) sc_law.nd rfl (Or.inl rfl) (pe_op op_add (pe_op op_add pe_int (pe_op op_mod (pe_callTy call_int1 (by rfl) T.m_int PyProof.Rows.boot_int (pa_cons (pv 1) pa_nil)) pe_int)) (pe_op op_mul pe_int (pe_callTy call_int1 (by rfl) T.m_int PyProof.Rows.boot_int (pa_cons (pe_cmpR op_eq (pe_op op_mod (pe_op op_fdiv (pe_callTy call_int1 (by rfl) T.m_int PyProof.Rows.boot_int (pa_cons (pv 1) pa_nil)) pe_int) pe_int) pe_int (nomark _)) pa_nil)))))
      (pss_cons (ps_set (i := 4) sc_law.nd rfl (Or.inr rfl) (pe_call (ok_law_signal T) (hr.mono (by decide)) (by rfl) T.g_law_signal T.F_law_signal.kp T.b_law_signal .nil pass0 (pa_cons (pe_call (ok_law_cell T) (hr.mono (by decide)) (by rfl) T.g_law_cell T.F_law_cell.kp T.b_law_cell .nil pass0 (pa_cons (pv 0) (pa_cons pe_int pa_nil))) (pa_cons (pv 3) (pa_cons (pv 2) (pa_cons (pe_op op_mod (pe_op op_fdiv (pe_callTy call_int1 (by rfl) T.m_int PyProof.Rows.boot_int (pa_cons (pv 1) pa_nil)) pe_int) pe_int) pa_nil))))))
      (pss_cons (ps_set (i := 5) sc_law.nd rfl (Or.inl rfl) (pe_call (ok_law_settings T) (hr.mono (by decide)) (by rfl) T.g_law_settings T.F_law_settings.kp T.b_law_settings .nil pass0 (pa_cons (pe_call (ok_law_cell T) (hr.mono (by decide)) (by rfl) T.g_law_cell T.F_law_cell.kp T.b_law_cell .nil pass0 (pa_cons (pv 0) (pa_cons pe_int pa_nil))) (pa_cons pe_int (pa_cons (pe_op op_add pe_int (pe_op op_mul pe_int (pe_callTy call_int1 (by rfl) T.m_int PyProof.Rows.boot_int (pa_cons (pe_cmpR op_eq (pe_op op_mod (pe_op op_fdiv (pe_callTy call_int1 (by rfl) T.m_int PyProof.Rows.boot_int (pa_cons (pv 1) pa_nil)) pe_int) pe_int) pe_int (nomark _)) pa_nil)))) pa_nil)))))
      (pss_cons (ps_set (i := 6) sc_law.nd rfl (Or.inl rfl) (pe_callTy (r := rListS K) call_list_of (by rfl) T.m_list PyProof.Rows.boot_list (pa_cons (pv 4) pa_nil)))
      (pss_cons (ps_set (i := 7) sc_law.nd rfl (Or.inl rfl) (pe_call (ok_best_subframe T) (hr.mono (by decide)) (by rfl) T.g_best_subframe T.F_best_subframe.kp T.b_best_subframe .nil pass0 (pa_cons (pv 6) (pa_cons (pv 2) (pa_cons (pv 5) pa_nil)))))
      (pss_cons (ps_if (PW.pt (pw_or (pt_not (pt_val (pe_callB (r := rIsi K) call_isi (by rfl) T.m_isinstance PyProof.Rows.boot_isinstance (pa_cons (pv 7) (pa_cons (pe_bltn (v := V.ty "tuple") (by rfl) T.m_tuple PyProof.Rows.boot_tuple rfl) pa_nil))))) (pw_or (pt_cmpR op_ne (pe_callB (r := rLenS K) call_len_seq (by rfl) T.m_len PySem.boot_len (pa_cons (pv 7) pa_nil)) pe_int (nomark _)) (pw_or (pt_cmpR (op_neD (hu64 hr)) (pv 6) (pv 4) (nomark _)) (pw_or1 (pt_not (pt_val (pe_call (ok_law_integer T) (hr.mono (by decide)) (by rfl) T.g_law_integer T.F_law_integer.kp T.b_law_integer .nil pass0 (pa_cons (pe_ix (r := rIxT K) ix_tup (pv 7) pe_int (fun _ _ => rfl)) pa_nil))))))))) (pss_one (ps_ret pe_bl)) pss_nil)
      (pss_cons (ps_if (pt_cmpR op_gt (pe_ix (r := rIxT K) ix_tup (pv 7) pe_int (fun _ _ => rfl)) (pe_op op_add pe_int (pe_op op_mul (pv 2) (pe_callB (r := rLenS K) call_len_seq (by rfl) T.m_len PySem.boot_len (pa_cons (pv 4) pa_nil)))) (nomark _)) (pss_one (ps_ret pe_bl)) pss_nil)
      (pss_cons (ps_if (PW.pt (pw_and (pt_val (pe_callB (r := rAll K) (cr_all rfl) (by rfl) T.m_all PyProof.Rows.boot_all (pa_cons (pe_lc (own := [("x", 12)]) (g := gName 12) (tt := tYes) rfl sc_law.nd (pi_list (pv 4)) (blkOk_by (N := ["script", "first", "depth", "count", "samples", "settings", "given", "actual", "degree", "writer", "reader", "back", "x"]) (sc := defScope s_law) (by decide +kernel)) (fun _ _ _ _ _ => pg_name (i := 12) sc_law.nd rfl (Or.inl rfl)) (fun _ _ _ _ _ => pts_nil) (fun _ _ _ _ _ => (pe_cmpR op_eq (pv 12) (pe_ix (r := rIxL K) ix_list (pv 4) pe_int (fun _ _ => rfl)) (nomark _)))) pa_nil))) (pw_and1 (pt_cmpR op_ne (pe_ix (r := rIxT K) ix_tup (pv 7) pe_int (fun _ _ => rfl)) (pe_op op_add pe_int (pv 2)) (nomark _))))) (pss_one (ps_ret pe_bl)) pss_nil)
      (pss_cons (ps_set (i := 8) sc_law.nd rfl (Or.inl rfl) (pe_op op_mod (pe_callTy call_int1 (by rfl) T.m_int PyProof.Rows.boot_int (pa_cons (pe_call (ok_law_cell T) (hr.mono (by decide)) (by rfl) T.g_law_cell T.F_law_cell.kp T.b_law_cell .nil pass0 (pa_cons (pv 0) (pa_cons pe_int pa_nil))) pa_nil)) pe_int))
      (pss_cons (ps_if (pt_not (pt_val (pe_call (ok_law_bounded T) (hr.mono (by decide)) (by rfl) T.g_law_bounded T.F_law_bounded.kp T.b_law_bounded .nil pass0 (pa_cons (pv 4) (pa_cons (pv 2) (pa_cons (pv 5) (pa_cons (pv 8) (pa_cons (pe_op op_mod (pe_op op_fdiv (pe_callTy call_int1 (by rfl) T.m_int PyProof.Rows.boot_int (pa_cons (pe_call (ok_law_cell T) (hr.mono (by decide)) (by rfl) T.g_law_cell T.F_law_cell.kp T.b_law_cell .nil pass0 (pa_cons (pv 0) (pa_cons pe_int pa_nil))) pa_nil)) pe_int) pe_int) (pa_cons (pe_ix (r := rIxT K) ix_tup (pv 7) pe_int (fun _ _ => rfl)) pa_nil))))))))) (pss_one (ps_ret pe_bl)) pss_nil)
      (pss_cons (ps_set (i := 9) sc_law.nd rfl (Or.inl rfl) (pe_make0 T.M_BitWriter (ok_BitWriter_init T) (hr.mono (by decide)) (by rfl) T.g_BitWriter T.b_BitWriter_init .nil pass0))
      (pss_cons (ps_expr (pe_call (ok_write_subframe T) (hr.mono (by decide)) (by rfl) T.g_write_subframe T.F_write_subframe.kp T.b_write_subframe .nil pass0 (pa_cons (pv 9) (pa_cons (pv 2) (pa_cons (pe_callTy (r := rListS K) call_list_of (by rfl) T.m_list PyProof.Rows.boot_list (pa_cons (pv 4) pa_nil)) (pa_cons (pe_ix (r := rIxT K) ix_tup (pv 7) pe_int (fun _ _ => rfl)) pa_nil))))))
      (pss_cons (ps_if (PW.pt (pw_or (pt_cmpR op_ne (pe_meth0 (pv 9) T.cl_BitWriter T.me_BitWriter_bits_written (ok_BitWriter_bits_written T) (hr.mono (by decide)) T.b_BitWriter_bits_written .nil pass0) (pe_ix (r := rIxT K) ix_tup (pv 7) pe_int (fun _ _ => rfl)) (nomark _)) (pw_or1 (pt_cmpR op_ne (pe_call (ok_subframe_bits T) (hr.mono (by decide)) (by rfl) T.g_subframe_bits T.F_subframe_bits.kp T.b_subframe_bits .nil pass0 (pa_cons (pv 2) (pa_cons (pe_callTy (r := rListS K) call_list_of (by rfl) T.m_list PyProof.Rows.boot_list (pa_cons (pv 4) pa_nil)) (pa_cons (pe_ix (r := rIxT K) ix_tup (pv 7) pe_int (fun _ _ => rfl)) pa_nil)))) (pe_ix (r := rIxT K) ix_tup (pv 7) pe_int (fun _ _ => rfl)) (nomark _))))) (pss_one (ps_ret pe_bl)) pss_nil)
      (pss_cons (ps_expr (pe_meth0 (pv 9) T.cl_BitWriter T.me_BitWriter_pad (ok_BitWriter_pad T) (hr.mono (by decide)) T.b_BitWriter_pad .nil pass0))
      (pss_cons (ps_set (i := 10) sc_law.nd rfl (Or.inl rfl) (pe_make T.M_BitReader (ok_BitReader_init T) (hr.mono (by decide)) (by rfl) T.g_BitReader T.b2_BitReader_init T.v2_BitReader_init pass0 (pa_cons (pe_meth0 (pv 9) T.cl_BitWriter T.me_BitWriter_byte_list (ok_BitWriter_byte_list T) (hr.mono (by decide)) T.b_BitWriter_byte_list .nil pass0) pa_nil)))
      (pss_cons (ps_set (i := 11) sc_law.nd rfl (Or.inl rfl) (pe_call (ok_read_subframe T) (hr.mono (by decide)) (by rfl) T.g_read_subframe T.F_read_subframe.kp T.b_read_subframe .nil pass0 (pa_cons (pv 10) (pa_cons (pv 2) (pa_cons (pe_callB (r := rLenS K) call_len_seq (by rfl) T.m_len PySem.boot_len (pa_cons (pv 4) pa_nil)) pa_nil)))))
      (pss_cons (ps_if (PW.pt (pw_or (pt_not (pt_val (pe_callB (r := rIsi K) call_isi (by rfl) T.m_isinstance PyProof.Rows.boot_isinstance (pa_cons (pv 11) (pa_cons (pe_bltn (v := V.ty "tuple") (by rfl) T.m_tuple PyProof.Rows.boot_tuple rfl) pa_nil))))) (pw_or (pt_cmpR op_ne (pe_callB (r := rLenS K) call_len_seq (by rfl) T.m_len PySem.boot_len (pa_cons (pv 11) pa_nil)) pe_int (nomark _)) (pw_or1 (pt_not (pt_val (pe_call (ok_law_integers T) (hr.mono (by decide)) (by rfl) T.g_law_integers T.F_law_integers.kp T.b_law_integers .nil pass0 (pa_cons (pe_ix (r := rIxT K) ix_tup (pv 11) pe_int (fun _ _ => rfl)) pa_nil)))))))) (pss_one (ps_ret pe_bl)) pss_nil)
      (pss_one (ps_ret (pe_and (pe_cmpR (op_eqD (hu64 hr)) (pe_ix (r := rIxT K) ix_tup (pv 11) pe_int (fun _ _ => rfl)) (pv 4) (nomark _)) (pe_and (pe_cmpR (op_eqD (hu64 hr)) (pe_call (ok_law_fields T) (hr.mono (by decide)) (by rfl) T.g_law_fields T.F_law_fields.kp T.b_law_fields .nil pass0 (pa_cons (pe_ix (r := rIxT K) ix_tup (pv 11) pe_int (fun _ _ => rfl)) pa_nil)) (pe_call (ok_law_fields T) (hr.mono (by decide)) (by rfl) T.g_law_fields T.F_law_fields.kp T.b_law_fields .nil pass0 (pa_cons (pe_ix (r := rIxT K) ix_tup (pv 7) pe_int (fun _ _ => rfl)) pa_nil)) (nomark _)) (pe_one (pe_cmpR op_eq (pe_meth0 (pv 10) T.cl_BitReader T.me_BitReader_bit_place (ok_BitReader_bit_place T) (hr.mono (by decide)) T.b_BitReader_bit_place .nil pass0) (pe_ix (r := rIxT K) ix_tup (pv 7) pe_int (fun _ _ => rfl)) (nomark _)))))))))))))))))))))))))), ?_⟩
  obtain ⟨f, hf⟩ : ∃ f, cellI ns 0 = f := ⟨_, rfl⟩
  refine q_asg (v := .int f) (Ev.is (ev_cell (ev_var rfl) hS ev_c (by decide)) (congrArg V.int hf)) fun H1 e1 => ?_
  have md : ∀ {σ : L2.St} {G : Hp} {t : TE} {x m : Int}, 0 < m → Ev t σ G (.int x) → Ev (tOp (rI (fun _ j => 0 < j) fun i j => .int (i % j)) t (tC (.int m))) σ G (.int (x % m)) := fun hm h => ev_I h ev_c hm
  have dv : ∀ {σ : L2.St} {G : Hp} {t : TE} {x m : Int}, 0 < m ∧ m < 1073741824 → Ev t σ G (.int x) → Ev (tOp (rI CDiv fun i j => .int (i / j)) t (tC (.int m))) σ G (.int (x / m)) := fun hm h => ev_I h ev_c hm
  obtain ⟨D, hD⟩ : ∃ D : Nat, 4 + f / 24 % 30 = (D : Int) := ⟨(4 + f / 24 % 30).toNat, by omega⟩
  refine q_asg (v := .int (D : Int)) (Ev.is (ev_I0 (g := fun i j => .int (i + j)) ev_c (md (by decide) (dv (by decide) (ev_int1 (ev_var rfl))))) (congrArg V.int hD)) fun H2 e2 => ?_
  obtain ⟨bb, hbb⟩ : ∃ bb : Int, (if decide (V.int (f / 4320 % 9) = V.int 1) = true then 1 else 0) = bb := ⟨_, rfl⟩
  have hb01 : bb = 0 ∨ bb = 1 := by rw [← hbb]; split <;> omega
  obtain ⟨n, hn⟩ : ∃ n : Nat, 1 + f % 24 + 30 * bb = (n : Int) := ⟨(1 + f % 24 + 30 * bb).toNat, by omega⟩
  refine q_asg (v := .int (n : Int)) (Ev.is (ev_I0 (g := fun i j => .int (i + j)) (ev_I0 (g := fun i j => .int (i + j)) ev_c (md (by decide) (ev_int1 (ev_var rfl)))) (ev_I ev_c (Ev.is (ev_intB (ev_eq (md (by decide) (dv (by decide) (ev_int1 (ev_var rfl)))) ev_c rfl)) (congrArg V.int hbb)) (.inl (by decide)))) (congrArg V.int hn)) fun H3 e3 => ?_
  have e13 := e1.trans (e2.trans e3)
  refine q_asgC (vs := [.int (cellI ns 1), .int (n : Int), .int (D : Int), .int (f / 720 % 6)]) (ea_cons (ev_cell (ev_var rfl) (ex_l e13 hS) ev_c (by decide)) (ea_cons (ev_var rfl) (ea_cons (ev_var rfl) (ea_cons (md (by decide) (dv (by decide) (ev_int1 (ev_var rfl)))) ea_nil)))) fun H4 e4 => ⟨_, n, D, _, rfl, by omega, by omega, by omega, fun r xs H5 hrn e5 gr hxl hxb => ?_⟩
  have e15 := e13.trans (e4.trans e5)
  have hpD : (2 : Int) ^ (D - 1) ≤ 2 ^ 32 := by
    have h1 : 2 ^ (D - 1) ≤ 2 ^ 32 := Nat.pow_le_pow_right (by decide) (by omega)
    have h2 : ((2 ^ (D - 1) : Nat) : Int) ≤ ((2 ^ 32 : Nat) : Int) := Int.ofNat_le.mpr h1
    rwa [Int.natCast_pow, Int.natCast_pow] at h2
  have hb33 : ∀ x ∈ xs, -(2 ^ 33) < x ∧ x < 2 ^ 33 := fun x hx => by have := hxb x hx; omega
  have h0 : 0 < xs.length := by omega
  have hl64 : xs.length ≤ 64 := by omega
  have hD4 : 4 ≤ D ∧ D ≤ 33 := by omega
  obtain ⟨cc, hcc⟩ : ∃ cc : Int, (if decide (V.int (f / 38880 % 12) = V.int 1) = true then 1 else 0) = cc := ⟨_, rfl⟩
  have hc01 : cc = 0 ∨ cc = 1 := by rw [← hcc]; split <;> omega
  obtain ⟨LN, hLN⟩ : ∃ LN : Nat, 6 + 6 * cc = (LN : Int) := ⟨(6 + 6 * cc).toNat, by omega⟩
  have hLN12 : LN ≤ 12 := by omega
  refine q_asgC (vs := [.int (cellI ns 2), .int 16, .int (LN : Int)]) (ea_cons (ev_cell (ev_var rfl) (ex_l e15 hS) ev_c (by decide)) (ea_cons ev_c (ea_cons (Ev.is (ev_I0 (g := fun i j => .int (i + j)) ev_c (ev_I ev_c (Ev.is (ev_intB (ev_eq (md (by decide) (dv (by decide) (ev_int1 (ev_var rfl)))) ev_c rfl)) (congrArg V.int hcc)) (.inl (by decide)))) (congrArg V.int hLN)) ea_nil))) fun H6 e6 => ⟨_, _, LN, rfl, fun q H7 fo lin se pr hi wd sr ws e7 hq hfo hlin hp1 hp2 hhi => ?_⟩
  have g7 := (e6.trans e7) _ _ gr
  show tSeq _ _ _ [some (.ref a), some (.int f), some (.int (D : Int)), some (.int (n : Int)), some (.ref r), some (.ref q), none, none, none, none, none, none, none] _
  refine q_asgL (xs := xs.map V.int) (el_of (K := K) (Ev.s (ev_var rfl) (sq_of g7))) fun pg H8 hpg e8 gg8 => ?_
  refine q_asgC (vs := [.ref pg, .int (D : Int), .ref q]) (ea_cons (ev_var rfl) (ea_cons (ev_var rfl) (ea_cons (ev_var rfl) ea_nil))) fun H9 e9 => ⟨pg, q, xs, D, fo, lin, pr, hi, se, wd, sr, ws, rfl, hq.ex (e8.trans e9), e9 _ _ gg8, h0, hl64, hb33, hfo, by omega, by omega, by omega, by omega, by omega, fun t p c lo b H10 e10 gt hSb hR => ?_⟩
  have hM2 : (if wd = true then 2 else 1) ≤ 2 ∧ 0 < (if wd = true then 2 else 1) := by split <;> decide
  obtain ⟨s, hSf, ok, hbl, hbd⟩ := res_sf hR hSb h0 hl64 hD4.1 hD4.2 hxb hfo (by omega) (by omega) hp2 (by omega) hM2.1
  have hcon : minL xs = maxL xs → b = 8 + (D : Int) := fun h => by
    rcases hR with ⟨_, _, _, h⟩ | ⟨h2, _⟩
    · exact h
    · exact absurd h h2
  have e710 := e8.trans (e9.trans e10)
  have gr10 := e710 _ _ g7
  have gg10 := (e9.trans e10) _ _ gg8
  have hq10 := hq.ex e710
  have hS10 := ex_l (e15.trans (e6.trans (e7.trans e710))) hS
  have tix : ∀ {σ : L2.St} {G : Hp} {j : Nat} {i : Int} {v : V}, σ[j]? = some (some (.ref t)) → G t = some (.tup [.ref p, .int b]) → atI [V.ref p, V.int b] i = some v → Ev (tOp (rIxT K) (tVar j) (tC (.int i))) σ G v := fun h g ha => ev_atT (ev_var h) (st_of g) ev_c ha
  clear e1 e2 e3 e4 e5 e6 e7 e8 e9 e10 e13 e15 e710 gr g7 gg8 hpg hrn hS hq hSb
  show tSeq _ _ _ [some (.ref a), some (.int f), some (.int (D : Int)), some (.int (n : Int)), some (.ref r), some (.ref q), some (.ref pg), some (.ref t), none, none, none, none, none] _
  refine q_when (b := false) (et_is (et_or (a := false) (b := false) (et_is (et_not (et_B (ev_isiTup (ev_var rfl) gt))) rfl) fun _ => et_or (a := false) (b := false) (et_is (et_test (ev_ne (ev_lenTup (ev_var rfl) gt) ev_c rfl)) rfl) fun _ => et_or (a := false) (b := false) (et_is (et_test (ev_neI (K := K) (ns := xs) (ms := xs) (Ev.s (ev_var rfl) (sq_of gg10)) (Ev.s (ev_var rfl) (sq_of gr10)))) (by simp)) fun _ => et_is (et_not (et_B (ev_isint (n := b) (tix rfl gt (at_of (j := 1) rfl rfl))))) rfl) rfl) (fun hb => by cases hb) fun _ H11 e11 => ?_
  refine q_when (b := false) (et_is (et_test (ev_I0 (g := fun i j => .bl (decide (j < i))) (tix rfl (e11 _ _ gt) (at_of (j := 1) rfl rfl)) (ev_I0 (g := fun i j => .int (i + j)) ev_c (ev_I (ev_var rfl) (Ev.is (ev_lenS (K := K) (Ev.s (ev_var rfl) (sq_of (e11 _ _ gr10)))) (by rw [List.length_map])) (.inl (by omega)))))) (decide_eq_false (by omega))) (fun hb => by cases hb) fun _ H12 e12 => ?_
  have e1112 := e11.trans e12
  refine q_when (b := false) (et_is (et_and (a := decide (minL xs = maxL xs)) (b := !decide (V.int b = V.int (8 + (D : Int)))) (et_B (ev_allq (e1112 _ _ gr10) h0 (by omega) rfl (fun _ => rfl) (fun _ => rfl) (fun _ => rfl))) fun _ => et_test (ev_ne (tix rfl (e1112 _ _ gt) (at_of (j := 1) rfl rfl)) (ev_I0 (g := fun i j => .int (i + j)) ev_c (ev_var rfl)) rfl)) (by
    by_cases h : minL xs = maxL xs
    · rw [hcon h, decide_eq_true (rfl : V.int (8 + (D : Int)) = V.int (8 + (D : Int)))]
      simp
    · rw [decide_eq_false h]
      rfl)) (fun hb => by cases hb) fun _ H13 e13 => ?_
  have e1113 := e1112.trans e13
  obtain ⟨dg, hdg⟩ : ∃ dg : Nat, cellI ns 3 % 5 = (dg : Int) := ⟨(cellI ns 3 % 5).toNat, by omega⟩
  obtain ⟨kk, hkk⟩ : ∃ kk : Nat, cellI ns 3 / 5 % 15 = (kk : Int) := ⟨(cellI ns 3 / 5 % 15).toNat, by omega⟩
  refine q_asg (v := .int (dg : Int)) (Ev.is (md (by decide) (ev_int1 (ev_cell (ev_var rfl) (ex_l e1113 hS10) ev_c (by decide)))) (congrArg V.int hdg)) fun H14 e14 => ?_
  have e1114 := e1113.trans e14
  show tSeq _ _ _ [some (.ref a), some (.int f), some (.int (D : Int)), some (.int (n : Int)), some (.ref r), some (.ref q), some (.ref pg), some (.ref t), some (.int (dg : Int)), none, none, none, none] _
  refine q_when (b := false) (et_is (et_not (et_B (ev_call (z := .bl true) (vs := [.ref r, .int (D : Int), .ref q, .int (dg : Int), .int (kk : Int), .int b]) (ea_cons (ev_var rfl) (ea_cons (ev_var rfl) (ea_cons (ev_var rfl) (ea_cons (ev_var rfl) (ea_cons (Ev.is (md (by decide) (dv (by decide) (ev_int1 (ev_cell (ev_var rfl) (ex_l e1114 hS10) ev_c (by decide))))) (congrArg V.int hkk)) (ea_cons (tix rfl (e1114 _ _ gt) (at_of (j := 1) rfl rfl)) ea_nil)))))) fun G e Q2 q2 _ => ⟨r, q, xs, D, fo, lin, pr, hi, dg, kk, se, wd, sr, ws, b, rfl, hq10.ex (e1114.trans e), (e1114.trans e) _ _ gr10, h0, hl64, by omega, by omega, by omega, (fun hws hne h1 h2 h3 => by subst hws; exact res_bound hR hne hM2.2 h1 h2 (by omega) h3), q2⟩))) rfl) (fun hb => by cases hb) fun _ H15 e15 => ?_
  have e1115 := e1114.trans e15
  have gr15 := e1115 _ _ gr10
  have gt15 := e1115 _ _ gt
  have hSf15 := hSf.ex e1115
  clear e11 e12 e13 e14 e15 e1112 e1113 e1114 e1115 gr10 gg10 gt hSf hq10 hS10 hcon hR
  obtain ⟨ms, hms⟩ : ∃ ms, sfB D s xs = ms := ⟨_, rfl⟩
  have hmsl := ok.bl
  rw [hms] at hmsl hbl
  subst hbl
  refine q_mkw (C := T.C_BitWriter) fun wa L H16 hwa hL e16 hW16 => ?_
  have nrL : r ≠ L := by rintro rfl; rw [gr15] at hL; cases hL
  have gr16 := e16 _ _ gr15
  have gt16 := e16 _ _ gt15
  have hSf16 := hSf15.ex e16
  clear gr15 gt15 hSf15 hL hwa e16
  refine q_dropC4 (x := .ref wa) (y := .int (D : Int)) (z := .ref p) (ev_var rfl) (ev_var rfl) (el_of (K := K) (Ev.s (ev_var rfl) (sq_of gr16))) (tix rfl gt16 (at_of (j := 0) rfl rfl)) fun pl H17 hpl e17 gpl => ⟨wa, L, pl, p, [], D, s, xs, rfl, hW16.ex e17, hSf16.ex e17, gpl, ok, by show 0 ≤ _; omega, fun H18 F18 hW18 => ?_⟩
  have hW17 := hW16.ex e17
  have gr18 := F18 _ _ (hW17.neL (e17 _ _ gr16)) nrL (e17 _ _ gr16)
  have gt18 := hW17.frT F18 (e17 _ _ gt16)
  have hSf18 := (hSf16.ex e17).fr hW17 F18
  rw [List.nil_append, hms] at hW18
  clear gr16 gt16 hSf16 hW17 hW16 e17 F18 gpl hpl
  refine q_when (b := false) (et_is (et_or (a := false) (b := false) (et_is (et_test (ev_ne (ev_wmany (ev_var rfl) hW18) (tix rfl gt18 (at_of (j := 1) rfl rfl)) rfl)) (by rw [decide_eq_true rfl]; rfl)) fun _ => et_is (et_test (ev_ne (ev_callAP (z := .int (ms.length : Int)) (ap_ev (ev_var rfl) (ap_l (el_of (K := K) (Ev.s (ev_var rfl) (sq_of gr18))) (ap_ev (tix rfl gt18 (at_of (j := 0) rfl rfl)) ap_nil))) (by
    rintro vs G eG ⟨_, rfl, q, _, rfl, _, gq, _, rfl, rfl⟩ Q2 E2 q2
    exact ⟨q, p, D, s, xs, rfl, hSf18.ex eG, gq, ok, fun G2 e2 => by rw [hms]; exact q2 G2 e2⟩)) (tix rfl gt18 (at_of (j := 1) rfl rfl)) rfl)) (by rw [decide_eq_true rfl]; rfl)) rfl) (fun hb => by cases hb) fun _ H19 e19 => ?_
  have hW19 := hW18.ex e19
  obtain ⟨dx19, ws19, hd19, nn19, ha19, _⟩ := hW19.len
  refine q_dropM (vs := []) (ev_var rfl) ha19 rfl ea_nil fun H20 e20 => ⟨wa, L, ms, rfl, hW19.ex e20, by omega, fun H21 F21 hW21 => ?_⟩
  have hW20 := hW19.ex e20
  have e1820 := e19.trans e20
  have gr21 := F21 _ _ (hW20.neL (e1820 _ _ gr18)) nrL (e1820 _ _ gr18)
  have gt21 := hW20.frT F21 (e1820 _ _ gt18)
  have hSf21 := (hSf18.ex e1820).fr hW20 F21
  clear gr18 gt18 hSf18 hW18 hW19 hW20 ha19 e19 e20 e1820 F21
  obtain ⟨us, hus, hul, hulen, hpad⟩ := us_pad (ms ++ List.replicate (padN ms.length) false)
  have hbp : padN ms.length ≤ 7 := by unfold padN; omega
  have hul2 : (ms ++ List.replicate (padN ms.length) false).length = ms.length + padN ms.length := by rw [List.length_append, List.length_replicate]
  rw [hul2] at hulen hpad
  refine q_mk_r0 (C := T.C_BitReader) (xs := (cs us).map V.int) (er_list (ev_var rfl) hW21 (by omega) hus hul) fun ra dd H22 hra nrd hdd e22 gdd hR22 => ?_
  have hRD22 : RdD T.C_BitReader H22 ra dd us 0 := ⟨hR22, gdd, hul, by omega⟩
  have gr22 := e22 _ _ gr21
  have gt22 := e22 _ _ gt21
  have hSf22 := hSf21.ex e22
  clear gr21 gt21 hSf21 hW21 e22 hR22 gdd hdd hra
  have hB : Has (us.flatMap bits8) 0 (sfB D s xs) := ⟨[], List.replicate (padN ms.length) false ++ List.replicate (padN (ms ++ List.replicate (padN ms.length) false).length) false, by rw [hus, hms]; simp only [List.append_assoc, List.nil_append], rfl⟩
  refine q_asgC (vs := [.ref ra, .int (D : Int), .int (xs.length : Int)]) (ea_cons (ev_var rfl) (ea_cons (ev_var rfl) (ea_cons (Ev.is (ev_lenS (K := K) (Ev.s (ev_var rfl) (sq_of gr22))) (by rw [List.length_map])) ea_nil))) fun H23 e23 => ⟨ra, dd, us, 0, D, s, xs, rfl, hRD22.ex e23, ok, hB, fun t2 pv p2 H24 hpv F24 gt2 gv hSp hR24 => ?_⟩
  have hRD23 := hRD22.ex e23
  have gr24 := F24 _ _ (hRD23.1.ne (e23 _ _ gr22)) (e23 _ _ gr22)
  have gt24 := F24 _ _ (hRD23.neT (e23 _ _ gt22)) (e23 _ _ gt22)
  have hSf24 := (hSf22.ex e23).frA hRD23.1 F24
  rw [hms, Nat.zero_add] at hR24
  clear gr22 gt22 hSf22 hRD22 hRD23 e23 F24
  show tSeq _ _ _ [some (.ref a), some (.int f), some (.int (D : Int)), some (.int (n : Int)), some (.ref r), some (.ref q), some (.ref pg), some (.ref t), some (.int (dg : Int)), some (.ref wa), some (.ref ra), some (.ref t2), none] _
  have tjx : ∀ {σ : L2.St} {G : Hp} {i : Int} {v : V}, σ[11]? = some (some (.ref t2)) → G t2 = some (.tup [.ref pv, .ref p2]) → atI [V.ref pv, V.ref p2] i = some v → Ev (tOp (rIxT K) (tVar 11) (tC (.int i))) σ G v := fun h g ha => ev_atT (ev_var h) (st_of g) ev_c ha
  refine q_when (b := false) (et_is (et_or (a := false) (b := false) (et_is (et_not (et_B (ev_isiTup (ev_var rfl) gt2))) rfl) fun _ => et_or (a := false) (b := false) (et_is (et_test (ev_ne (ev_lenTup (ev_var rfl) gt2) ev_c rfl)) rfl) fun _ => et_is (et_not (et_B (ev_call (z := .bl true) (vs := [.ref pv]) (ea_cons (tjx rfl gt2 (at_of (j := 0) rfl rfl)) ea_nil) fun G e Q2 q2 _ => ⟨pv, xs, rfl, e _ _ gv, by omega, q2⟩))) rfl) rfl) (fun hb => by cases hb) fun _ H25 e25 => ?_
  exact s_ret (v := .bl true) (Ev.is (ev_andV (a := true) (b := true) (Ev.is (ev_eqI (K := K) (ns := xs) (ms := xs) (Ev.s (tjx rfl (e25 _ _ gt2) (at_of (j := 0) rfl rfl)) (sq_of (e25 _ _ gv))) (Ev.s (ev_var rfl) (sq_of (e25 _ _ gr24)))) (by rw [decide_eq_true rfl])) fun _ => Ev.is (ev_andV (a := true) (b := true) (ev_eqDD (K := K) (d := fldD s) (ed_lfields (tjx rfl (e25 _ _ gt2) (at_of (j := 1) rfl rfl)) (hSp.ex e25)) (ed_lfields (tix rfl (e25 _ _ gt24) (at_of (j := 0) rfl rfl)) (hSf24.ex e25)) (shaped_fld s)) fun _ => Ev.is (ev_eq (ev_place (f := fun pos => (pos : Nat)) (ev_var rfl) (hR24.ex e25).1 rfl) (tix rfl (e25 _ _ gt24) (at_of (j := 1) rfl rfl)) rfl) (congrArg V.bl (decide_eq_true rfl))) rfl) rfl) fun H26 e26 => k _

-- LAWC
end
theorem ml1 {α : Type} : ∀ {us : List α}, us.length = 1 → ∃ x0, us = [x0]
  | [x0], _ => ⟨x0, rfl⟩
theorem ml2 {α : Type} : ∀ {us : List α}, us.length = 2 → ∃ x0 x1, us = [x0, x1]
  | [x0, x1], _ => ⟨x0, x1, rfl⟩
theorem ml3 {α : Type} : ∀ {us : List α}, us.length = 3 → ∃ x0 x1 x2, us = [x0, x1, x2]
  | [x0, x1, x2], _ => ⟨x0, x1, x2, rfl⟩
theorem ml4 {α : Type} : ∀ {us : List α}, us.length = 4 → ∃ x0 x1 x2 x3, us = [x0, x1, x2, x3]
  | [x0, x1, x2, x3], _ => ⟨x0, x1, x2, x3, rfl⟩
theorem ml5 {α : Type} : ∀ {us : List α}, us.length = 5 → ∃ x0 x1 x2 x3 x4, us = [x0, x1, x2, x3, x4]
  | [x0, x1, x2, x3, x4], _ => ⟨x0, x1, x2, x3, x4, rfl⟩
theorem ml6 {α : Type} : ∀ {us : List α}, us.length = 6 → ∃ x0 x1 x2 x3 x4 x5, us = [x0, x1, x2, x3, x4, x5]
  | [x0, x1, x2, x3, x4, x5], _ => ⟨x0, x1, x2, x3, x4, x5, rfl⟩
theorem ml8 {α : Type} : ∀ {us : List α}, us.length = 8 → ∃ x0 x1 x2 x3 x4 x5 x6 x7, us = [x0, x1, x2, x3, x4, x5, x6, x7]
  | [x0, x1, x2, x3, x4, x5, x6, x7], _ => ⟨x0, x1, x2, x3, x4, x5, x6, x7, rfl⟩
set_option maxHeartbeats 0 in
theorem all_mk {l : PySem.W.OpenLaw} {w : World} {K : PySem.W.Frag} {h : Heap} {mg : Str → Option Value} {fa : Addr} {f1 f2 f3 f4 f5 f6 f7 f8 f9 f10 f11 f12 f13 f14 f15 f16 f17 f18 f19 f20 f21 f22 f23 f24 f25 f26 f27 f28 f29 f30 f31 f32 f33 f34 f35 f36 f37 f38 f39 f40 f41 f42 f43 e_Subframe_init_coefficients f44 f45 f46 f47 f48 f49 f50 f51 f52 f53 f54 f55 f56 f57 f58 f59 f60 f61 f62 f63 f64 f65 f66 f67 f68 f69 f70 f71 f72 f73 f74 f75 f76 f77 f78 f79 f80 f81 f82 f83 f84 f85 f86 f87 f88 f89 f90 f91 f92 C_Subframe C_BitWriter C_BitReader C_Settings A_PARAMETERS : Addr} (X : K.In h) (G : h.Ns mainGlobals mg) (hfa : mg "law" = some (.ref fa))
    {od1 an1 : Option Addr} {sl1 : Array (Option Value)} {oc1 dc1 pm1 cd1 ct1 : Value} {kV1 : Value} {od2 an2 : Option Addr} {sl2 : Array (Option Value)} {oc2 dc2 pm2 cd2 ct2 : Value} {DK2 : Addr} {ku2_0 : Value} {od3 an3 : Option Addr} {sl3 : Array (Option Value)} {oc3 dc3 pm3 cd3 ct3 : Value} {kV3 : Value} {od4 an4 : Option Addr} {sl4 : Array (Option Value)} {oc4 dc4 pm4 cd4 ct4 : Value} {kV4 : Value} {od5 an5 : Option Addr} {sl5 : Array (Option Value)} {oc5 dc5 pm5 cd5 ct5 : Value} {DK5 : Addr} {ku5_0 : Value} {od6 an6 : Option Addr} {sl6 : Array (Option Value)} {oc6 dc6 pm6 cd6 ct6 : Value} {kV6 : Value} {od7 an7 : Option Addr} {sl7 : Array (Option Value)} {oc7 dc7 pm7 cd7 ct7 : Value} {kV7 : Value} {od8 an8 : Option Addr} {sl8 : Array (Option Value)} {oc8 dc8 pm8 cd8 ct8 : Value} {kV8 : Value} {od9 an9 : Option Addr} {sl9 : Array (Option Value)} {oc9 dc9 pm9 cd9 ct9 : Value} {kV9 : Value} {od10 an10 : Option Addr} {sl10 : Array (Option Value)} {oc10 dc10 pm10 cd10 ct10 : Value} {kV10 : Value} {od11 an11 : Option Addr} {sl11 : Array (Option Value)} {oc11 dc11 pm11 cd11 ct11 : Value} {kV11 : Value} {od12 an12 : Option Addr} {sl12 : Array (Option Value)} {oc12 dc12 pm12 cd12 ct12 : Value} {kV12 : Value} {od13 an13 : Option Addr} {sl13 : Array (Option Value)} {oc13 dc13 pm13 cd13 ct13 : Value} {kV13 : Value} {od14 an14 : Option Addr} {sl14 : Array (Option Value)} {oc14 dc14 pm14 cd14 ct14 : Value} {kV14 : Value} {od15 an15 : Option Addr} {sl15 : Array (Option Value)} {oc15 dc15 pm15 cd15 ct15 : Value} {kV15 : Value} {od16 an16 : Option Addr} {sl16 : Array (Option Value)} {oc16 dc16 pm16 cd16 ct16 : Value} {kV16 : Value} {od17 an17 : Option Addr} {sl17 : Array (Option Value)} {oc17 dc17 pm17 cd17 ct17 : Value} {kV17 : Value} {od18 an18 : Option Addr} {sl18 : Array (Option Value)} {oc18 dc18 pm18 cd18 ct18 : Value} {kV18 : Value} {od19 an19 : Option Addr} {sl19 : Array (Option Value)} {oc19 dc19 pm19 cd19 ct19 : Value} {kV19 : Value} {od20 an20 : Option Addr} {sl20 : Array (Option Value)} {oc20 dc20 pm20 cd20 ct20 : Value} {kV20 : Value} {od21 an21 : Option Addr} {sl21 : Array (Option Value)} {oc21 dc21 pm21 cd21 ct21 : Value} {kV21 : Value} {od22 an22 : Option Addr} {sl22 : Array (Option Value)} {oc22 dc22 pm22 cd22 ct22 : Value} {kV22 : Value} {od23 an23 : Option Addr} {sl23 : Array (Option Value)} {oc23 dc23 pm23 cd23 ct23 : Value} {kV23 : Value} {od24 an24 : Option Addr} {sl24 : Array (Option Value)} {oc24 dc24 pm24 cd24 ct24 : Value} {kV24 : Value} {od25 an25 : Option Addr} {sl25 : Array (Option Value)} {oc25 dc25 pm25 cd25 ct25 : Value} {kV25 : Value} {od26 an26 : Option Addr} {sl26 : Array (Option Value)} {oc26 dc26 pm26 cd26 ct26 : Value} {kV26 : Value} {od27 an27 : Option Addr} {sl27 : Array (Option Value)} {oc27 dc27 pm27 cd27 ct27 : Value} {kV27 : Value} {od28 an28 : Option Addr} {sl28 : Array (Option Value)} {oc28 dc28 pm28 cd28 ct28 : Value} {kV28 : Value} {od29 an29 : Option Addr} {sl29 : Array (Option Value)} {oc29 dc29 pm29 cd29 ct29 : Value} {kV29 : Value} {od30 an30 : Option Addr} {sl30 : Array (Option Value)} {oc30 dc30 pm30 cd30 ct30 : Value} {kV30 : Value} {od31 an31 : Option Addr} {sl31 : Array (Option Value)} {oc31 dc31 pm31 cd31 ct31 : Value} {kV31 : Value} {od32 an32 : Option Addr} {sl32 : Array (Option Value)} {oc32 dc32 pm32 cd32 ct32 : Value} {kV32 : Value} {od33 an33 : Option Addr} {sl33 : Array (Option Value)} {oc33 dc33 pm33 cd33 ct33 : Value} {kV33 : Value} {od34 an34 : Option Addr} {sl34 : Array (Option Value)} {oc34 dc34 pm34 cd34 ct34 : Value} {kV34 : Value} {od35 an35 : Option Addr} {sl35 : Array (Option Value)} {oc35 dc35 pm35 cd35 ct35 : Value} {kV35 : Value} {od36 an36 : Option Addr} {sl36 : Array (Option Value)} {oc36 dc36 pm36 cd36 ct36 : Value} {kV36 : Value} {od37 an37 : Option Addr} {sl37 : Array (Option Value)} {oc37 dc37 pm37 cd37 ct37 : Value} {kV37 : Value} {od38 an38 : Option Addr} {sl38 : Array (Option Value)} {oc38 dc38 pm38 cd38 ct38 : Value} {kV38 : Value} {od39 an39 : Option Addr} {sl39 : Array (Option Value)} {oc39 dc39 pm39 cd39 ct39 : Value} {kV39 : Value} {od40 an40 : Option Addr} {sl40 : Array (Option Value)} {oc40 dc40 pm40 cd40 ct40 : Value} {kV40 : Value} {od41 an41 : Option Addr} {sl41 : Array (Option Value)} {oc41 dc41 pm41 cd41 ct41 : Value} {kV41 : Value} {od42 an42 : Option Addr} {sl42 : Array (Option Value)} {oc42 dc42 pm42 cd42 ct42 : Value} {kV42 : Value} {od43 an43 : Option Addr} {sl43 : Array (Option Value)} {oc43 dc43 pm43 cd43 ct43 : Value} {DK43 : Addr} {ku43_0 : Value} {ku43_1 : Value} {ku43_2 : Value} {nxe_Subframe_init_coefficients : Nat} {dxe_Subframe_init_coefficients : Option Addr} {sxe_Subframe_init_coefficients : Array (Option Value)} {ku43_4 : Value} {ku43_5 : Value} {od44 an44 : Option Addr} {sl44 : Array (Option Value)} {oc44 dc44 pm44 cd44 ct44 : Value} {kV44 : Value} {od45 an45 : Option Addr} {sl45 : Array (Option Value)} {oc45 dc45 pm45 cd45 ct45 : Value} {kV45 : Value} {od46 an46 : Option Addr} {sl46 : Array (Option Value)} {oc46 dc46 pm46 cd46 ct46 : Value} {kV46 : Value} {od47 an47 : Option Addr} {sl47 : Array (Option Value)} {oc47 dc47 pm47 cd47 ct47 : Value} {kV47 : Value} {od48 an48 : Option Addr} {sl48 : Array (Option Value)} {oc48 dc48 pm48 cd48 ct48 : Value} {kV48 : Value} {od49 an49 : Option Addr} {sl49 : Array (Option Value)} {oc49 dc49 pm49 cd49 ct49 : Value} {kV49 : Value} {od50 an50 : Option Addr} {sl50 : Array (Option Value)} {oc50 dc50 pm50 cd50 ct50 : Value} {kV50 : Value} {od51 an51 : Option Addr} {sl51 : Array (Option Value)} {oc51 dc51 pm51 cd51 ct51 : Value} {kV51 : Value} {od52 an52 : Option Addr} {sl52 : Array (Option Value)} {oc52 dc52 pm52 cd52 ct52 : Value} {kV52 : Value} {od53 an53 : Option Addr} {sl53 : Array (Option Value)} {oc53 dc53 pm53 cd53 ct53 : Value} {kV53 : Value} {od54 an54 : Option Addr} {sl54 : Array (Option Value)} {oc54 dc54 pm54 cd54 ct54 : Value} {kV54 : Value} {od55 an55 : Option Addr} {sl55 : Array (Option Value)} {oc55 dc55 pm55 cd55 ct55 : Value} {kV55 : Value} {od56 an56 : Option Addr} {sl56 : Array (Option Value)} {oc56 dc56 pm56 cd56 ct56 : Value} {kV56 : Value} {od57 an57 : Option Addr} {sl57 : Array (Option Value)} {oc57 dc57 pm57 cd57 ct57 : Value} {kV57 : Value} {od58 an58 : Option Addr} {sl58 : Array (Option Value)} {oc58 dc58 pm58 cd58 ct58 : Value} {kV58 : Value} {od59 an59 : Option Addr} {sl59 : Array (Option Value)} {oc59 dc59 pm59 cd59 ct59 : Value} {kV59 : Value} {od60 an60 : Option Addr} {sl60 : Array (Option Value)} {oc60 dc60 pm60 cd60 ct60 : Value} {kV60 : Value} {od61 an61 : Option Addr} {sl61 : Array (Option Value)} {oc61 dc61 pm61 cd61 ct61 : Value} {kV61 : Value} {od62 an62 : Option Addr} {sl62 : Array (Option Value)} {oc62 dc62 pm62 cd62 ct62 : Value} {kV62 : Value} {od63 an63 : Option Addr} {sl63 : Array (Option Value)} {oc63 dc63 pm63 cd63 ct63 : Value} {kV63 : Value} {od64 an64 : Option Addr} {sl64 : Array (Option Value)} {oc64 dc64 pm64 cd64 ct64 : Value} {kV64 : Value} {od65 an65 : Option Addr} {sl65 : Array (Option Value)} {oc65 dc65 pm65 cd65 ct65 : Value} {kV65 : Value} {od66 an66 : Option Addr} {sl66 : Array (Option Value)} {oc66 dc66 pm66 cd66 ct66 : Value} {kV66 : Value} {od67 an67 : Option Addr} {sl67 : Array (Option Value)} {oc67 dc67 pm67 cd67 ct67 : Value} {kV67 : Value} {od68 an68 : Option Addr} {sl68 : Array (Option Value)} {oc68 dc68 pm68 cd68 ct68 : Value} {kV68 : Value} {od69 an69 : Option Addr} {sl69 : Array (Option Value)} {oc69 dc69 pm69 cd69 ct69 : Value} {kV69 : Value} {od70 an70 : Option Addr} {sl70 : Array (Option Value)} {oc70 dc70 pm70 cd70 ct70 : Value} {kV70 : Value} {od71 an71 : Option Addr} {sl71 : Array (Option Value)} {oc71 dc71 pm71 cd71 ct71 : Value} {kV71 : Value} {od72 an72 : Option Addr} {sl72 : Array (Option Value)} {oc72 dc72 pm72 cd72 ct72 : Value} {kV72 : Value} {od73 an73 : Option Addr} {sl73 : Array (Option Value)} {oc73 dc73 pm73 cd73 ct73 : Value} {kV73 : Value} {od74 an74 : Option Addr} {sl74 : Array (Option Value)} {oc74 dc74 pm74 cd74 ct74 : Value} {kV74 : Value} {od75 an75 : Option Addr} {sl75 : Array (Option Value)} {oc75 dc75 pm75 cd75 ct75 : Value} {kV75 : Value} {od76 an76 : Option Addr} {sl76 : Array (Option Value)} {oc76 dc76 pm76 cd76 ct76 : Value} {kV76 : Value} {DT76 : Addr} {du76_0 tc76 : Value} {td76 : Option Addr} {tn76 : Nat} {tsl76 : Array (Option Value)} {od77 an77 : Option Addr} {sl77 : Array (Option Value)} {oc77 dc77 pm77 cd77 ct77 : Value} {kV77 : Value} {od78 an78 : Option Addr} {sl78 : Array (Option Value)} {oc78 dc78 pm78 cd78 ct78 : Value} {kV78 : Value} {od79 an79 : Option Addr} {sl79 : Array (Option Value)} {oc79 dc79 pm79 cd79 ct79 : Value} {kV79 : Value} {od80 an80 : Option Addr} {sl80 : Array (Option Value)} {oc80 dc80 pm80 cd80 ct80 : Value} {kV80 : Value} {od81 an81 : Option Addr} {sl81 : Array (Option Value)} {oc81 dc81 pm81 cd81 ct81 : Value} {kV81 : Value} {od82 an82 : Option Addr} {sl82 : Array (Option Value)} {oc82 dc82 pm82 cd82 ct82 : Value} {kV82 : Value} {od83 an83 : Option Addr} {sl83 : Array (Option Value)} {oc83 dc83 pm83 cd83 ct83 : Value} {DK83 : Addr} {ku83_0 : Value} {ku83_1 : Value} {ku83_2 : Value} {ku83_3 : Value} {ku83_4 : Value} {ku83_5 : Value} {ku83_6 : Value} {ku83_7 : Value} {ku83_8 : Value} {ku83_9 : Value} {ku83_10 : Value} {od84 an84 : Option Addr} {sl84 : Array (Option Value)} {oc84 dc84 pm84 cd84 ct84 : Value} {kV84 : Value} {od85 an85 : Option Addr} {sl85 : Array (Option Value)} {oc85 dc85 pm85 cd85 ct85 : Value} {kV85 : Value} {od86 an86 : Option Addr} {sl86 : Array (Option Value)} {oc86 dc86 pm86 cd86 ct86 : Value} {kV86 : Value} {od87 an87 : Option Addr} {sl87 : Array (Option Value)} {oc87 dc87 pm87 cd87 ct87 : Value} {kV87 : Value} {od88 an88 : Option Addr} {sl88 : Array (Option Value)} {oc88 dc88 pm88 cd88 ct88 : Value} {kV88 : Value} {od89 an89 : Option Addr} {sl89 : Array (Option Value)} {oc89 dc89 pm89 cd89 ct89 : Value} {kV89 : Value} {od90 an90 : Option Addr} {sl90 : Array (Option Value)} {oc90 dc90 pm90 cd90 ct90 : Value} {kV90 : Value} {od91 an91 : Option Addr} {sl91 : Array (Option Value)} {oc91 dc91 pm91 cd91 ct91 : Value} {kV91 : Value} {od92 an92 : Option Addr} {sl92 : Array (Option Value)} {oc92 dc92 pm92 cd92 ct92 : Value} {kV92 : Value} {u_BOUND_residual : Value} {wPARAMETERS_0 wPARAMETERS_1 : Value} {nxPARAMETERS : Nat} {sxPARAMETERS : Array (Option Value)} {u_MOST_RAW_WIDTH : Value} {u_HEAD_BITS : Value} {u_MOST_SHIFT : Value} {u_BOUND_choice : Value} {u_HEADER_BITS : Value} {u_PREDICTOR_BITS : Value} {u_MOST_ZEROS : Value}
    (a1 : PySem.W.nsIn K mainGlobals "fixed_residuals" = some (some (.ref f1)))
    (l1 : K.lookup f1 = some ⟨oc1, od1, .func (PySem.W.fnOf "fixed_residuals" "fixed_residuals" (defArgs s_fixed_residuals) (defBody s_fixed_residuals) (defScope s_fixed_residuals) .none kV1 dc1 pm1 an1 cd1 ct1), sl1⟩) (c1 : PySem.W.codeIn K cd1 "fixed_residuals" = true) (k1 : PySem.W.keepIn K (.ref f1) = true)
    (a2 : PySem.W.nsIn K mainGlobals "fixed_samples" = some (some (.ref f2)))
    (l2 : K.lookup f2 = some ⟨oc2, od2, .func (PySem.W.fnOf "fixed_samples" "fixed_samples" (defArgs s_fixed_samples) (defBody s_fixed_samples) (defScope s_fixed_samples) .none (.ref DK2) dc2 pm2 an2 cd2 ct2), sl2⟩) (c2 : PySem.W.codeIn K cd2 "fixed_samples" = true) (k2 : PySem.W.keepIn K (.ref f2) = true)
    (kq2_0 : PySem.W.nsIn K DK2 "limit" = some (some ku2_0)) (rk2_0 : RelV (V.non) ku2_0)
    (a3 : PySem.W.nsIn K mainGlobals "prediction_fixed" = some (some (.ref f3)))
    (l3 : K.lookup f3 = some ⟨oc3, od3, .func (PySem.W.fnOf "_prediction" "_prediction" (defArgs s_prediction_fixed) (defBody s_prediction_fixed) (defScope s_prediction_fixed) .none kV3 dc3 pm3 an3 cd3 ct3), sl3⟩) (c3 : PySem.W.codeIn K cd3 "_prediction" = true) (k3 : PySem.W.keepIn K (.ref f3) = true)
    (a4 : PySem.W.nsIn K mainGlobals "linear_residuals" = some (some (.ref f4)))
    (l4 : K.lookup f4 = some ⟨oc4, od4, .func (PySem.W.fnOf "linear_residuals" "linear_residuals" (defArgs s_linear_residuals) (defBody s_linear_residuals) (defScope s_linear_residuals) .none kV4 dc4 pm4 an4 cd4 ct4), sl4⟩) (c4 : PySem.W.codeIn K cd4 "linear_residuals" = true) (k4 : PySem.W.keepIn K (.ref f4) = true)
    (a5 : PySem.W.nsIn K mainGlobals "linear_samples" = some (some (.ref f5)))
    (l5 : K.lookup f5 = some ⟨oc5, od5, .func (PySem.W.fnOf "linear_samples" "linear_samples" (defArgs s_linear_samples) (defBody s_linear_samples) (defScope s_linear_samples) .none (.ref DK5) dc5 pm5 an5 cd5 ct5), sl5⟩) (c5 : PySem.W.codeIn K cd5 "linear_samples" = true) (k5 : PySem.W.keepIn K (.ref f5) = true)
    (kq5_0 : PySem.W.nsIn K DK5 "limit" = some (some ku5_0)) (rk5_0 : RelV (V.non) ku5_0)
    (a6 : PySem.W.nsIn K mainGlobals "prediction_linear" = some (some (.ref f6)))
    (l6 : K.lookup f6 = some ⟨oc6, od6, .func (PySem.W.fnOf "_prediction" "_prediction" (defArgs s_prediction_linear) (defBody s_prediction_linear) (defScope s_prediction_linear) .none kV6 dc6 pm6 an6 cd6 ct6), sl6⟩) (c6 : PySem.W.codeIn K cd6 "_prediction" = true) (k6 : PySem.W.keepIn K (.ref f6) = true)
    (a7 : PySem.W.nsIn K mainGlobals "fold" = some (some (.ref f7)))
    (l7 : K.lookup f7 = some ⟨oc7, od7, .func (PySem.W.fnOf "fold" "fold" (defArgs s_fold) (defBody s_fold) (defScope s_fold) .none kV7 dc7 pm7 an7 cd7 ct7), sl7⟩) (c7 : PySem.W.codeIn K cd7 "fold" = true) (k7 : PySem.W.keepIn K (.ref f7) = true)
    (a8 : PySem.W.nsIn K mainGlobals "unfold" = some (some (.ref f8)))
    (l8 : K.lookup f8 = some ⟨oc8, od8, .func (PySem.W.fnOf "unfold" "unfold" (defArgs s_unfold) (defBody s_unfold) (defScope s_unfold) .none kV8 dc8 pm8 an8 cd8 ct8), sl8⟩) (c8 : PySem.W.codeIn K cd8 "unfold" = true) (k8 : PySem.W.keepIn K (.ref f8) = true)
    (a9 : PySem.W.nsIn K mainGlobals "code_length" = some (some (.ref f9)))
    (l9 : K.lookup f9 = some ⟨oc9, od9, .func (PySem.W.fnOf "code_length" "code_length" (defArgs s_code_length) (defBody s_code_length) (defScope s_code_length) .none kV9 dc9 pm9 an9 cd9 ct9), sl9⟩) (c9 : PySem.W.codeIn K cd9 "code_length" = true) (k9 : PySem.W.keepIn K (.ref f9) = true)
    (a10 : PySem.W.nsIn K mainGlobals "write_code" = some (some (.ref f10)))
    (l10 : K.lookup f10 = some ⟨oc10, od10, .func (PySem.W.fnOf "write_code" "write_code" (defArgs s_write_code) (defBody s_write_code) (defScope s_write_code) .none kV10 dc10 pm10 an10 cd10 ct10), sl10⟩) (c10 : PySem.W.codeIn K cd10 "write_code" = true) (k10 : PySem.W.keepIn K (.ref f10) = true)
    (a11 : PySem.W.nsIn K mainGlobals "read_code" = some (some (.ref f11)))
    (l11 : K.lookup f11 = some ⟨oc11, od11, .func (PySem.W.fnOf "read_code" "read_code" (defArgs s_read_code) (defBody s_read_code) (defScope s_read_code) .none kV11 dc11 pm11 an11 cd11 ct11), sl11⟩) (c11 : PySem.W.codeIn K cd11 "read_code" = true) (k11 : PySem.W.keepIn K (.ref f11) = true)
    (a12 : PySem.W.nsIn K mainGlobals "legal_partition_order" = some (some (.ref f12)))
    (l12 : K.lookup f12 = some ⟨oc12, od12, .func (PySem.W.fnOf "legal_partition_order" "legal_partition_order" (defArgs s_legal_partition_order) (defBody s_legal_partition_order) (defScope s_legal_partition_order) .none kV12 dc12 pm12 an12 cd12 ct12), sl12⟩) (c12 : PySem.W.codeIn K cd12 "legal_partition_order" = true) (k12 : PySem.W.keepIn K (.ref f12) = true)
    (a13 : PySem.W.nsIn K mainGlobals "partition_sizes" = some (some (.ref f13)))
    (l13 : K.lookup f13 = some ⟨oc13, od13, .func (PySem.W.fnOf "partition_sizes" "partition_sizes" (defArgs s_partition_sizes) (defBody s_partition_sizes) (defScope s_partition_sizes) .none kV13 dc13 pm13 an13 cd13 ct13), sl13⟩) (c13 : PySem.W.codeIn K cd13 "partition_sizes" = true) (k13 : PySem.W.keepIn K (.ref f13) = true)
    (a14 : PySem.W.nsIn K mainGlobals "residual_bits" = some (some (.ref f14)))
    (l14 : K.lookup f14 = some ⟨oc14, od14, .func (PySem.W.fnOf "residual_bits" "residual_bits" (defArgs s_residual_bits) (defBody s_residual_bits) (defScope s_residual_bits) .none kV14 dc14 pm14 an14 cd14 ct14), sl14⟩) (c14 : PySem.W.codeIn K cd14 "residual_bits" = true) (k14 : PySem.W.keepIn K (.ref f14) = true)
    (a15 : PySem.W.nsIn K mainGlobals "write_residuals" = some (some (.ref f15)))
    (l15 : K.lookup f15 = some ⟨oc15, od15, .func (PySem.W.fnOf "write_residuals" "write_residuals" (defArgs s_write_residuals) (defBody s_write_residuals) (defScope s_write_residuals) .none kV15 dc15 pm15 an15 cd15 ct15), sl15⟩) (c15 : PySem.W.codeIn K cd15 "write_residuals" = true) (k15 : PySem.W.keepIn K (.ref f15) = true)
    (a16 : PySem.W.nsIn K mainGlobals "read_residuals" = some (some (.ref f16)))
    (l16 : K.lookup f16 = some ⟨oc16, od16, .func (PySem.W.fnOf "read_residuals" "read_residuals" (defArgs s_read_residuals) (defBody s_read_residuals) (defScope s_read_residuals) .none kV16 dc16 pm16 an16 cd16 ct16), sl16⟩) (c16 : PySem.W.codeIn K cd16 "read_residuals" = true) (k16 : PySem.W.keepIn K (.ref f16) = true)
    (a17 : PySem.W.nsIn K mainGlobals "_parts" = some (some (.ref f17)))
    (l17 : K.lookup f17 = some ⟨oc17, od17, .func (PySem.W.fnOf "_parts" "_parts" (defArgs s_parts) (defBody s_parts) (defScope s_parts) .none kV17 dc17 pm17 an17 cd17 ct17), sl17⟩) (c17 : PySem.W.codeIn K cd17 "_parts" = true) (k17 : PySem.W.keepIn K (.ref f17) = true)
    (a18 : PySem.W.nsIn K mainGlobals "_coding_width" = some (some (.ref f18)))
    (l18 : K.lookup f18 = some ⟨oc18, od18, .func (PySem.W.fnOf "_coding_width" "_coding_width" (defArgs s_coding_width) (defBody s_coding_width) (defScope s_coding_width) .none kV18 dc18 pm18 an18 cd18 ct18), sl18⟩) (c18 : PySem.W.codeIn K cd18 "_coding_width" = true) (k18 : PySem.W.keepIn K (.ref f18) = true)
    (a19 : PySem.W.nsIn K mainGlobals "_raw_mark" = some (some (.ref f19)))
    (l19 : K.lookup f19 = some ⟨oc19, od19, .func (PySem.W.fnOf "_raw_mark" "_raw_mark" (defArgs s_raw_mark) (defBody s_raw_mark) (defScope s_raw_mark) .none kV19 dc19 pm19 an19 cd19 ct19), sl19⟩) (c19 : PySem.W.codeIn K cd19 "_raw_mark" = true) (k19 : PySem.W.keepIn K (.ref f19) = true)
    (a20 : PySem.W.nsIn K mainGlobals "_part_bits" = some (some (.ref f20)))
    (l20 : K.lookup f20 = some ⟨oc20, od20, .func (PySem.W.fnOf "_part_bits" "_part_bits" (defArgs s_part_bits) (defBody s_part_bits) (defScope s_part_bits) .none kV20 dc20 pm20 an20 cd20 ct20), sl20⟩) (c20 : PySem.W.codeIn K cd20 "_part_bits" = true) (k20 : PySem.W.keepIn K (.ref f20) = true)
    (a21 : PySem.W.nsIn K mainGlobals "_write_coding" = some (some (.ref f21)))
    (l21 : K.lookup f21 = some ⟨oc21, od21, .func (PySem.W.fnOf "_write_coding" "_write_coding" (defArgs s_write_coding) (defBody s_write_coding) (defScope s_write_coding) .none kV21 dc21 pm21 an21 cd21 ct21), sl21⟩) (c21 : PySem.W.codeIn K cd21 "_write_coding" = true) (k21 : PySem.W.keepIn K (.ref f21) = true)
    (a22 : PySem.W.nsIn K mainGlobals "_write_part" = some (some (.ref f22)))
    (l22 : K.lookup f22 = some ⟨oc22, od22, .func (PySem.W.fnOf "_write_part" "_write_part" (defArgs s_write_part) (defBody s_write_part) (defScope s_write_part) .none kV22 dc22 pm22 an22 cd22 ct22), sl22⟩) (c22 : PySem.W.codeIn K cd22 "_write_part" = true) (k22 : PySem.W.keepIn K (.ref f22) = true)
    (a23 : PySem.W.nsIn K mainGlobals "_read_method" = some (some (.ref f23)))
    (l23 : K.lookup f23 = some ⟨oc23, od23, .func (PySem.W.fnOf "_read_method" "_read_method" (defArgs s_read_method) (defBody s_read_method) (defScope s_read_method) .none kV23 dc23 pm23 an23 cd23 ct23), sl23⟩) (c23 : PySem.W.codeIn K cd23 "_read_method" = true) (k23 : PySem.W.keepIn K (.ref f23) = true)
    (a24 : PySem.W.nsIn K mainGlobals "_read_partition_order" = some (some (.ref f24)))
    (l24 : K.lookup f24 = some ⟨oc24, od24, .func (PySem.W.fnOf "_read_partition_order" "_read_partition_order" (defArgs s_read_partition_order) (defBody s_read_partition_order) (defScope s_read_partition_order) .none kV24 dc24 pm24 an24 cd24 ct24), sl24⟩) (c24 : PySem.W.codeIn K cd24 "_read_partition_order" = true) (k24 : PySem.W.keepIn K (.ref f24) = true)
    (a25 : PySem.W.nsIn K mainGlobals "_read_coding" = some (some (.ref f25)))
    (l25 : K.lookup f25 = some ⟨oc25, od25, .func (PySem.W.fnOf "_read_coding" "_read_coding" (defArgs s_read_coding) (defBody s_read_coding) (defScope s_read_coding) .none kV25 dc25 pm25 an25 cd25 ct25), sl25⟩) (c25 : PySem.W.codeIn K cd25 "_read_coding" = true) (k25 : PySem.W.keepIn K (.ref f25) = true)
    (a26 : PySem.W.nsIn K mainGlobals "_read_part" = some (some (.ref f26)))
    (l26 : K.lookup f26 = some ⟨oc26, od26, .func (PySem.W.fnOf "_read_part" "_read_part" (defArgs s_read_part) (defBody s_read_part) (defScope s_read_part) .none kV26 dc26 pm26 an26 cd26 ct26), sl26⟩) (c26 : PySem.W.codeIn K cd26 "_read_part" = true) (k26 : PySem.W.keepIn K (.ref f26) = true)
    (a27 : PySem.W.nsIn K mainGlobals "_read_residual" = some (some (.ref f27)))
    (l27 : K.lookup f27 = some ⟨oc27, od27, .func (PySem.W.fnOf "_read_residual" "_read_residual" (defArgs s_read_residual) (defBody s_read_residual) (defScope s_read_residual) .none kV27 dc27 pm27 an27 cd27 ct27), sl27⟩) (c27 : PySem.W.codeIn K cd27 "_read_residual" = true) (k27 : PySem.W.keepIn K (.ref f27) = true)
    (a28 : PySem.W.nsIn K mainGlobals "best_coding" = some (some (.ref f28)))
    (l28 : K.lookup f28 = some ⟨oc28, od28, .func (PySem.W.fnOf "best_coding" "best_coding" (defArgs s_best_coding) (defBody s_best_coding) (defScope s_best_coding) .none kV28 dc28 pm28 an28 cd28 ct28), sl28⟩) (c28 : PySem.W.codeIn K cd28 "best_coding" = true) (k28 : PySem.W.keepIn K (.ref f28) = true)
    (a29 : PySem.W.nsIn K mainGlobals "_width" = some (some (.ref f29)))
    (l29 : K.lookup f29 = some ⟨oc29, od29, .func (PySem.W.fnOf "_width" "_width" (defArgs s_width) (defBody s_width) (defScope s_width) .none kV29 dc29 pm29 an29 cd29 ct29), sl29⟩) (c29 : PySem.W.codeIn K cd29 "_width" = true) (k29 : PySem.W.keepIn K (.ref f29) = true)
    (a30 : PySem.W.nsIn K mainGlobals "_measured" = some (some (.ref f30)))
    (l30 : K.lookup f30 = some ⟨oc30, od30, .func (PySem.W.fnOf "_measured" "_measured" (defArgs s_measured) (defBody s_measured) (defScope s_measured) .none kV30 dc30 pm30 an30 cd30 ct30), sl30⟩) (c30 : PySem.W.codeIn K cd30 "_measured" = true) (k30 : PySem.W.keepIn K (.ref f30) = true)
    (a31 : PySem.W.nsIn K mainGlobals "_measured_parts" = some (some (.ref f31)))
    (l31 : K.lookup f31 = some ⟨oc31, od31, .func (PySem.W.fnOf "_measured_parts" "_measured_parts" (defArgs s_measured_parts) (defBody s_measured_parts) (defScope s_measured_parts) .none kV31 dc31 pm31 an31 cd31 ct31), sl31⟩) (c31 : PySem.W.codeIn K cd31 "_measured_parts" = true) (k31 : PySem.W.keepIn K (.ref f31) = true)
    (a32 : PySem.W.nsIn K mainGlobals "_joined_in_pairs" = some (some (.ref f32)))
    (l32 : K.lookup f32 = some ⟨oc32, od32, .func (PySem.W.fnOf "_joined_in_pairs" "_joined_in_pairs" (defArgs s_joined_in_pairs) (defBody s_joined_in_pairs) (defScope s_joined_in_pairs) .none kV32 dc32 pm32 an32 cd32 ct32), sl32⟩) (c32 : PySem.W.codeIn K cd32 "_joined_in_pairs" = true) (k32 : PySem.W.keepIn K (.ref f32) = true)
    (a33 : PySem.W.nsIn K mainGlobals "_joined" = some (some (.ref f33)))
    (l33 : K.lookup f33 = some ⟨oc33, od33, .func (PySem.W.fnOf "_joined" "_joined" (defArgs s_joined) (defBody s_joined) (defScope s_joined) .none kV33 dc33 pm33 an33 cd33 ct33), sl33⟩) (c33 : PySem.W.codeIn K cd33 "_joined" = true) (k33 : PySem.W.keepIn K (.ref f33) = true)
    (a34 : PySem.W.nsIn K mainGlobals "_entry" = some (some (.ref f34)))
    (l34 : K.lookup f34 = some ⟨oc34, od34, .func (PySem.W.fnOf "_entry" "_entry" (defArgs s_entry) (defBody s_entry) (defScope s_entry) .none kV34 dc34 pm34 an34 cd34 ct34), sl34⟩) (c34 : PySem.W.codeIn K cd34 "_entry" = true) (k34 : PySem.W.keepIn K (.ref f34) = true)
    (a35 : PySem.W.nsIn K mainGlobals "_entries" = some (some (.ref f35)))
    (l35 : K.lookup f35 = some ⟨oc35, od35, .func (PySem.W.fnOf "_entries" "_entries" (defArgs s_entries) (defBody s_entries) (defScope s_entries) .none kV35 dc35 pm35 an35 cd35 ct35), sl35⟩) (c35 : PySem.W.codeIn K cd35 "_entries" = true) (k35 : PySem.W.keepIn K (.ref f35) = true)
    (a36 : PySem.W.nsIn K mainGlobals "weighted" = some (some (.ref f36)))
    (l36 : K.lookup f36 = some ⟨oc36, od36, .func (PySem.W.fnOf "weighted" "weighted" (defArgs s_weighted) (defBody s_weighted) (defScope s_weighted) .none kV36 dc36 pm36 an36 cd36 ct36), sl36⟩) (c36 : PySem.W.codeIn K cd36 "weighted" = true) (k36 : PySem.W.keepIn K (.ref f36) = true)
    (a37 : PySem.W.nsIn K mainGlobals "autocorrelation" = some (some (.ref f37)))
    (l37 : K.lookup f37 = some ⟨oc37, od37, .func (PySem.W.fnOf "autocorrelation" "autocorrelation" (defArgs s_autocorrelation) (defBody s_autocorrelation) (defScope s_autocorrelation) .none kV37 dc37 pm37 an37 cd37 ct37), sl37⟩) (c37 : PySem.W.codeIn K cd37 "autocorrelation" = true) (k37 : PySem.W.keepIn K (.ref f37) = true)
    (a38 : PySem.W.nsIn K mainGlobals "exact_predictors" = some (some (.ref f38)))
    (l38 : K.lookup f38 = some ⟨oc38, od38, .func (PySem.W.fnOf "exact_predictors" "exact_predictors" (defArgs s_exact_predictors) (defBody s_exact_predictors) (defScope s_exact_predictors) .none kV38 dc38 pm38 an38 cd38 ct38), sl38⟩) (c38 : PySem.W.codeIn K cd38 "exact_predictors" = true) (k38 : PySem.W.keepIn K (.ref f38) = true)
    (a39 : PySem.W.nsIn K mainGlobals "quantize" = some (some (.ref f39)))
    (l39 : K.lookup f39 = some ⟨oc39, od39, .func (PySem.W.fnOf "quantize" "quantize" (defArgs s_quantize) (defBody s_quantize) (defScope s_quantize) .none kV39 dc39 pm39 an39 cd39 ct39), sl39⟩) (c39 : PySem.W.codeIn K cd39 "quantize" = true) (k39 : PySem.W.keepIn K (.ref f39) = true)
    (a40 : PySem.W.nsIn K mainGlobals "predictors" = some (some (.ref f40)))
    (l40 : K.lookup f40 = some ⟨oc40, od40, .func (PySem.W.fnOf "predictors" "predictors" (defArgs s_predictors) (defBody s_predictors) (defScope s_predictors) .none kV40 dc40 pm40 an40 cd40 ct40), sl40⟩) (c40 : PySem.W.codeIn K cd40 "predictors" = true) (k40 : PySem.W.keepIn K (.ref f40) = true)
    (a41 : PySem.W.nsIn K mainGlobals "_last_numerator" = some (some (.ref f41)))
    (l41 : K.lookup f41 = some ⟨oc41, od41, .func (PySem.W.fnOf "_last_numerator" "_last_numerator" (defArgs s_last_numerator) (defBody s_last_numerator) (defScope s_last_numerator) .none kV41 dc41 pm41 an41 cd41 ct41), sl41⟩) (c41 : PySem.W.codeIn K cd41 "_last_numerator" = true) (k41 : PySem.W.keepIn K (.ref f41) = true)
    (a42 : PySem.W.nsIn K mainGlobals "_rounded" = some (some (.ref f42)))
    (l42 : K.lookup f42 = some ⟨oc42, od42, .func (PySem.W.fnOf "_rounded" "_rounded" (defArgs s_rounded) (defBody s_rounded) (defScope s_rounded) .none kV42 dc42 pm42 an42 cd42 ct42), sl42⟩) (c42 : PySem.W.codeIn K cd42 "_rounded" = true) (k42 : PySem.W.keepIn K (.ref f42) = true)
    (a43 : PySem.W.findIn K (.ref C_Subframe) "__init__" = some (some (.ref f43))) (i43 : PySem.W.isFn K (.ref f43) = true)
    (l43 : K.lookup f43 = some ⟨oc43, od43, .func (PySem.W.fnOf "__init__" "Subframe.__init__" (defArgs s_Subframe_init) (defBody s_Subframe_init) (defScope s_Subframe_init) .none (.ref DK43) dc43 pm43 an43 cd43 ct43), sl43⟩) (c43 : PySem.W.codeIn K cd43 "Subframe.__init__" = true) (k43 : PySem.W.keepIn K (.ref f43) = true)
    (kq43_0 : PySem.W.nsIn K DK43 "order" = some (some ku43_0)) (rk43_0 : RelV (V.int 0) ku43_0)
    (kq43_1 : PySem.W.nsIn K DK43 "precision" = some (some ku43_1)) (rk43_1 : RelV (V.int 0) ku43_1)
    (kq43_2 : PySem.W.nsIn K DK43 "shift" = some (some ku43_2)) (rk43_2 : RelV (V.int 0) ku43_2)
    (kq43_3 : PySem.W.nsIn K DK43 "coefficients" = some (some (.ref e_Subframe_init_coefficients))) (le_Subframe_init_coefficients : K.lookup e_Subframe_init_coefficients = some ⟨.type "tuple", dxe_Subframe_init_coefficients, .seq (List.toArray []) nxe_Subframe_init_coefficients, sxe_Subframe_init_coefficients⟩)
    (kq43_4 : PySem.W.nsIn K DK43 "plan" = some (some ku43_4)) (rk43_4 : RelV (V.non) ku43_4)
    (kq43_5 : PySem.W.nsIn K DK43 "wasted" = some (some ku43_5)) (rk43_5 : RelV (V.int 0) ku43_5)
    (a44 : PySem.W.nsIn K mainGlobals "write_subframe" = some (some (.ref f44)))
    (l44 : K.lookup f44 = some ⟨oc44, od44, .func (PySem.W.fnOf "write_subframe" "write_subframe" (defArgs s_write_subframe) (defBody s_write_subframe) (defScope s_write_subframe) .none kV44 dc44 pm44 an44 cd44 ct44), sl44⟩) (c44 : PySem.W.codeIn K cd44 "write_subframe" = true) (k44 : PySem.W.keepIn K (.ref f44) = true)
    (a45 : PySem.W.nsIn K mainGlobals "read_subframe" = some (some (.ref f45)))
    (l45 : K.lookup f45 = some ⟨oc45, od45, .func (PySem.W.fnOf "read_subframe" "read_subframe" (defArgs s_read_subframe) (defBody s_read_subframe) (defScope s_read_subframe) .none kV45 dc45 pm45 an45 cd45 ct45), sl45⟩) (c45 : PySem.W.codeIn K cd45 "read_subframe" = true) (k45 : PySem.W.keepIn K (.ref f45) = true)
    (a46 : PySem.W.nsIn K mainGlobals "subframe_bits" = some (some (.ref f46)))
    (l46 : K.lookup f46 = some ⟨oc46, od46, .func (PySem.W.fnOf "subframe_bits" "subframe_bits" (defArgs s_subframe_bits) (defBody s_subframe_bits) (defScope s_subframe_bits) .none kV46 dc46 pm46 an46 cd46 ct46), sl46⟩) (c46 : PySem.W.codeIn K cd46 "subframe_bits" = true) (k46 : PySem.W.keepIn K (.ref f46) = true)
    (a47 : PySem.W.nsIn K mainGlobals "_warm_up_length" = some (some (.ref f47)))
    (l47 : K.lookup f47 = some ⟨oc47, od47, .func (PySem.W.fnOf "_warm_up_length" "_warm_up_length" (defArgs s_warm_up_length) (defBody s_warm_up_length) (defScope s_warm_up_length) .none kV47 dc47 pm47 an47 cd47 ct47), sl47⟩) (c47 : PySem.W.codeIn K cd47 "_warm_up_length" = true) (k47 : PySem.W.keepIn K (.ref f47) = true)
    (a48 : PySem.W.nsIn K mainGlobals "_residuals" = some (some (.ref f48)))
    (l48 : K.lookup f48 = some ⟨oc48, od48, .func (PySem.W.fnOf "_residuals" "_residuals" (defArgs s_residuals) (defBody s_residuals) (defScope s_residuals) .none kV48 dc48 pm48 an48 cd48 ct48), sl48⟩) (c48 : PySem.W.codeIn K cd48 "_residuals" = true) (k48 : PySem.W.keepIn K (.ref f48) = true)
    (a49 : PySem.W.nsIn K mainGlobals "_kind_code" = some (some (.ref f49)))
    (l49 : K.lookup f49 = some ⟨oc49, od49, .func (PySem.W.fnOf "_kind_code" "_kind_code" (defArgs s_kind_code) (defBody s_kind_code) (defScope s_kind_code) .none kV49 dc49 pm49 an49 cd49 ct49), sl49⟩) (c49 : PySem.W.codeIn K cd49 "_kind_code" = true) (k49 : PySem.W.keepIn K (.ref f49) = true)
    (a50 : PySem.W.nsIn K mainGlobals "_write_header" = some (some (.ref f50)))
    (l50 : K.lookup f50 = some ⟨oc50, od50, .func (PySem.W.fnOf "_write_header" "_write_header" (defArgs s_write_header) (defBody s_write_header) (defScope s_write_header) .none kV50 dc50 pm50 an50 cd50 ct50), sl50⟩) (c50 : PySem.W.codeIn K cd50 "_write_header" = true) (k50 : PySem.W.keepIn K (.ref f50) = true)
    (a51 : PySem.W.nsIn K mainGlobals "_write_values" = some (some (.ref f51)))
    (l51 : K.lookup f51 = some ⟨oc51, od51, .func (PySem.W.fnOf "_write_values" "_write_values" (defArgs s_write_values) (defBody s_write_values) (defScope s_write_values) .none kV51 dc51 pm51 an51 cd51 ct51), sl51⟩) (c51 : PySem.W.codeIn K cd51 "_write_values" = true) (k51 : PySem.W.keepIn K (.ref f51) = true)
    (a52 : PySem.W.nsIn K mainGlobals "_write_predicted" = some (some (.ref f52)))
    (l52 : K.lookup f52 = some ⟨oc52, od52, .func (PySem.W.fnOf "_write_predicted" "_write_predicted" (defArgs s_write_predicted) (defBody s_write_predicted) (defScope s_write_predicted) .none kV52 dc52 pm52 an52 cd52 ct52), sl52⟩) (c52 : PySem.W.codeIn K cd52 "_write_predicted" = true) (k52 : PySem.W.keepIn K (.ref f52) = true)
    (a53 : PySem.W.nsIn K mainGlobals "_read_kind" = some (some (.ref f53)))
    (l53 : K.lookup f53 = some ⟨oc53, od53, .func (PySem.W.fnOf "_read_kind" "_read_kind" (defArgs s_read_kind) (defBody s_read_kind) (defScope s_read_kind) .none kV53 dc53 pm53 an53 cd53 ct53), sl53⟩) (c53 : PySem.W.codeIn K cd53 "_read_kind" = true) (k53 : PySem.W.keepIn K (.ref f53) = true)
    (a54 : PySem.W.nsIn K mainGlobals "_read_wasted" = some (some (.ref f54)))
    (l54 : K.lookup f54 = some ⟨oc54, od54, .func (PySem.W.fnOf "_read_wasted" "_read_wasted" (defArgs s_read_wasted) (defBody s_read_wasted) (defScope s_read_wasted) .none kV54 dc54 pm54 an54 cd54 ct54), sl54⟩) (c54 : PySem.W.codeIn K cd54 "_read_wasted" = true) (k54 : PySem.W.keepIn K (.ref f54) = true)
    (a55 : PySem.W.nsIn K mainGlobals "_read_values" = some (some (.ref f55)))
    (l55 : K.lookup f55 = some ⟨oc55, od55, .func (PySem.W.fnOf "_read_values" "_read_values" (defArgs s_read_values) (defBody s_read_values) (defScope s_read_values) .none kV55 dc55 pm55 an55 cd55 ct55), sl55⟩) (c55 : PySem.W.codeIn K cd55 "_read_values" = true) (k55 : PySem.W.keepIn K (.ref f55) = true)
    (a56 : PySem.W.nsIn K mainGlobals "_read_fixed" = some (some (.ref f56)))
    (l56 : K.lookup f56 = some ⟨oc56, od56, .func (PySem.W.fnOf "_read_fixed" "_read_fixed" (defArgs s_read_fixed) (defBody s_read_fixed) (defScope s_read_fixed) .none kV56 dc56 pm56 an56 cd56 ct56), sl56⟩) (c56 : PySem.W.codeIn K cd56 "_read_fixed" = true) (k56 : PySem.W.keepIn K (.ref f56) = true)
    (a57 : PySem.W.nsIn K mainGlobals "_read_linear" = some (some (.ref f57)))
    (l57 : K.lookup f57 = some ⟨oc57, od57, .func (PySem.W.fnOf "_read_linear" "_read_linear" (defArgs s_read_linear) (defBody s_read_linear) (defScope s_read_linear) .none kV57 dc57 pm57 an57 cd57 ct57), sl57⟩) (c57 : PySem.W.codeIn K cd57 "_read_linear" = true) (k57 : PySem.W.keepIn K (.ref f57) = true)
    (a58 : PySem.W.nsIn K mainGlobals "_read_precision" = some (some (.ref f58)))
    (l58 : K.lookup f58 = some ⟨oc58, od58, .func (PySem.W.fnOf "_read_precision" "_read_precision" (defArgs s_read_precision) (defBody s_read_precision) (defScope s_read_precision) .none kV58 dc58 pm58 an58 cd58 ct58), sl58⟩) (c58 : PySem.W.codeIn K cd58 "_read_precision" = true) (k58 : PySem.W.keepIn K (.ref f58) = true)
    (a59 : PySem.W.nsIn K mainGlobals "_read_shift" = some (some (.ref f59)))
    (l59 : K.lookup f59 = some ⟨oc59, od59, .func (PySem.W.fnOf "_read_shift" "_read_shift" (defArgs s_read_shift) (defBody s_read_shift) (defScope s_read_shift) .none kV59 dc59 pm59 an59 cd59 ct59), sl59⟩) (c59 : PySem.W.codeIn K cd59 "_read_shift" = true) (k59 : PySem.W.keepIn K (.ref f59) = true)
    (a60 : PySem.W.nsIn K mainGlobals "_limit" = some (some (.ref f60)))
    (l60 : K.lookup f60 = some ⟨oc60, od60, .func (PySem.W.fnOf "_limit" "_limit" (defArgs s_limit) (defBody s_limit) (defScope s_limit) .none kV60 dc60 pm60 an60 cd60 ct60), sl60⟩) (c60 : PySem.W.codeIn K cd60 "_limit" = true) (k60 : PySem.W.keepIn K (.ref f60) = true)
    (a61 : PySem.W.nsIn K mainGlobals "wasted_bits" = some (some (.ref f61)))
    (l61 : K.lookup f61 = some ⟨oc61, od61, .func (PySem.W.fnOf "wasted_bits" "wasted_bits" (defArgs s_wasted_bits) (defBody s_wasted_bits) (defScope s_wasted_bits) .none kV61 dc61 pm61 an61 cd61 ct61), sl61⟩) (c61 : PySem.W.codeIn K cd61 "wasted_bits" = true) (k61 : PySem.W.keepIn K (.ref f61) = true)
    (a62 : PySem.W.nsIn K mainGlobals "best_subframe" = some (some (.ref f62)))
    (l62 : K.lookup f62 = some ⟨oc62, od62, .func (PySem.W.fnOf "best_subframe" "best_subframe" (defArgs s_best_subframe) (defBody s_best_subframe) (defScope s_best_subframe) .none kV62 dc62 pm62 an62 cd62 ct62), sl62⟩) (c62 : PySem.W.codeIn K cd62 "best_subframe" = true) (k62 : PySem.W.keepIn K (.ref f62) = true)
    (a63 : PySem.W.nsIn K mainGlobals "_first_smallest" = some (some (.ref f63)))
    (l63 : K.lookup f63 = some ⟨oc63, od63, .func (PySem.W.fnOf "_first_smallest" "_first_smallest" (defArgs s_first_smallest) (defBody s_first_smallest) (defScope s_first_smallest) .none kV63 dc63 pm63 an63 cd63 ct63), sl63⟩) (c63 : PySem.W.codeIn K cd63 "_first_smallest" = true) (k63 : PySem.W.keepIn K (.ref f63) = true)
    (a64 : PySem.W.nsIn K mainGlobals "_fixed_candidates" = some (some (.ref f64)))
    (l64 : K.lookup f64 = some ⟨oc64, od64, .func (PySem.W.fnOf "_fixed_candidates" "_fixed_candidates" (defArgs s_fixed_candidates) (defBody s_fixed_candidates) (defScope s_fixed_candidates) .none kV64 dc64 pm64 an64 cd64 ct64), sl64⟩) (c64 : PySem.W.codeIn K cd64 "_fixed_candidates" = true) (k64 : PySem.W.keepIn K (.ref f64) = true)
    (a65 : PySem.W.nsIn K mainGlobals "_linear_candidates" = some (some (.ref f65)))
    (l65 : K.lookup f65 = some ⟨oc65, od65, .func (PySem.W.fnOf "_linear_candidates" "_linear_candidates" (defArgs s_linear_candidates) (defBody s_linear_candidates) (defScope s_linear_candidates) .none kV65 dc65 pm65 an65 cd65 ct65), sl65⟩) (c65 : PySem.W.codeIn K cd65 "_linear_candidates" = true) (k65 : PySem.W.keepIn K (.ref f65) = true)
    (a66 : PySem.W.nsIn K mainGlobals "_linear_orders" = some (some (.ref f66)))
    (l66 : K.lookup f66 = some ⟨oc66, od66, .func (PySem.W.fnOf "_linear_orders" "_linear_orders" (defArgs s_linear_orders) (defBody s_linear_orders) (defScope s_linear_orders) .none kV66 dc66 pm66 an66 cd66 ct66), sl66⟩) (c66 : PySem.W.codeIn K cd66 "_linear_orders" = true) (k66 : PySem.W.keepIn K (.ref f66) = true)
    (a67 : PySem.W.nsIn K mainGlobals "_in_bounds" = some (some (.ref f67)))
    (l67 : K.lookup f67 = some ⟨oc67, od67, .func (PySem.W.fnOf "_in_bounds" "_in_bounds" (defArgs s_in_bounds) (defBody s_in_bounds) (defScope s_in_bounds) .none kV67 dc67 pm67 an67 cd67 ct67), sl67⟩) (c67 : PySem.W.codeIn K cd67 "_in_bounds" = true) (k67 : PySem.W.keepIn K (.ref f67) = true)
    (a68 : PySem.W.nsIn K mainGlobals "_best_plan" = some (some (.ref f68)))
    (l68 : K.lookup f68 = some ⟨oc68, od68, .func (PySem.W.fnOf "_best_plan" "_best_plan" (defArgs s_best_plan) (defBody s_best_plan) (defScope s_best_plan) .none kV68 dc68 pm68 an68 cd68 ct68), sl68⟩) (c68 : PySem.W.codeIn K cd68 "_best_plan" = true) (k68 : PySem.W.keepIn K (.ref f68) = true)
    (a69 : PySem.W.findIn K (.ref C_BitWriter) "__init__" = some (some (.ref f69))) (i69 : PySem.W.isFn K (.ref f69) = true)
    (l69 : K.lookup f69 = some ⟨oc69, od69, .func (PySem.W.fnOf "__init__" "BitWriter.__init__" (defArgs s_BitWriter_init) (defBody s_BitWriter_init) (defScope s_BitWriter_init) .none kV69 dc69 pm69 an69 cd69 ct69), sl69⟩) (c69 : PySem.W.codeIn K cd69 "BitWriter.__init__" = true) (k69 : PySem.W.keepIn K (.ref f69) = true)
    (a70 : PySem.W.findIn K (.ref C_BitWriter) "write" = some (some (.ref f70))) (i70 : PySem.W.isFn K (.ref f70) = true)
    (l70 : K.lookup f70 = some ⟨oc70, od70, .func (PySem.W.fnOf "write" "BitWriter.write" (defArgs s_BitWriter_write) (defBody s_BitWriter_write) (defScope s_BitWriter_write) .none kV70 dc70 pm70 an70 cd70 ct70), sl70⟩) (c70 : PySem.W.codeIn K cd70 "BitWriter.write" = true) (k70 : PySem.W.keepIn K (.ref f70) = true)
    (a71 : PySem.W.findIn K (.ref C_BitWriter) "write_signed" = some (some (.ref f71))) (i71 : PySem.W.isFn K (.ref f71) = true)
    (l71 : K.lookup f71 = some ⟨oc71, od71, .func (PySem.W.fnOf "write_signed" "BitWriter.write_signed" (defArgs s_BitWriter_write_signed) (defBody s_BitWriter_write_signed) (defScope s_BitWriter_write_signed) .none kV71 dc71 pm71 an71 cd71 ct71), sl71⟩) (c71 : PySem.W.codeIn K cd71 "BitWriter.write_signed" = true) (k71 : PySem.W.keepIn K (.ref f71) = true)
    (a72 : PySem.W.findIn K (.ref C_BitWriter) "write_unary" = some (some (.ref f72))) (i72 : PySem.W.isFn K (.ref f72) = true)
    (l72 : K.lookup f72 = some ⟨oc72, od72, .func (PySem.W.fnOf "write_unary" "BitWriter.write_unary" (defArgs s_BitWriter_write_unary) (defBody s_BitWriter_write_unary) (defScope s_BitWriter_write_unary) .none kV72 dc72 pm72 an72 cd72 ct72), sl72⟩) (c72 : PySem.W.codeIn K cd72 "BitWriter.write_unary" = true) (k72 : PySem.W.keepIn K (.ref f72) = true)
    (a73 : PySem.W.findIn K (.ref C_BitWriter) "pad" = some (some (.ref f73))) (i73 : PySem.W.isFn K (.ref f73) = true)
    (l73 : K.lookup f73 = some ⟨oc73, od73, .func (PySem.W.fnOf "pad" "BitWriter.pad" (defArgs s_BitWriter_pad) (defBody s_BitWriter_pad) (defScope s_BitWriter_pad) .none kV73 dc73 pm73 an73 cd73 ct73), sl73⟩) (c73 : PySem.W.codeIn K cd73 "BitWriter.pad" = true) (k73 : PySem.W.keepIn K (.ref f73) = true)
    (a74 : PySem.W.findIn K (.ref C_BitWriter) "byte_list" = some (some (.ref f74))) (i74 : PySem.W.isFn K (.ref f74) = true)
    (l74 : K.lookup f74 = some ⟨oc74, od74, .func (PySem.W.fnOf "byte_list" "BitWriter.byte_list" (defArgs s_BitWriter_byte_list) (defBody s_BitWriter_byte_list) (defScope s_BitWriter_byte_list) .none kV74 dc74 pm74 an74 cd74 ct74), sl74⟩) (c74 : PySem.W.codeIn K cd74 "BitWriter.byte_list" = true) (k74 : PySem.W.keepIn K (.ref f74) = true)
    (a75 : PySem.W.findIn K (.ref C_BitWriter) "bits_written" = some (some (.ref f75))) (i75 : PySem.W.isFn K (.ref f75) = true)
    (l75 : K.lookup f75 = some ⟨oc75, od75, .func (PySem.W.fnOf "bits_written" "BitWriter.bits_written" (defArgs s_BitWriter_bits_written) (defBody s_BitWriter_bits_written) (defScope s_BitWriter_bits_written) .none kV75 dc75 pm75 an75 cd75 ct75), sl75⟩) (c75 : PySem.W.codeIn K cd75 "BitWriter.bits_written" = true) (k75 : PySem.W.keepIn K (.ref f75) = true)
    (a76 : PySem.W.findIn K (.ref C_BitReader) "__init__" = some (some (.ref f76))) (i76 : PySem.W.isFn K (.ref f76) = true)
    (l76 : K.lookup f76 = some ⟨oc76, od76, .func (PySem.W.fnOf "__init__" "BitReader.__init__" (defArgs s_BitReader_init) (defBody s_BitReader_init) (defScope s_BitReader_init) (.ref DT76) kV76 dc76 pm76 an76 cd76 ct76), sl76⟩) (c76 : PySem.W.codeIn K cd76 "BitReader.__init__" = true) (k76 : PySem.W.keepIn K (.ref f76) = true)
    (t76 : K.lookup DT76 = some ⟨tc76, td76, .seq (List.toArray [du76_0]) tn76, tsl76⟩)
    (rd76_0 : RelV (V.int 0) du76_0)
    (a77 : PySem.W.findIn K (.ref C_BitReader) "read" = some (some (.ref f77))) (i77 : PySem.W.isFn K (.ref f77) = true)
    (l77 : K.lookup f77 = some ⟨oc77, od77, .func (PySem.W.fnOf "read" "BitReader.read" (defArgs s_BitReader_read) (defBody s_BitReader_read) (defScope s_BitReader_read) .none kV77 dc77 pm77 an77 cd77 ct77), sl77⟩) (c77 : PySem.W.codeIn K cd77 "BitReader.read" = true) (k77 : PySem.W.keepIn K (.ref f77) = true)
    (a78 : PySem.W.findIn K (.ref C_BitReader) "read_signed" = some (some (.ref f78))) (i78 : PySem.W.isFn K (.ref f78) = true)
    (l78 : K.lookup f78 = some ⟨oc78, od78, .func (PySem.W.fnOf "read_signed" "BitReader.read_signed" (defArgs s_BitReader_read_signed) (defBody s_BitReader_read_signed) (defScope s_BitReader_read_signed) .none kV78 dc78 pm78 an78 cd78 ct78), sl78⟩) (c78 : PySem.W.codeIn K cd78 "BitReader.read_signed" = true) (k78 : PySem.W.keepIn K (.ref f78) = true)
    (a79 : PySem.W.findIn K (.ref C_BitReader) "read_unary" = some (some (.ref f79))) (i79 : PySem.W.isFn K (.ref f79) = true)
    (l79 : K.lookup f79 = some ⟨oc79, od79, .func (PySem.W.fnOf "read_unary" "BitReader.read_unary" (defArgs s_BitReader_read_unary) (defBody s_BitReader_read_unary) (defScope s_BitReader_read_unary) .none kV79 dc79 pm79 an79 cd79 ct79), sl79⟩) (c79 : PySem.W.codeIn K cd79 "BitReader.read_unary" = true) (k79 : PySem.W.keepIn K (.ref f79) = true)
    (a80 : PySem.W.findIn K (.ref C_BitReader) "_rest_of_byte" = some (some (.ref f80))) (i80 : PySem.W.isFn K (.ref f80) = true)
    (l80 : K.lookup f80 = some ⟨oc80, od80, .func (PySem.W.fnOf "_rest_of_byte" "BitReader._rest_of_byte" (defArgs s_BitReader_rest_of_byte) (defBody s_BitReader_rest_of_byte) (defScope s_BitReader_rest_of_byte) .none kV80 dc80 pm80 an80 cd80 ct80), sl80⟩) (c80 : PySem.W.codeIn K cd80 "BitReader._rest_of_byte" = true) (k80 : PySem.W.keepIn K (.ref f80) = true)
    (a81 : PySem.W.findIn K (.ref C_BitReader) "byte_place" = some (some (.ref f81))) (i81 : PySem.W.isFn K (.ref f81) = true)
    (l81 : K.lookup f81 = some ⟨oc81, od81, .func (PySem.W.fnOf "byte_place" "BitReader.byte_place" (defArgs s_BitReader_byte_place) (defBody s_BitReader_byte_place) (defScope s_BitReader_byte_place) .none kV81 dc81 pm81 an81 cd81 ct81), sl81⟩) (c81 : PySem.W.codeIn K cd81 "BitReader.byte_place" = true) (k81 : PySem.W.keepIn K (.ref f81) = true)
    (a82 : PySem.W.findIn K (.ref C_BitReader) "bit_place" = some (some (.ref f82))) (i82 : PySem.W.isFn K (.ref f82) = true)
    (l82 : K.lookup f82 = some ⟨oc82, od82, .func (PySem.W.fnOf "bit_place" "BitReader.bit_place" (defArgs s_BitReader_bit_place) (defBody s_BitReader_bit_place) (defScope s_BitReader_bit_place) .none kV82 dc82 pm82 an82 cd82 ct82), sl82⟩) (c82 : PySem.W.codeIn K cd82 "BitReader.bit_place" = true) (k82 : PySem.W.keepIn K (.ref f82) = true)
    (a83 : PySem.W.findIn K (.ref C_Settings) "__init__" = some (some (.ref f83))) (i83 : PySem.W.isFn K (.ref f83) = true)
    (l83 : K.lookup f83 = some ⟨oc83, od83, .func (PySem.W.fnOf "__init__" "Settings.__init__" (defArgs s_Settings_init) (defBody s_Settings_init) (defScope s_Settings_init) .none (.ref DK83) dc83 pm83 an83 cd83 ct83), sl83⟩) (c83 : PySem.W.codeIn K cd83 "Settings.__init__" = true) (k83 : PySem.W.keepIn K (.ref f83) = true)
    (kq83_0 : PySem.W.nsIn K DK83 "block_sizes" = some (some ku83_0)) (rk83_0 : RelV (V.non) ku83_0)
    (kq83_1 : PySem.W.nsIn K DK83 "fixed_order" = some (some ku83_1)) (rk83_1 : RelV (V.int 4) ku83_1)
    (kq83_2 : PySem.W.nsIn K DK83 "linear_order" = some (some ku83_2)) (rk83_2 : RelV (V.int 0) ku83_2)
    (kq83_3 : PySem.W.nsIn K DK83 "search" = some (some ku83_3)) (rk83_3 : RelV (V.bl false) ku83_3)
    (kq83_4 : PySem.W.nsIn K DK83 "precision" = some (some ku83_4)) (rk83_4 : RelV (V.int 12) ku83_4)
    (kq83_5 : PySem.W.nsIn K DK83 "partition_order" = some (some ku83_5)) (rk83_5 : RelV (V.int 4) ku83_5)
    (kq83_6 : PySem.W.nsIn K DK83 "wide" = some (some ku83_6)) (rk83_6 : RelV (V.bl false) ku83_6)
    (kq83_7 : PySem.W.nsIn K DK83 "stereo" = some (some ku83_7)) (rk83_7 : RelV (V.bl true) ku83_7)
    (kq83_8 : PySem.W.nsIn K DK83 "wasted" = some (some ku83_8)) (rk83_8 : RelV (V.bl true) ku83_8)
    (kq83_9 : PySem.W.nsIn K DK83 "seek_interval" = some (some ku83_9)) (rk83_9 : RelV (V.int 0) ku83_9)
    (kq83_10 : PySem.W.nsIn K DK83 "vendor" = some (some ku83_10)) (rk83_10 : RelV (V.str "") ku83_10)
    (a84 : PySem.W.nsIn K mainGlobals "_law_cell" = some (some (.ref f84)))
    (l84 : K.lookup f84 = some ⟨oc84, od84, .func (PySem.W.fnOf "_law_cell" "_law_cell" (defArgs s_law_cell) (defBody s_law_cell) (defScope s_law_cell) .none kV84 dc84 pm84 an84 cd84 ct84), sl84⟩) (c84 : PySem.W.codeIn K cd84 "_law_cell" = true) (k84 : PySem.W.keepIn K (.ref f84) = true)
    (a85 : PySem.W.nsIn K mainGlobals "_law_integer" = some (some (.ref f85)))
    (l85 : K.lookup f85 = some ⟨oc85, od85, .func (PySem.W.fnOf "_law_integer" "_law_integer" (defArgs s_law_integer) (defBody s_law_integer) (defScope s_law_integer) .none kV85 dc85 pm85 an85 cd85 ct85), sl85⟩) (c85 : PySem.W.codeIn K cd85 "_law_integer" = true) (k85 : PySem.W.keepIn K (.ref f85) = true)
    (a86 : PySem.W.nsIn K mainGlobals "_law_integers" = some (some (.ref f86)))
    (l86 : K.lookup f86 = some ⟨oc86, od86, .func (PySem.W.fnOf "_law_integers" "_law_integers" (defArgs s_law_integers) (defBody s_law_integers) (defScope s_law_integers) .none kV86 dc86 pm86 an86 cd86 ct86), sl86⟩) (c86 : PySem.W.codeIn K cd86 "_law_integers" = true) (k86 : PySem.W.keepIn K (.ref f86) = true)
    (a87 : PySem.W.nsIn K mainGlobals "_law_row" = some (some (.ref f87)))
    (l87 : K.lookup f87 = some ⟨oc87, od87, .func (PySem.W.fnOf "_law_row" "_law_row" (defArgs s_law_row) (defBody s_law_row) (defScope s_law_row) .none kV87 dc87 pm87 an87 cd87 ct87), sl87⟩) (c87 : PySem.W.codeIn K cd87 "_law_row" = true) (k87 : PySem.W.keepIn K (.ref f87) = true)
    (a88 : PySem.W.nsIn K mainGlobals "_law_signal" = some (some (.ref f88)))
    (l88 : K.lookup f88 = some ⟨oc88, od88, .func (PySem.W.fnOf "_law_signal" "_law_signal" (defArgs s_law_signal) (defBody s_law_signal) (defScope s_law_signal) .none kV88 dc88 pm88 an88 cd88 ct88), sl88⟩) (c88 : PySem.W.codeIn K cd88 "_law_signal" = true) (k88 : PySem.W.keepIn K (.ref f88) = true)
    (a89 : PySem.W.nsIn K mainGlobals "_law_settings" = some (some (.ref f89)))
    (l89 : K.lookup f89 = some ⟨oc89, od89, .func (PySem.W.fnOf "_law_settings" "_law_settings" (defArgs s_law_settings) (defBody s_law_settings) (defScope s_law_settings) .none kV89 dc89 pm89 an89 cd89 ct89), sl89⟩) (c89 : PySem.W.codeIn K cd89 "_law_settings" = true) (k89 : PySem.W.keepIn K (.ref f89) = true)
    (a90 : PySem.W.nsIn K mainGlobals "_law_fields" = some (some (.ref f90)))
    (l90 : K.lookup f90 = some ⟨oc90, od90, .func (PySem.W.fnOf "_law_fields" "_law_fields" (defArgs s_law_fields) (defBody s_law_fields) (defScope s_law_fields) .none kV90 dc90 pm90 an90 cd90 ct90), sl90⟩) (c90 : PySem.W.codeIn K cd90 "_law_fields" = true) (k90 : PySem.W.keepIn K (.ref f90) = true)
    (a91 : PySem.W.nsIn K mainGlobals "_law_bounded" = some (some (.ref f91)))
    (l91 : K.lookup f91 = some ⟨oc91, od91, .func (PySem.W.fnOf "_law_bounded" "_law_bounded" (defArgs s_law_bounded) (defBody s_law_bounded) (defScope s_law_bounded) .none kV91 dc91 pm91 an91 cd91 ct91), sl91⟩) (c91 : PySem.W.codeIn K cd91 "_law_bounded" = true) (k91 : PySem.W.keepIn K (.ref f91) = true)
    (a92 : PySem.W.nsIn K mainGlobals "law" = some (some (.ref f92)))
    (l92 : K.lookup f92 = some ⟨oc92, od92, .func (PySem.W.fnOf "law" "law" (defArgs s_law) (defBody s_law) (defScope s_law) .none kV92 dc92 pm92 an92 cd92 ct92), sl92⟩) (c92 : PySem.W.codeIn K cd92 "law" = true) (k92 : PySem.W.keepIn K (.ref f92) = true)
    (aC_Subframe : PySem.W.nsIn K mainGlobals "Subframe" = some (some (.ref C_Subframe)))
    (pg_Subframe : PySem.W.plainGet K C_Subframe Str.empty = true) (hd_Subframe : PySem.W.hasDictIn K C_Subframe = true) (po_Subframe : PySem.W.plainOver K C_Subframe = true) (sa_Subframe : PySem.W.findIn K (.ref C_Subframe) "__setattr__" = some (some (.builtin "object.__setattr__"))) (mk_Subframe : PySem.W.makesIn K C_Subframe = true) (kc_Subframe : PySem.W.keepIn K (.ref C_Subframe) = true)
    (n_Subframe_kind : PySem.W.findIn K (.ref C_Subframe) "kind" = some none)
    (n_Subframe_order : PySem.W.findIn K (.ref C_Subframe) "order" = some none)
    (n_Subframe_precision : PySem.W.findIn K (.ref C_Subframe) "precision" = some none)
    (n_Subframe_shift : PySem.W.findIn K (.ref C_Subframe) "shift" = some none)
    (n_Subframe_coefficients : PySem.W.findIn K (.ref C_Subframe) "coefficients" = some none)
    (n_Subframe_plan : PySem.W.findIn K (.ref C_Subframe) "plan" = some none)
    (n_Subframe_wasted : PySem.W.findIn K (.ref C_Subframe) "wasted" = some none)
    (aC_BitWriter : PySem.W.nsIn K mainGlobals "BitWriter" = some (some (.ref C_BitWriter)))
    (pg_BitWriter : PySem.W.plainGet K C_BitWriter Str.empty = true) (hd_BitWriter : PySem.W.hasDictIn K C_BitWriter = true) (po_BitWriter : PySem.W.plainOver K C_BitWriter = true) (sa_BitWriter : PySem.W.findIn K (.ref C_BitWriter) "__setattr__" = some (some (.builtin "object.__setattr__"))) (mk_BitWriter : PySem.W.makesIn K C_BitWriter = true) (kc_BitWriter : PySem.W.keepIn K (.ref C_BitWriter) = true)
    (n_BitWriter_whole : PySem.W.findIn K (.ref C_BitWriter) "_whole" = some none)
    (n_BitWriter_held : PySem.W.findIn K (.ref C_BitWriter) "_held" = some none)
    (n_BitWriter_held_bits : PySem.W.findIn K (.ref C_BitWriter) "_held_bits" = some none)
    (aC_BitReader : PySem.W.nsIn K mainGlobals "BitReader" = some (some (.ref C_BitReader)))
    (pg_BitReader : PySem.W.plainGet K C_BitReader Str.empty = true) (hd_BitReader : PySem.W.hasDictIn K C_BitReader = true) (po_BitReader : PySem.W.plainOver K C_BitReader = true) (sa_BitReader : PySem.W.findIn K (.ref C_BitReader) "__setattr__" = some (some (.builtin "object.__setattr__"))) (mk_BitReader : PySem.W.makesIn K C_BitReader = true) (kc_BitReader : PySem.W.keepIn K (.ref C_BitReader) = true)
    (n_BitReader_data : PySem.W.findIn K (.ref C_BitReader) "_data" = some none)
    (n_BitReader_position : PySem.W.findIn K (.ref C_BitReader) "_position" = some none)
    (aC_Settings : PySem.W.nsIn K mainGlobals "Settings" = some (some (.ref C_Settings)))
    (pg_Settings : PySem.W.plainGet K C_Settings Str.empty = true) (hd_Settings : PySem.W.hasDictIn K C_Settings = true) (po_Settings : PySem.W.plainOver K C_Settings = true) (sa_Settings : PySem.W.findIn K (.ref C_Settings) "__setattr__" = some (some (.builtin "object.__setattr__"))) (mk_Settings : PySem.W.makesIn K C_Settings = true) (kc_Settings : PySem.W.keepIn K (.ref C_Settings) = true)
    (n_Settings_block_size : PySem.W.findIn K (.ref C_Settings) "block_size" = some none)
    (n_Settings_block_sizes : PySem.W.findIn K (.ref C_Settings) "block_sizes" = some none)
    (n_Settings_fixed_order : PySem.W.findIn K (.ref C_Settings) "fixed_order" = some none)
    (n_Settings_linear_order : PySem.W.findIn K (.ref C_Settings) "linear_order" = some none)
    (n_Settings_search : PySem.W.findIn K (.ref C_Settings) "search" = some none)
    (n_Settings_precision : PySem.W.findIn K (.ref C_Settings) "precision" = some none)
    (n_Settings_partition_order : PySem.W.findIn K (.ref C_Settings) "partition_order" = some none)
    (n_Settings_wide : PySem.W.findIn K (.ref C_Settings) "wide" = some none)
    (n_Settings_stereo : PySem.W.findIn K (.ref C_Settings) "stereo" = some none)
    (n_Settings_wasted : PySem.W.findIn K (.ref C_Settings) "wasted" = some none)
    (n_Settings_seek_interval : PySem.W.findIn K (.ref C_Settings) "seek_interval" = some none)
    (n_Settings_vendor : PySem.W.findIn K (.ref C_Settings) "vendor" = some none)
    (z_list : PySem.W.nsIn K mainGlobals "list" = some none)
    (z_range : PySem.W.nsIn K mainGlobals "range" = some none)
    (z_zip : PySem.W.nsIn K mainGlobals "zip" = some none)
    (z_len : PySem.W.nsIn K mainGlobals "len" = some none)
    (z_sum : PySem.W.nsIn K mainGlobals "sum" = some none)
    (z_tuple : PySem.W.nsIn K mainGlobals "tuple" = some none)
    (z_max : PySem.W.nsIn K mainGlobals "max" = some none)
    (z_min : PySem.W.nsIn K mainGlobals "min" = some none)
    (z_enumerate : PySem.W.nsIn K mainGlobals "enumerate" = some none)
    (z_reversed : PySem.W.nsIn K mainGlobals "reversed" = some none)
    (z_abs : PySem.W.nsIn K mainGlobals "abs" = some none)
    (z_isinstance : PySem.W.nsIn K mainGlobals "isinstance" = some none)
    (z_int : PySem.W.nsIn K mainGlobals "int" = some none)
    (z_bool : PySem.W.nsIn K mainGlobals "bool" = some none)
    (z_all : PySem.W.nsIn K mainGlobals "all" = some none)
    (q_BOUND_residual : PySem.W.nsIn K mainGlobals "BOUND_residual" = some (some u_BOUND_residual)) (r_BOUND_residual : RelV (.int (2147483648)) u_BOUND_residual)
    (q_PARAMETERS : PySem.W.nsIn K mainGlobals "_PARAMETERS" = some (some (.ref A_PARAMETERS))) (l_PARAMETERS : K.lookup A_PARAMETERS = some ⟨.type "tuple", none, .seq (List.toArray [wPARAMETERS_0, wPARAMETERS_1]) nxPARAMETERS, sxPARAMETERS⟩)
    (r_PARAMETERS_0 : RelV (.int 15) wPARAMETERS_0)
    (r_PARAMETERS_1 : RelV (.int 31) wPARAMETERS_1)
    (q_MOST_RAW_WIDTH : PySem.W.nsIn K mainGlobals "_MOST_RAW_WIDTH" = some (some u_MOST_RAW_WIDTH)) (r_MOST_RAW_WIDTH : RelV (.int (31)) u_MOST_RAW_WIDTH)
    (q_HEAD_BITS : PySem.W.nsIn K mainGlobals "_HEAD_BITS" = some (some u_HEAD_BITS)) (r_HEAD_BITS : RelV (.int (6)) u_HEAD_BITS)
    (q_MOST_SHIFT : PySem.W.nsIn K mainGlobals "_MOST_SHIFT" = some (some u_MOST_SHIFT)) (r_MOST_SHIFT : RelV (.int (15)) u_MOST_SHIFT)
    (q_BOUND_choice : PySem.W.nsIn K mainGlobals "BOUND_choice" = some (some u_BOUND_choice)) (r_BOUND_choice : RelV (.int (2147483648)) u_BOUND_choice)
    (q_HEADER_BITS : PySem.W.nsIn K mainGlobals "_HEADER_BITS" = some (some u_HEADER_BITS)) (r_HEADER_BITS : RelV (.int (8)) u_HEADER_BITS)
    (q_PREDICTOR_BITS : PySem.W.nsIn K mainGlobals "_PREDICTOR_BITS" = some (some u_PREDICTOR_BITS)) (r_PREDICTOR_BITS : RelV (.int (9)) u_PREDICTOR_BITS)
    (q_MOST_ZEROS : PySem.W.nsIn K mainGlobals "_MOST_ZEROS" = some (some u_MOST_ZEROS)) (r_MOST_ZEROS : RelV (.int (56)) u_MOST_ZEROS)
    : ∃ fd : FuncData, (∀ (s : Shared) (v : Value), BindsTo s fd ⟨[v], []⟩ [("script", v)]) ∧ ∀ base : Heap, K.In base → base.Ns mainGlobals mg → FnOk l.prog w K mg base CX0 10 fa fd ["script"] (sp_law K) := by
  have e := hfa.symm.trans (PySem.W.mg_of X G a92)
  cases e
  have F1 := fun_mk (st := s_fixed_residuals) l1 c1 k1
  have b1 := F1.binds (ps := ["samples", "order"]) fun _ _ _ _ _ _ us hl => (by obtain ⟨_, _, rfl⟩ := ml2 hl; exact rfl)
  have F2 : FunD K "fixed_samples" "fixed_samples" (defArgs s_fixed_samples) (defBody s_fixed_samples) (defScope s_fixed_samples) [] [("limit", V.non)] _ _ := ⟨⟨_, _, _, _, _, _, _, _, _, _, rfl, l2, c2, (.inl ⟨rfl, rfl⟩), (.inr ⟨DK2, rfl, (kwAllC ⟨_, kq2_0, rk2_0⟩ kwAllN)⟩)⟩, k2⟩
  have kb2_limit_2 : KBn K _ ["warm_up", "residuals", "limit"] 2 ["limit"] (fun us ws => us ++ ws) (fun us ws => us ++ ws) := fund_kb0 F2 2 ["limit"] (fun h1 h2 => Vals.append h1 h2) fun kV doc pm an cdv ct us ws hu hw => (by obtain ⟨_, _, rfl⟩ := ml2 hu; obtain ⟨_, rfl⟩ := ml1 hw; exact rfl)
  have F3 := fun_mk (st := s_prediction_fixed) l3 c3 k3
  have b3 := F3.binds (ps := ["samples", "order"]) fun _ _ _ _ _ _ us hl => (by obtain ⟨_, _, rfl⟩ := ml2 hl; exact rfl)
  have F4 := fun_mk (st := s_linear_residuals) l4 c4 k4
  have b4 := F4.binds (ps := ["samples", "coefficients", "shift"]) fun _ _ _ _ _ _ us hl => (by obtain ⟨_, _, _, rfl⟩ := ml3 hl; exact rfl)
  have F5 : FunD K "linear_samples" "linear_samples" (defArgs s_linear_samples) (defBody s_linear_samples) (defScope s_linear_samples) [] [("limit", V.non)] _ _ := ⟨⟨_, _, _, _, _, _, _, _, _, _, rfl, l5, c5, (.inl ⟨rfl, rfl⟩), (.inr ⟨DK5, rfl, (kwAllC ⟨_, kq5_0, rk5_0⟩ kwAllN)⟩)⟩, k5⟩
  have kb4_limit_5 : KBn K _ ["warm_up", "residuals", "coefficients", "shift", "limit"] 4 ["limit"] (fun us ws => us ++ ws) (fun us ws => us ++ ws) := fund_kb0 F5 4 ["limit"] (fun h1 h2 => Vals.append h1 h2) fun kV doc pm an cdv ct us ws hu hw => (by obtain ⟨_, _, _, _, rfl⟩ := ml4 hu; obtain ⟨_, rfl⟩ := ml1 hw; exact rfl)
  have F6 := fun_mk (st := s_prediction_linear) l6 c6 k6
  have b6 := F6.binds (ps := ["latest", "backwards", "shift"]) fun _ _ _ _ _ _ us hl => (by obtain ⟨_, _, _, rfl⟩ := ml3 hl; exact rfl)
  have F7 := fun_mk (st := s_fold) l7 c7 k7
  have b7 := F7.binds (ps := ["n"]) fun _ _ _ _ _ _ us hl => (by obtain ⟨_, rfl⟩ := ml1 hl; exact rfl)
  have F8 := fun_mk (st := s_unfold) l8 c8 k8
  have b8 := F8.binds (ps := ["u"]) fun _ _ _ _ _ _ us hl => (by obtain ⟨_, rfl⟩ := ml1 hl; exact rfl)
  have F9 := fun_mk (st := s_code_length) l9 c9 k9
  have b9 := F9.binds (ps := ["k", "n"]) fun _ _ _ _ _ _ us hl => (by obtain ⟨_, _, rfl⟩ := ml2 hl; exact rfl)
  have F10 := fun_mk (st := s_write_code) l10 c10 k10
  have b10 := F10.binds (ps := ["writer", "k", "n"]) fun _ _ _ _ _ _ us hl => (by obtain ⟨_, _, _, rfl⟩ := ml3 hl; exact rfl)
  have F11 := fun_mk (st := s_read_code) l11 c11 k11
  have b11 := F11.binds (ps := ["reader", "k"]) fun _ _ _ _ _ _ us hl => (by obtain ⟨_, _, rfl⟩ := ml2 hl; exact rfl)
  have F12 := fun_mk (st := s_legal_partition_order) l12 c12 k12
  have b12 := F12.binds (ps := ["size", "order", "partition_order"]) fun _ _ _ _ _ _ us hl => (by obtain ⟨_, _, _, rfl⟩ := ml3 hl; exact rfl)
  have F13 := fun_mk (st := s_partition_sizes) l13 c13 k13
  have b13 := F13.binds (ps := ["size", "order", "partition_order"]) fun _ _ _ _ _ _ us hl => (by obtain ⟨_, _, _, rfl⟩ := ml3 hl; exact rfl)
  have F14 := fun_mk (st := s_residual_bits) l14 c14 k14
  have b14 := F14.binds (ps := ["plan", "residuals", "order"]) fun _ _ _ _ _ _ us hl => (by obtain ⟨_, _, _, rfl⟩ := ml3 hl; exact rfl)
  have F15 := fun_mk (st := s_write_residuals) l15 c15 k15
  have b15 := F15.binds (ps := ["writer", "plan", "residuals", "order"]) fun _ _ _ _ _ _ us hl => (by obtain ⟨_, _, _, _, rfl⟩ := ml4 hl; exact rfl)
  have F16 := fun_mk (st := s_read_residuals) l16 c16 k16
  have b16 := F16.binds (ps := ["reader", "size", "order"]) fun _ _ _ _ _ _ us hl => (by obtain ⟨_, _, _, rfl⟩ := ml3 hl; exact rfl)
  have F17 := fun_mk (st := s_parts) l17 c17 k17
  have b17 := F17.binds (ps := ["residuals", "order", "partition_order"]) fun _ _ _ _ _ _ us hl => (by obtain ⟨_, _, _, rfl⟩ := ml3 hl; exact rfl)
  have F18 := fun_mk (st := s_coding_width) l18 c18 k18
  have b18 := F18.binds (ps := ["method"]) fun _ _ _ _ _ _ us hl => (by obtain ⟨_, rfl⟩ := ml1 hl; exact rfl)
  have F19 := fun_mk (st := s_raw_mark) l19 c19 k19
  have b19 := F19.binds (ps := ["method"]) fun _ _ _ _ _ _ us hl => (by obtain ⟨_, rfl⟩ := ml1 hl; exact rfl)
  have F20 := fun_mk (st := s_part_bits) l20 c20 k20
  have b20 := F20.binds (ps := ["method", "coding", "part"]) fun _ _ _ _ _ _ us hl => (by obtain ⟨_, _, _, rfl⟩ := ml3 hl; exact rfl)
  have F21 := fun_mk (st := s_write_coding) l21 c21 k21
  have b21 := F21.binds (ps := ["writer", "method", "coding"]) fun _ _ _ _ _ _ us hl => (by obtain ⟨_, _, _, rfl⟩ := ml3 hl; exact rfl)
  have F22 := fun_mk (st := s_write_part) l22 c22 k22
  have b22 := F22.binds (ps := ["writer", "coding", "part"]) fun _ _ _ _ _ _ us hl => (by obtain ⟨_, _, _, rfl⟩ := ml3 hl; exact rfl)
  have F23 := fun_mk (st := s_read_method) l23 c23 k23
  have b23 := F23.binds (ps := ["reader"]) fun _ _ _ _ _ _ us hl => (by obtain ⟨_, rfl⟩ := ml1 hl; exact rfl)
  have F24 := fun_mk (st := s_read_partition_order) l24 c24 k24
  have b24 := F24.binds (ps := ["reader", "size", "order"]) fun _ _ _ _ _ _ us hl => (by obtain ⟨_, _, _, rfl⟩ := ml3 hl; exact rfl)
  have F25 := fun_mk (st := s_read_coding) l25 c25 k25
  have b25 := F25.binds (ps := ["reader", "method"]) fun _ _ _ _ _ _ us hl => (by obtain ⟨_, _, rfl⟩ := ml2 hl; exact rfl)
  have F26 := fun_mk (st := s_read_part) l26 c26 k26
  have b26 := F26.binds (ps := ["reader", "coding", "count"]) fun _ _ _ _ _ _ us hl => (by obtain ⟨_, _, _, rfl⟩ := ml3 hl; exact rfl)
  have F27 := fun_mk (st := s_read_residual) l27 c27 k27
  have b27 := F27.binds (ps := ["reader", "k"]) fun _ _ _ _ _ _ us hl => (by obtain ⟨_, _, rfl⟩ := ml2 hl; exact rfl)
  have F28 : FunD K "best_coding" "best_coding" (defArgs s_best_coding) (defBody s_best_coding) (defScope s_best_coding) [] [] _ _ := ⟨⟨_, _, _, _, _, _, _, _, _, _, rfl, l28, c28, (.inl ⟨rfl, rfl⟩), (.inl rfl)⟩, k28⟩
  have kb2_highest_wide_28 : KBn K _ ["residuals", "order", "highest", "wide"] 2 ["highest", "wide"] (fun us ws => us ++ ws) (fun us ws => us ++ ws) := fund_kb0 F28 2 ["highest", "wide"] (fun h1 h2 => Vals.append h1 h2) fun kV doc pm an cdv ct us ws hu hw => (by obtain ⟨_, _, rfl⟩ := ml2 hu; obtain ⟨_, _, rfl⟩ := ml2 hw; exact rfl)
  have F29 := fun_mk (st := s_width) l29 c29 k29
  have b29 := F29.binds (ps := ["folded"]) fun _ _ _ _ _ _ us hl => (by obtain ⟨_, rfl⟩ := ml1 hl; exact rfl)
  have F30 := fun_mk (st := s_measured) l30 c30 k30
  have b30 := F30.binds (ps := ["residuals"]) fun _ _ _ _ _ _ us hl => (by obtain ⟨_, rfl⟩ := ml1 hl; exact rfl)
  have F31 := fun_mk (st := s_measured_parts) l31 c31 k31
  have b31 := F31.binds (ps := ["residuals", "sizes"]) fun _ _ _ _ _ _ us hl => (by obtain ⟨_, _, rfl⟩ := ml2 hl; exact rfl)
  have F32 := fun_mk (st := s_joined_in_pairs) l32 c32 k32
  have b32 := F32.binds (ps := ["parts"]) fun _ _ _ _ _ _ us hl => (by obtain ⟨_, rfl⟩ := ml1 hl; exact rfl)
  have F33 := fun_mk (st := s_joined) l33 c33 k33
  have b33 := F33.binds (ps := ["part", "other"]) fun _ _ _ _ _ _ us hl => (by obtain ⟨_, _, rfl⟩ := ml2 hl; exact rfl)
  have F34 := fun_mk (st := s_entry) l34 c34 k34
  have b34 := F34.binds (ps := ["part", "method"]) fun _ _ _ _ _ _ us hl => (by obtain ⟨_, _, rfl⟩ := ml2 hl; exact rfl)
  have F35 := fun_mk (st := s_entries) l35 c35 k35
  have b35 := F35.binds (ps := ["parts", "method"]) fun _ _ _ _ _ _ us hl => (by obtain ⟨_, _, rfl⟩ := ml2 hl; exact rfl)
  have F36 := fun_mk (st := s_weighted) l36 c36 k36
  have b36 := F36.binds (ps := ["samples"]) fun _ _ _ _ _ _ us hl => (by obtain ⟨_, rfl⟩ := ml1 hl; exact rfl)
  have F37 := fun_mk (st := s_autocorrelation) l37 c37 k37
  have b37 := F37.binds (ps := ["values", "most"]) fun _ _ _ _ _ _ us hl => (by obtain ⟨_, _, rfl⟩ := ml2 hl; exact rfl)
  have F38 := fun_mk (st := s_exact_predictors) l38 c38 k38
  have b38 := F38.binds (ps := ["correlation"]) fun _ _ _ _ _ _ us hl => (by obtain ⟨_, rfl⟩ := ml1 hl; exact rfl)
  have F39 := fun_mk (st := s_quantize) l39 c39 k39
  have b39 := F39.binds (ps := ["numerators", "denominator", "precision"]) fun _ _ _ _ _ _ us hl => (by obtain ⟨_, _, _, rfl⟩ := ml3 hl; exact rfl)
  have F40 := fun_mk (st := s_predictors) l40 c40 k40
  have b40 := F40.binds (ps := ["samples", "most", "precision"]) fun _ _ _ _ _ _ us hl => (by obtain ⟨_, _, _, rfl⟩ := ml3 hl; exact rfl)
  have F41 := fun_mk (st := s_last_numerator) l41 c41 k41
  have b41 := F41.binds (ps := ["correlation", "numerators", "denominator"]) fun _ _ _ _ _ _ us hl => (by obtain ⟨_, _, _, rfl⟩ := ml3 hl; exact rfl)
  have F42 := fun_mk (st := s_rounded) l42 c42 k42
  have b42 := F42.binds (ps := ["a", "b"]) fun _ _ _ _ _ _ us hl => (by obtain ⟨_, _, rfl⟩ := ml2 hl; exact rfl)
  have F43 : FunD K "__init__" "Subframe.__init__" (defArgs s_Subframe_init) (defBody s_Subframe_init) (defScope s_Subframe_init) [] [("order", V.int 0), ("precision", V.int 0), ("shift", V.int 0), ("coefficients", V.ref e_Subframe_init_coefficients), ("plan", V.non), ("wasted", V.int 0)] _ _ := ⟨⟨_, _, _, _, _, _, _, _, _, _, rfl, l43, c43, (.inl ⟨rfl, rfl⟩), (.inr ⟨DK43, rfl, (kwAllC ⟨_, kq43_0, rk43_0⟩ (kwAllC ⟨_, kq43_1, rk43_1⟩ (kwAllC ⟨_, kq43_2, rk43_2⟩ (kwAllC ⟨_, kq43_3, rfl⟩ (kwAllC ⟨_, kq43_4, rk43_4⟩ (kwAllC ⟨_, kq43_5, rk43_5⟩ kwAllN))))))⟩)⟩, k43⟩
  have kb2_order_precision_shift_coefficients_plan_wasted_43 : KBn K _ ["self", "kind", "order", "precision", "shift", "coefficients", "plan", "wasted"] 2 ["order", "precision", "shift", "coefficients", "plan", "wasted"] (fun us ws => us ++ ws) (fun us ws => us ++ ws) := fund_kb0 F43 2 ["order", "precision", "shift", "coefficients", "plan", "wasted"] (fun h1 h2 => Vals.append h1 h2) fun kV doc pm an cdv ct us ws hu hw => (by obtain ⟨_, _, rfl⟩ := ml2 hu; obtain ⟨_, _, _, _, _, _, rfl⟩ := ml6 hw; exact rfl)
  obtain ⟨mv2_wasted_43, kb2_wasted_43⟩ := F43.kbinds0 (ps := ["self", "kind", "order", "precision", "shift", "coefficients", "plan", "wasted"]) 2 ["wasted"] [("order", V.int 0), ("precision", V.int 0), ("shift", V.int 0), ("coefficients", V.ref e_Subframe_init_coefficients), ("plan", V.non)] (fun us mv ws => us ++ ((List.take 5 (List.drop 0 mv)) ++ (List.take 1 (List.drop 0 ws)))) (by simp) (by simp) (fun r1 r2 r3 => Vals.append r1 (Vals.append ((Vals.drop 0 r2).take 5) ((Vals.drop 0 r3).take 1))) (fun D0 doc pm an cdv ct us mv ws hu hm hw => (by obtain ⟨_, _, rfl⟩ := ml2 hu; obtain ⟨_, _, _, _, _, rfl⟩ := ml5 hm; obtain ⟨_, rfl⟩ := ml1 hw; exact ⟨_, _, _, _, _, _, rfl, rfl, ⟨_, _, _, _, _, _, rfl, rfl, ⟨_, _, _, _, _, _, rfl, rfl, ⟨_, _, _, _, _, _, rfl, rfl, ⟨_, _, _, _, _, _, rfl, rfl, rfl⟩⟩⟩⟩⟩))
  obtain ⟨mv2_order_plan_wasted_43, kb2_order_plan_wasted_43⟩ := F43.kbinds0 (ps := ["self", "kind", "order", "precision", "shift", "coefficients", "plan", "wasted"]) 2 ["order", "plan", "wasted"] [("precision", V.int 0), ("shift", V.int 0), ("coefficients", V.ref e_Subframe_init_coefficients)] (fun us mv ws => us ++ ((List.take 1 (List.drop 0 ws)) ++ (List.take 3 (List.drop 0 mv)) ++ (List.take 2 (List.drop 1 ws)))) (by simp) (by simp) (fun r1 r2 r3 => Vals.append r1 (Vals.append (Vals.append ((Vals.drop 0 r3).take 1) ((Vals.drop 0 r2).take 3)) ((Vals.drop 1 r3).take 2))) (fun D0 doc pm an cdv ct us mv ws hu hm hw => (by obtain ⟨_, _, rfl⟩ := ml2 hu; obtain ⟨_, _, _, rfl⟩ := ml3 hm; obtain ⟨_, _, _, rfl⟩ := ml3 hw; exact ⟨_, _, _, _, _, _, rfl, rfl, ⟨_, _, _, _, _, _, rfl, rfl, ⟨_, _, _, _, _, _, rfl, rfl, rfl⟩⟩⟩))
  obtain ⟨e2_43, v2_43, b2_43⟩ := F43.binds0 (ps := ["self", "kind", "order", "precision", "shift", "coefficients", "plan", "wasted"]) 2 (by simp) rfl fun D0 doc pm an cdv ct us ks hu hk => (by obtain ⟨_, _, rfl⟩ := ml2 hu; obtain ⟨_, _, _, _, _, _, rfl⟩ := ml6 hk; exact ⟨_, _, _, _, _, _, rfl, rfl, ⟨_, _, _, _, _, _, rfl, rfl, ⟨_, _, _, _, _, _, rfl, rfl, ⟨_, _, _, _, _, _, rfl, rfl, ⟨_, _, _, _, _, _, rfl, rfl, ⟨_, _, _, _, _, _, rfl, rfl, rfl⟩⟩⟩⟩⟩⟩)
  have F44 := fun_mk (st := s_write_subframe) l44 c44 k44
  have b44 := F44.binds (ps := ["writer", "depth", "samples", "subframe"]) fun _ _ _ _ _ _ us hl => (by obtain ⟨_, _, _, _, rfl⟩ := ml4 hl; exact rfl)
  have F45 := fun_mk (st := s_read_subframe) l45 c45 k45
  have b45 := F45.binds (ps := ["reader", "depth", "size"]) fun _ _ _ _ _ _ us hl => (by obtain ⟨_, _, _, rfl⟩ := ml3 hl; exact rfl)
  have F46 := fun_mk (st := s_subframe_bits) l46 c46 k46
  have b46 := F46.binds (ps := ["depth", "samples", "subframe"]) fun _ _ _ _ _ _ us hl => (by obtain ⟨_, _, _, rfl⟩ := ml3 hl; exact rfl)
  have F47 := fun_mk (st := s_warm_up_length) l47 c47 k47
  have b47 := F47.binds (ps := ["subframe"]) fun _ _ _ _ _ _ us hl => (by obtain ⟨_, rfl⟩ := ml1 hl; exact rfl)
  have F48 := fun_mk (st := s_residuals) l48 c48 k48
  have b48 := F48.binds (ps := ["values", "subframe"]) fun _ _ _ _ _ _ us hl => (by obtain ⟨_, _, rfl⟩ := ml2 hl; exact rfl)
  have F49 := fun_mk (st := s_kind_code) l49 c49 k49
  have b49 := F49.binds (ps := ["subframe"]) fun _ _ _ _ _ _ us hl => (by obtain ⟨_, rfl⟩ := ml1 hl; exact rfl)
  have F50 := fun_mk (st := s_write_header) l50 c50 k50
  have b50 := F50.binds (ps := ["writer", "subframe"]) fun _ _ _ _ _ _ us hl => (by obtain ⟨_, _, rfl⟩ := ml2 hl; exact rfl)
  have F51 := fun_mk (st := s_write_values) l51 c51 k51
  have b51 := F51.binds (ps := ["writer", "width", "values"]) fun _ _ _ _ _ _ us hl => (by obtain ⟨_, _, _, rfl⟩ := ml3 hl; exact rfl)
  have F52 := fun_mk (st := s_write_predicted) l52 c52 k52
  have b52 := F52.binds (ps := ["writer", "width", "values", "subframe"]) fun _ _ _ _ _ _ us hl => (by obtain ⟨_, _, _, _, rfl⟩ := ml4 hl; exact rfl)
  have F53 := fun_mk (st := s_read_kind) l53 c53 k53
  have b53 := F53.binds (ps := ["reader"]) fun _ _ _ _ _ _ us hl => (by obtain ⟨_, rfl⟩ := ml1 hl; exact rfl)
  have F54 := fun_mk (st := s_read_wasted) l54 c54 k54
  have b54 := F54.binds (ps := ["reader", "depth"]) fun _ _ _ _ _ _ us hl => (by obtain ⟨_, _, rfl⟩ := ml2 hl; exact rfl)
  have F55 := fun_mk (st := s_read_values) l55 c55 k55
  have b55 := F55.binds (ps := ["reader", "width", "count"]) fun _ _ _ _ _ _ us hl => (by obtain ⟨_, _, _, rfl⟩ := ml3 hl; exact rfl)
  have F56 := fun_mk (st := s_read_fixed) l56 c56 k56
  have b56 := F56.binds (ps := ["reader", "width", "size", "order", "wasted"]) fun _ _ _ _ _ _ us hl => (by obtain ⟨_, _, _, _, _, rfl⟩ := ml5 hl; exact rfl)
  have F57 := fun_mk (st := s_read_linear) l57 c57 k57
  have b57 := F57.binds (ps := ["reader", "width", "size", "order", "wasted"]) fun _ _ _ _ _ _ us hl => (by obtain ⟨_, _, _, _, _, rfl⟩ := ml5 hl; exact rfl)
  have F58 := fun_mk (st := s_read_precision) l58 c58 k58
  have b58 := F58.binds (ps := ["reader"]) fun _ _ _ _ _ _ us hl => (by obtain ⟨_, rfl⟩ := ml1 hl; exact rfl)
  have F59 := fun_mk (st := s_read_shift) l59 c59 k59
  have b59 := F59.binds (ps := ["reader"]) fun _ _ _ _ _ _ us hl => (by obtain ⟨_, rfl⟩ := ml1 hl; exact rfl)
  have F60 := fun_mk (st := s_limit) l60 c60 k60
  have b60 := F60.binds (ps := ["width"]) fun _ _ _ _ _ _ us hl => (by obtain ⟨_, rfl⟩ := ml1 hl; exact rfl)
  have F61 := fun_mk (st := s_wasted_bits) l61 c61 k61
  have b61 := F61.binds (ps := ["samples"]) fun _ _ _ _ _ _ us hl => (by obtain ⟨_, rfl⟩ := ml1 hl; exact rfl)
  have F62 := fun_mk (st := s_best_subframe) l62 c62 k62
  have b62 := F62.binds (ps := ["samples", "depth", "settings"]) fun _ _ _ _ _ _ us hl => (by obtain ⟨_, _, _, rfl⟩ := ml3 hl; exact rfl)
  have F63 := fun_mk (st := s_first_smallest) l63 c63 k63
  have b63 := F63.binds (ps := ["candidates"]) fun _ _ _ _ _ _ us hl => (by obtain ⟨_, rfl⟩ := ml1 hl; exact rfl)
  have F64 := fun_mk (st := s_fixed_candidates) l64 c64 k64
  have b64 := F64.binds (ps := ["values", "width", "wasted", "settings"]) fun _ _ _ _ _ _ us hl => (by obtain ⟨_, _, _, _, rfl⟩ := ml4 hl; exact rfl)
  have F65 := fun_mk (st := s_linear_candidates) l65 c65 k65
  have b65 := F65.binds (ps := ["values", "width", "wasted", "settings"]) fun _ _ _ _ _ _ us hl => (by obtain ⟨_, _, _, _, rfl⟩ := ml4 hl; exact rfl)
  have F66 := fun_mk (st := s_linear_orders) l66 c66 k66
  have b66 := F66.binds (ps := ["count", "settings"]) fun _ _ _ _ _ _ us hl => (by obtain ⟨_, _, rfl⟩ := ml2 hl; exact rfl)
  have F67 := fun_mk (st := s_in_bounds) l67 c67 k67
  have b67 := F67.binds (ps := ["residuals"]) fun _ _ _ _ _ _ us hl => (by obtain ⟨_, rfl⟩ := ml1 hl; exact rfl)
  have F68 := fun_mk (st := s_best_plan) l68 c68 k68
  have b68 := F68.binds (ps := ["residuals", "order", "settings"]) fun _ _ _ _ _ _ us hl => (by obtain ⟨_, _, _, rfl⟩ := ml3 hl; exact rfl)
  have F69 := fun_mk (st := s_BitWriter_init) l69 c69 k69
  have b69 := F69.binds (ps := ["self"]) fun _ _ _ _ _ _ us hl => (by obtain ⟨_, rfl⟩ := ml1 hl; exact rfl)
  have F70 := fun_mk (st := s_BitWriter_write) l70 c70 k70
  have b70 := F70.binds (ps := ["self", "width", "value"]) fun _ _ _ _ _ _ us hl => (by obtain ⟨_, _, _, rfl⟩ := ml3 hl; exact rfl)
  have F71 := fun_mk (st := s_BitWriter_write_signed) l71 c71 k71
  have b71 := F71.binds (ps := ["self", "width", "value"]) fun _ _ _ _ _ _ us hl => (by obtain ⟨_, _, _, rfl⟩ := ml3 hl; exact rfl)
  have F72 := fun_mk (st := s_BitWriter_write_unary) l72 c72 k72
  have b72 := F72.binds (ps := ["self", "count"]) fun _ _ _ _ _ _ us hl => (by obtain ⟨_, _, rfl⟩ := ml2 hl; exact rfl)
  have F73 := fun_mk (st := s_BitWriter_pad) l73 c73 k73
  have b73 := F73.binds (ps := ["self"]) fun _ _ _ _ _ _ us hl => (by obtain ⟨_, rfl⟩ := ml1 hl; exact rfl)
  have F74 := fun_mk (st := s_BitWriter_byte_list) l74 c74 k74
  have b74 := F74.binds (ps := ["self"]) fun _ _ _ _ _ _ us hl => (by obtain ⟨_, rfl⟩ := ml1 hl; exact rfl)
  have F75 := fun_mk (st := s_BitWriter_bits_written) l75 c75 k75
  have b75 := F75.binds (ps := ["self"]) fun _ _ _ _ _ _ us hl => (by obtain ⟨_, rfl⟩ := ml1 hl; exact rfl)
  have F76 : FunD K "__init__" "BitReader.__init__" (defArgs s_BitReader_init) (defBody s_BitReader_init) (defScope s_BitReader_init) [V.int 0] [] _ _ := ⟨⟨_, _, _, _, _, _, _, _, _, _, rfl, l76, c76, (.inr ⟨by simp, DT76, _, [du76_0], tn76, rfl, t76, rfl, (.cons rd76_0 .nil)⟩), (.inl rfl)⟩, k76⟩
  obtain ⟨e2_76, v2_76, b2_76⟩ := F76.binds1 (ps := ["self", "data", "at"]) 2 0 (by simp) rfl fun T0 kV doc pm an cdv ct us its hu hi => (by obtain ⟨_, _, rfl⟩ := ml2 hu; obtain ⟨_, rfl⟩ := ml1 hi; exact ⟨_, rfl, rfl⟩)
  have F77 := fun_mk (st := s_BitReader_read) l77 c77 k77
  have b77 := F77.binds (ps := ["self", "width"]) fun _ _ _ _ _ _ us hl => (by obtain ⟨_, _, rfl⟩ := ml2 hl; exact rfl)
  have F78 := fun_mk (st := s_BitReader_read_signed) l78 c78 k78
  have b78 := F78.binds (ps := ["self", "width"]) fun _ _ _ _ _ _ us hl => (by obtain ⟨_, _, rfl⟩ := ml2 hl; exact rfl)
  have F79 := fun_mk (st := s_BitReader_read_unary) l79 c79 k79
  have b79 := F79.binds (ps := ["self"]) fun _ _ _ _ _ _ us hl => (by obtain ⟨_, rfl⟩ := ml1 hl; exact rfl)
  have F80 := fun_mk (st := s_BitReader_rest_of_byte) l80 c80 k80
  have b80 := F80.binds (ps := ["self"]) fun _ _ _ _ _ _ us hl => (by obtain ⟨_, rfl⟩ := ml1 hl; exact rfl)
  have F81 := fun_mk (st := s_BitReader_byte_place) l81 c81 k81
  have b81 := F81.binds (ps := ["self"]) fun _ _ _ _ _ _ us hl => (by obtain ⟨_, rfl⟩ := ml1 hl; exact rfl)
  have F82 := fun_mk (st := s_BitReader_bit_place) l82 c82 k82
  have b82 := F82.binds (ps := ["self"]) fun _ _ _ _ _ _ us hl => (by obtain ⟨_, rfl⟩ := ml1 hl; exact rfl)
  have F83 : FunD K "__init__" "Settings.__init__" (defArgs s_Settings_init) (defBody s_Settings_init) (defScope s_Settings_init) [] [("block_sizes", V.non), ("fixed_order", V.int 4), ("linear_order", V.int 0), ("search", V.bl false), ("precision", V.int 12), ("partition_order", V.int 4), ("wide", V.bl false), ("stereo", V.bl true), ("wasted", V.bl true), ("seek_interval", V.int 0), ("vendor", V.str "")] _ _ := ⟨⟨_, _, _, _, _, _, _, _, _, _, rfl, l83, c83, (.inl ⟨rfl, rfl⟩), (.inr ⟨DK83, rfl, (kwAllC ⟨_, kq83_0, rk83_0⟩ (kwAllC ⟨_, kq83_1, rk83_1⟩ (kwAllC ⟨_, kq83_2, rk83_2⟩ (kwAllC ⟨_, kq83_3, rk83_3⟩ (kwAllC ⟨_, kq83_4, rk83_4⟩ (kwAllC ⟨_, kq83_5, rk83_5⟩ (kwAllC ⟨_, kq83_6, rk83_6⟩ (kwAllC ⟨_, kq83_7, rk83_7⟩ (kwAllC ⟨_, kq83_8, rk83_8⟩ (kwAllC ⟨_, kq83_9, rk83_9⟩ (kwAllC ⟨_, kq83_10, rk83_10⟩ kwAllN)))))))))))⟩)⟩, k83⟩
  obtain ⟨mv2_fixed_order_linear_order_search_precision_partition_order_wide_stereo_wasted_83, kb2_fixed_order_linear_order_search_precision_partition_order_wide_stereo_wasted_83⟩ := F83.kbinds0 (ps := ["self", "block_size", "block_sizes", "fixed_order", "linear_order", "search", "precision", "partition_order", "wide", "stereo", "wasted", "seek_interval", "vendor"]) 2 ["fixed_order", "linear_order", "search", "precision", "partition_order", "wide", "stereo", "wasted"] [("block_sizes", V.non), ("seek_interval", V.int 0), ("vendor", V.str "")] (fun us mv ws => us ++ ((List.take 1 (List.drop 0 mv)) ++ (List.take 8 (List.drop 0 ws)) ++ (List.take 2 (List.drop 1 mv)))) (by simp) (by simp) (fun r1 r2 r3 => Vals.append r1 (Vals.append (Vals.append ((Vals.drop 0 r2).take 1) ((Vals.drop 0 r3).take 8)) ((Vals.drop 1 r2).take 2))) (fun D0 doc pm an cdv ct us mv ws hu hm hw => (by obtain ⟨_, _, rfl⟩ := ml2 hu; obtain ⟨_, _, _, rfl⟩ := ml3 hm; obtain ⟨_, _, _, _, _, _, _, _, rfl⟩ := ml8 hw; exact ⟨_, _, _, _, _, _, rfl, rfl, ⟨_, _, _, _, _, _, rfl, rfl, ⟨_, _, _, _, _, _, rfl, rfl, rfl⟩⟩⟩))
  have F84 := fun_mk (st := s_law_cell) l84 c84 k84
  have b84 := F84.binds (ps := ["script", "k"]) fun _ _ _ _ _ _ us hl => (by obtain ⟨_, _, rfl⟩ := ml2 hl; exact rfl)
  have F85 := fun_mk (st := s_law_integer) l85 c85 k85
  have b85 := F85.binds (ps := ["value"]) fun _ _ _ _ _ _ us hl => (by obtain ⟨_, rfl⟩ := ml1 hl; exact rfl)
  have F86 := fun_mk (st := s_law_integers) l86 c86 k86
  have b86 := F86.binds (ps := ["values"]) fun _ _ _ _ _ _ us hl => (by obtain ⟨_, rfl⟩ := ml1 hl; exact rfl)
  have F87 := fun_mk (st := s_law_row) l87 c87 k87
  have b87 := F87.binds (ps := ["cell", "count", "bound"]) fun _ _ _ _ _ _ us hl => (by obtain ⟨_, _, _, rfl⟩ := ml3 hl; exact rfl)
  have F88 := fun_mk (st := s_law_signal) l88 c88 k88
  have b88 := F88.binds (ps := ["cell", "count", "depth", "shape"]) fun _ _ _ _ _ _ us hl => (by obtain ⟨_, _, _, _, rfl⟩ := ml4 hl; exact rfl)
  have F89 := fun_mk (st := s_law_settings) l89 c89 k89
  have b89 := F89.binds (ps := ["cell", "size", "linear"]) fun _ _ _ _ _ _ us hl => (by obtain ⟨_, _, _, rfl⟩ := ml3 hl; exact rfl)
  have F90 := fun_mk (st := s_law_fields) l90 c90 k90
  have b90 := F90.binds (ps := ["told"]) fun _ _ _ _ _ _ us hl => (by obtain ⟨_, rfl⟩ := ml1 hl; exact rfl)
  have F91 := fun_mk (st := s_law_bounded) l91 c91 k91
  have b91 := F91.binds (ps := ["samples", "depth", "settings", "degree", "k", "bits"]) fun _ _ _ _ _ _ us hl => (by obtain ⟨_, _, _, _, _, _, rfl⟩ := ml6 hl; exact rfl)
  have F92 := fun_mk (st := s_law) l92 c92 k92
  have b92 := F92.binds (ps := ["script"]) fun _ _ _ _ _ _ us hl => (by obtain ⟨_, rfl⟩ := ml1 hl; exact rfl)
  let T : TX K mg := ⟨f1, _, F1, b1, (PySem.W.mg_of X G a1), f2, _, F2, kb2_limit_2, (PySem.W.mg_of X G a2), f3, _, F3, b3, (PySem.W.mg_of X G a3), f4, _, F4, b4, (PySem.W.mg_of X G a4), f5, _, F5, kb4_limit_5, (PySem.W.mg_of X G a5), f6, _, F6, b6, (PySem.W.mg_of X G a6), f7, _, F7, b7, (PySem.W.mg_of X G a7), f8, _, F8, b8, (PySem.W.mg_of X G a8), f9, _, F9, b9, (PySem.W.mg_of X G a9), f10, _, F10, b10, (PySem.W.mg_of X G a10), f11, _, F11, b11, (PySem.W.mg_of X G a11), f12, _, F12, b12, (PySem.W.mg_of X G a12), f13, _, F13, b13, (PySem.W.mg_of X G a13), f14, _, F14, b14, (PySem.W.mg_of X G a14), f15, _, F15, b15, (PySem.W.mg_of X G a15), f16, _, F16, b16, (PySem.W.mg_of X G a16), f17, _, F17, b17, (PySem.W.mg_of X G a17), f18, _, F18, b18, (PySem.W.mg_of X G a18), f19, _, F19, b19, (PySem.W.mg_of X G a19), f20, _, F20, b20, (PySem.W.mg_of X G a20), f21, _, F21, b21, (PySem.W.mg_of X G a21), f22, _, F22, b22, (PySem.W.mg_of X G a22), f23, _, F23, b23, (PySem.W.mg_of X G a23), f24, _, F24, b24, (PySem.W.mg_of X G a24), f25, _, F25, b25, (PySem.W.mg_of X G a25), f26, _, F26, b26, (PySem.W.mg_of X G a26), f27, _, F27, b27, (PySem.W.mg_of X G a27), f28, _, F28, kb2_highest_wide_28, (PySem.W.mg_of X G a28), f29, _, F29, b29, (PySem.W.mg_of X G a29), f30, _, F30, b30, (PySem.W.mg_of X G a30), f31, _, F31, b31, (PySem.W.mg_of X G a31), f32, _, F32, b32, (PySem.W.mg_of X G a32), f33, _, F33, b33, (PySem.W.mg_of X G a33), f34, _, F34, b34, (PySem.W.mg_of X G a34), f35, _, F35, b35, (PySem.W.mg_of X G a35), f36, _, F36, b36, (PySem.W.mg_of X G a36), f37, _, F37, b37, (PySem.W.mg_of X G a37), f38, _, F38, b38, (PySem.W.mg_of X G a38), f39, _, F39, b39, (PySem.W.mg_of X G a39), f40, _, F40, b40, (PySem.W.mg_of X G a40), f41, _, F41, b41, (PySem.W.mg_of X G a41), f42, _, F42, b42, (PySem.W.mg_of X G a42), f43, _, e_Subframe_init_coefficients, (fun H => .inr ⟨_, _, _, le_Subframe_init_coefficients, rfl, rfl, Nat.le_of_ble_eq_true rfl, .nil⟩), F43, kb2_order_precision_shift_coefficients_plan_wasted_43, mv2_wasted_43, kb2_wasted_43, mv2_order_plan_wasted_43, kb2_order_plan_wasted_43, e2_43, v2_43, b2_43, f44, _, F44, b44, (PySem.W.mg_of X G a44), f45, _, F45, b45, (PySem.W.mg_of X G a45), f46, _, F46, b46, (PySem.W.mg_of X G a46), f47, _, F47, b47, (PySem.W.mg_of X G a47), f48, _, F48, b48, (PySem.W.mg_of X G a48), f49, _, F49, b49, (PySem.W.mg_of X G a49), f50, _, F50, b50, (PySem.W.mg_of X G a50), f51, _, F51, b51, (PySem.W.mg_of X G a51), f52, _, F52, b52, (PySem.W.mg_of X G a52), f53, _, F53, b53, (PySem.W.mg_of X G a53), f54, _, F54, b54, (PySem.W.mg_of X G a54), f55, _, F55, b55, (PySem.W.mg_of X G a55), f56, _, F56, b56, (PySem.W.mg_of X G a56), f57, _, F57, b57, (PySem.W.mg_of X G a57), f58, _, F58, b58, (PySem.W.mg_of X G a58), f59, _, F59, b59, (PySem.W.mg_of X G a59), f60, _, F60, b60, (PySem.W.mg_of X G a60), f61, _, F61, b61, (PySem.W.mg_of X G a61), f62, _, F62, b62, (PySem.W.mg_of X G a62), f63, _, F63, b63, (PySem.W.mg_of X G a63), f64, _, F64, b64, (PySem.W.mg_of X G a64), f65, _, F65, b65, (PySem.W.mg_of X G a65), f66, _, F66, b66, (PySem.W.mg_of X G a66), f67, _, F67, b67, (PySem.W.mg_of X G a67), f68, _, F68, b68, (PySem.W.mg_of X G a68), f69, _, F69, b69, f70, _, F70, b70, f71, _, F71, b71, f72, _, F72, b72, f73, _, F73, b73, f74, _, F74, b74, f75, _, F75, b75, f76, _, F76, e2_76, v2_76, b2_76, f77, _, F77, b77, f78, _, F78, b78, f79, _, F79, b79, f80, _, F80, b80, f81, _, F81, b81, f82, _, F82, b82, f83, _, F83, mv2_fixed_order_linear_order_search_precision_partition_order_wide_stereo_wasted_83, kb2_fixed_order_linear_order_search_precision_partition_order_wide_stereo_wasted_83, f84, _, F84, b84, (PySem.W.mg_of X G a84), f85, _, F85, b85, (PySem.W.mg_of X G a85), f86, _, F86, b86, (PySem.W.mg_of X G a86), f87, _, F87, b87, (PySem.W.mg_of X G a87), f88, _, F88, b88, (PySem.W.mg_of X G a88), f89, _, F89, b89, (PySem.W.mg_of X G a89), f90, _, F90, b90, (PySem.W.mg_of X G a90), f91, _, F91, b91, (PySem.W.mg_of X G a91), fa, _, F92, b92, (PySem.W.mg_of X G a92), C_Subframe, ⟨pg_Subframe, hd_Subframe, po_Subframe, sa_Subframe⟩, (PySem.W.mg_of X G aC_Subframe), ⟨mk_Subframe, a43, i43, kc_Subframe⟩, n_Subframe_kind, n_Subframe_order, n_Subframe_precision, n_Subframe_shift, n_Subframe_coefficients, n_Subframe_plan, n_Subframe_wasted, C_BitWriter, ⟨pg_BitWriter, hd_BitWriter, po_BitWriter, sa_BitWriter⟩, (PySem.W.mg_of X G aC_BitWriter), ⟨mk_BitWriter, a69, i69, kc_BitWriter⟩, ⟨a70, i70, k70⟩, ⟨a71, i71, k71⟩, ⟨a72, i72, k72⟩, ⟨a73, i73, k73⟩, ⟨a74, i74, k74⟩, ⟨a75, i75, k75⟩, n_BitWriter_whole, n_BitWriter_held, n_BitWriter_held_bits, C_BitReader, ⟨pg_BitReader, hd_BitReader, po_BitReader, sa_BitReader⟩, (PySem.W.mg_of X G aC_BitReader), ⟨mk_BitReader, a76, i76, kc_BitReader⟩, ⟨a77, i77, k77⟩, ⟨a78, i78, k78⟩, ⟨a79, i79, k79⟩, ⟨a80, i80, k80⟩, ⟨a81, i81, k81⟩, ⟨a82, i82, k82⟩, n_BitReader_data, n_BitReader_position, C_Settings, ⟨pg_Settings, hd_Settings, po_Settings, sa_Settings⟩, (PySem.W.mg_of X G aC_Settings), ⟨mk_Settings, a83, i83, kc_Settings⟩, n_Settings_block_size, n_Settings_block_sizes, n_Settings_fixed_order, n_Settings_linear_order, n_Settings_search, n_Settings_precision, n_Settings_partition_order, n_Settings_wide, n_Settings_stereo, n_Settings_wasted, n_Settings_seek_interval, n_Settings_vendor, (PySem.W.mg_none_of X G z_list), (PySem.W.mg_none_of X G z_range), (PySem.W.mg_none_of X G z_zip), (PySem.W.mg_none_of X G z_len), (PySem.W.mg_none_of X G z_sum), (PySem.W.mg_none_of X G z_tuple), (PySem.W.mg_none_of X G z_max), (PySem.W.mg_none_of X G z_min), (PySem.W.mg_none_of X G z_enumerate), (PySem.W.mg_none_of X G z_reversed), (PySem.W.mg_none_of X G z_abs), (PySem.W.mg_none_of X G z_isinstance), (PySem.W.mg_none_of X G z_int), (PySem.W.mg_none_of X G z_bool), (PySem.W.mg_none_of X G z_all), u_BOUND_residual, (PySem.W.mg_of X G q_BOUND_residual), r_BOUND_residual, A_PARAMETERS, (PySem.W.mg_of X G q_PARAMETERS), (fun H => .inr ⟨_, _, _, l_PARAMETERS, rfl, rfl, Nat.le_of_ble_eq_true rfl, (.cons r_PARAMETERS_0 (.cons r_PARAMETERS_1 .nil))⟩), ⟨_, l_PARAMETERS, rfl, rfl⟩, u_MOST_RAW_WIDTH, (PySem.W.mg_of X G q_MOST_RAW_WIDTH), r_MOST_RAW_WIDTH, u_HEAD_BITS, (PySem.W.mg_of X G q_HEAD_BITS), r_HEAD_BITS, u_MOST_SHIFT, (PySem.W.mg_of X G q_MOST_SHIFT), r_MOST_SHIFT, u_BOUND_choice, (PySem.W.mg_of X G q_BOUND_choice), r_BOUND_choice, u_HEADER_BITS, (PySem.W.mg_of X G q_HEADER_BITS), r_HEADER_BITS, u_PREDICTOR_BITS, (PySem.W.mg_of X G q_PREDICTOR_BITS), r_PREDICTOR_BITS, u_MOST_ZEROS, (PySem.W.mg_of X G q_MOST_ZEROS), r_MOST_ZEROS⟩
  exact ⟨_, fun s v => .of_eq rfl, fun base _ _ => ok_law T⟩
end K68
open PySem PySem.W PyProof.Rows
set_option maxRecDepth 100000 in
set_option maxHeartbeats 0 in
theorem PySem.Challenge.cw_monochord_k68_best_subframe_written_and_holds : PySem.Challenge.rw_monochord_k68_best_subframe_written_and.Holds := by
  w_on; o_law; k_head; (case hw => w_witness2)
  k_fill
  refine L2.walk_of (l := PySem.Challenge.rw_monochord_k68_best_subframe_written_and) (n := 63) (k := 10) (x := "script") (CX := fun _ => L2.CX0) (sp := fun w => K68.sp_law _) rfl (by decide) rfl ⟨rfl, by decide, by decide⟩ (fun w h Y => PySem.W.kIn_of Y) ?F (fun _ _ a ns hl _ hS => ⟨a, ns, rfl, hS, hl, fun _ => rfl⟩) (fun _ _ _ _ _ h => h)
  case F =>
    intro w mg fa h KX G hmg
    refine' K68.all_mk KX G hmg ?a1 ?l1 ?c1 ?k1 ?a2 ?l2 ?c2 ?k2 ?kq2_0 ?rk2_0 ?a3 ?l3 ?c3 ?k3 ?a4 ?l4 ?c4 ?k4 ?a5 ?l5 ?c5 ?k5 ?kq5_0 ?rk5_0 ?a6 ?l6 ?c6 ?k6 ?a7 ?l7 ?c7 ?k7 ?a8 ?l8 ?c8 ?k8 ?a9 ?l9 ?c9 ?k9 ?a10 ?l10 ?c10 ?k10 ?a11 ?l11 ?c11 ?k11 ?a12 ?l12 ?c12 ?k12 ?a13 ?l13 ?c13 ?k13 ?a14 ?l14 ?c14 ?k14 ?a15 ?l15 ?c15 ?k15 ?a16 ?l16 ?c16 ?k16 ?a17 ?l17 ?c17 ?k17 ?a18 ?l18 ?c18 ?k18 ?a19 ?l19 ?c19 ?k19 ?a20 ?l20 ?c20 ?k20 ?a21 ?l21 ?c21 ?k21 ?a22 ?l22 ?c22 ?k22 ?a23 ?l23 ?c23 ?k23 ?a24 ?l24 ?c24 ?k24 ?a25 ?l25 ?c25 ?k25 ?a26 ?l26 ?c26 ?k26 ?a27 ?l27 ?c27 ?k27 ?a28 ?l28 ?c28 ?k28 ?a29 ?l29 ?c29 ?k29 ?a30 ?l30 ?c30 ?k30 ?a31 ?l31 ?c31 ?k31 ?a32 ?l32 ?c32 ?k32 ?a33 ?l33 ?c33 ?k33 ?a34 ?l34 ?c34 ?k34 ?a35 ?l35 ?c35 ?k35 ?a36 ?l36 ?c36 ?k36 ?a37 ?l37 ?c37 ?k37 ?a38 ?l38 ?c38 ?k38 ?a39 ?l39 ?c39 ?k39 ?a40 ?l40 ?c40 ?k40 ?a41 ?l41 ?c41 ?k41 ?a42 ?l42 ?c42 ?k42 ?a43 ?i43 ?l43 ?c43 ?k43 ?kq43_0 ?rk43_0 ?kq43_1 ?rk43_1 ?kq43_2 ?rk43_2 ?kq43_3 ?le_Subframe_init_coefficients ?kq43_4 ?rk43_4 ?kq43_5 ?rk43_5 ?a44 ?l44 ?c44 ?k44 ?a45 ?l45 ?c45 ?k45 ?a46 ?l46 ?c46 ?k46 ?a47 ?l47 ?c47 ?k47 ?a48 ?l48 ?c48 ?k48 ?a49 ?l49 ?c49 ?k49 ?a50 ?l50 ?c50 ?k50 ?a51 ?l51 ?c51 ?k51 ?a52 ?l52 ?c52 ?k52 ?a53 ?l53 ?c53 ?k53 ?a54 ?l54 ?c54 ?k54 ?a55 ?l55 ?c55 ?k55 ?a56 ?l56 ?c56 ?k56 ?a57 ?l57 ?c57 ?k57 ?a58 ?l58 ?c58 ?k58 ?a59 ?l59 ?c59 ?k59 ?a60 ?l60 ?c60 ?k60 ?a61 ?l61 ?c61 ?k61 ?a62 ?l62 ?c62 ?k62 ?a63 ?l63 ?c63 ?k63 ?a64 ?l64 ?c64 ?k64 ?a65 ?l65 ?c65 ?k65 ?a66 ?l66 ?c66 ?k66 ?a67 ?l67 ?c67 ?k67 ?a68 ?l68 ?c68 ?k68 ?a69 ?i69 ?l69 ?c69 ?k69 ?a70 ?i70 ?l70 ?c70 ?k70 ?a71 ?i71 ?l71 ?c71 ?k71 ?a72 ?i72 ?l72 ?c72 ?k72 ?a73 ?i73 ?l73 ?c73 ?k73 ?a74 ?i74 ?l74 ?c74 ?k74 ?a75 ?i75 ?l75 ?c75 ?k75 ?a76 ?i76 ?l76 ?c76 ?k76 ?t76 ?rd76_0 ?a77 ?i77 ?l77 ?c77 ?k77 ?a78 ?i78 ?l78 ?c78 ?k78 ?a79 ?i79 ?l79 ?c79 ?k79 ?a80 ?i80 ?l80 ?c80 ?k80 ?a81 ?i81 ?l81 ?c81 ?k81 ?a82 ?i82 ?l82 ?c82 ?k82 ?a83 ?i83 ?l83 ?c83 ?k83 ?kq83_0 ?rk83_0 ?kq83_1 ?rk83_1 ?kq83_2 ?rk83_2 ?kq83_3 ?rk83_3 ?kq83_4 ?rk83_4 ?kq83_5 ?rk83_5 ?kq83_6 ?rk83_6 ?kq83_7 ?rk83_7 ?kq83_8 ?rk83_8 ?kq83_9 ?rk83_9 ?kq83_10 ?rk83_10 ?a84 ?l84 ?c84 ?k84 ?a85 ?l85 ?c85 ?k85 ?a86 ?l86 ?c86 ?k86 ?a87 ?l87 ?c87 ?k87 ?a88 ?l88 ?c88 ?k88 ?a89 ?l89 ?c89 ?k89 ?a90 ?l90 ?c90 ?k90 ?a91 ?l91 ?c91 ?k91 ?a92 ?l92 ?c92 ?k92 ?aC_Subframe ?pg_Subframe ?hd_Subframe ?po_Subframe ?sa_Subframe ?mk_Subframe ?kc_Subframe ?n_Subframe_kind ?n_Subframe_order ?n_Subframe_precision ?n_Subframe_shift ?n_Subframe_coefficients ?n_Subframe_plan ?n_Subframe_wasted ?aC_BitWriter ?pg_BitWriter ?hd_BitWriter ?po_BitWriter ?sa_BitWriter ?mk_BitWriter ?kc_BitWriter ?n_BitWriter_whole ?n_BitWriter_held ?n_BitWriter_held_bits ?aC_BitReader ?pg_BitReader ?hd_BitReader ?po_BitReader ?sa_BitReader ?mk_BitReader ?kc_BitReader ?n_BitReader_data ?n_BitReader_position ?aC_Settings ?pg_Settings ?hd_Settings ?po_Settings ?sa_Settings ?mk_Settings ?kc_Settings ?n_Settings_block_size ?n_Settings_block_sizes ?n_Settings_fixed_order ?n_Settings_linear_order ?n_Settings_search ?n_Settings_precision ?n_Settings_partition_order ?n_Settings_wide ?n_Settings_stereo ?n_Settings_wasted ?n_Settings_seek_interval ?n_Settings_vendor ?z_list ?z_range ?z_zip ?z_len ?z_sum ?z_tuple ?z_max ?z_min ?z_enumerate ?z_reversed ?z_abs ?z_isinstance ?z_int ?z_bool ?z_all ?q_BOUND_residual ?r_BOUND_residual ?q_PARAMETERS ?l_PARAMETERS ?r_PARAMETERS_0 ?r_PARAMETERS_1 ?q_MOST_RAW_WIDTH ?r_MOST_RAW_WIDTH ?q_HEAD_BITS ?r_HEAD_BITS ?q_MOST_SHIFT ?r_MOST_SHIFT ?q_BOUND_choice ?r_BOUND_choice ?q_HEADER_BITS ?r_HEADER_BITS ?q_PREDICTOR_BITS ?r_PREDICTOR_BITS ?q_MOST_ZEROS ?r_MOST_ZEROS
    (case aC_Subframe => k_is)
    (case aC_BitWriter => k_is)
    (case aC_BitReader => k_is)
    (case aC_Settings => k_is)
    (case a1 => k_is)
    (case l1 => k_is)
    (case c1 => k_is)
    (case k1 => k_is)
    (case a2 => k_is)
    (case l2 => k_is)
    (case c2 => k_is)
    (case k2 => k_is)
    (case kq2_0 => k_is)
    (case rk2_0 => first | rfl | exact ⟨_, rfl⟩)
    (case a3 => k_is)
    (case l3 => k_is)
    (case c3 => k_is)
    (case k3 => k_is)
    (case a4 => k_is)
    (case l4 => k_is)
    (case c4 => k_is)
    (case k4 => k_is)
    (case a5 => k_is)
    (case l5 => k_is)
    (case c5 => k_is)
    (case k5 => k_is)
    (case kq5_0 => k_is)
    (case rk5_0 => first | rfl | exact ⟨_, rfl⟩)
    (case a6 => k_is)
    (case l6 => k_is)
    (case c6 => k_is)
    (case k6 => k_is)
    (case a7 => k_is)
    (case l7 => k_is)
    (case c7 => k_is)
    (case k7 => k_is)
    (case a8 => k_is)
    (case l8 => k_is)
    (case c8 => k_is)
    (case k8 => k_is)
    (case a9 => k_is)
    (case l9 => k_is)
    (case c9 => k_is)
    (case k9 => k_is)
    (case a10 => k_is)
    (case l10 => k_is)
    (case c10 => k_is)
    (case k10 => k_is)
    (case a11 => k_is)
    (case l11 => k_is)
    (case c11 => k_is)
    (case k11 => k_is)
    (case a12 => k_is)
    (case l12 => k_is)
    (case c12 => k_is)
    (case k12 => k_is)
    (case a13 => k_is)
    (case l13 => k_is)
    (case c13 => k_is)
    (case k13 => k_is)
    (case a14 => k_is)
    (case l14 => k_is)
    (case c14 => k_is)
    (case k14 => k_is)
    (case a15 => k_is)
    (case l15 => k_is)
    (case c15 => k_is)
    (case k15 => k_is)
    (case a16 => k_is)
    (case l16 => k_is)
    (case c16 => k_is)
    (case k16 => k_is)
    (case a17 => k_is)
    (case l17 => k_is)
    (case c17 => k_is)
    (case k17 => k_is)
    (case a18 => k_is)
    (case l18 => k_is)
    (case c18 => k_is)
    (case k18 => k_is)
    (case a19 => k_is)
    (case l19 => k_is)
    (case c19 => k_is)
    (case k19 => k_is)
    (case a20 => k_is)
    (case l20 => k_is)
    (case c20 => k_is)
    (case k20 => k_is)
    (case a21 => k_is)
    (case l21 => k_is)
    (case c21 => k_is)
    (case k21 => k_is)
    (case a22 => k_is)
    (case l22 => k_is)
    (case c22 => k_is)
    (case k22 => k_is)
    (case a23 => k_is)
    (case l23 => k_is)
    (case c23 => k_is)
    (case k23 => k_is)
    (case a24 => k_is)
    (case l24 => k_is)
    (case c24 => k_is)
    (case k24 => k_is)
    (case a25 => k_is)
    (case l25 => k_is)
    (case c25 => k_is)
    (case k25 => k_is)
    (case a26 => k_is)
    (case l26 => k_is)
    (case c26 => k_is)
    (case k26 => k_is)
    (case a27 => k_is)
    (case l27 => k_is)
    (case c27 => k_is)
    (case k27 => k_is)
    (case a28 => k_is)
    (case l28 => k_is)
    (case c28 => k_is)
    (case k28 => k_is)
    (case a29 => k_is)
    (case l29 => k_is)
    (case c29 => k_is)
    (case k29 => k_is)
    (case a30 => k_is)
    (case l30 => k_is)
    (case c30 => k_is)
    (case k30 => k_is)
    (case a31 => k_is)
    (case l31 => k_is)
    (case c31 => k_is)
    (case k31 => k_is)
    (case a32 => k_is)
    (case l32 => k_is)
    (case c32 => k_is)
    (case k32 => k_is)
    (case a33 => k_is)
    (case l33 => k_is)
    (case c33 => k_is)
    (case k33 => k_is)
    (case a34 => k_is)
    (case l34 => k_is)
    (case c34 => k_is)
    (case k34 => k_is)
    (case a35 => k_is)
    (case l35 => k_is)
    (case c35 => k_is)
    (case k35 => k_is)
    (case a36 => k_is)
    (case l36 => k_is)
    (case c36 => k_is)
    (case k36 => k_is)
    (case a37 => k_is)
    (case l37 => k_is)
    (case c37 => k_is)
    (case k37 => k_is)
    (case a38 => k_is)
    (case l38 => k_is)
    (case c38 => k_is)
    (case k38 => k_is)
    (case a39 => k_is)
    (case l39 => k_is)
    (case c39 => k_is)
    (case k39 => k_is)
    (case a40 => k_is)
    (case l40 => k_is)
    (case c40 => k_is)
    (case k40 => k_is)
    (case a41 => k_is)
    (case l41 => k_is)
    (case c41 => k_is)
    (case k41 => k_is)
    (case a42 => k_is)
    (case l42 => k_is)
    (case c42 => k_is)
    (case k42 => k_is)
    (case a43 => k_is)
    (case i43 => k_is)
    (case l43 => k_is)
    (case c43 => k_is)
    (case k43 => k_is)
    (case kq43_0 => k_is)
    (case rk43_0 => first | rfl | exact ⟨_, rfl⟩)
    (case kq43_1 => k_is)
    (case rk43_1 => first | rfl | exact ⟨_, rfl⟩)
    (case kq43_2 => k_is)
    (case rk43_2 => first | rfl | exact ⟨_, rfl⟩)
    (case kq43_3 => k_is)
    (case le_Subframe_init_coefficients => k_is)
    (case kq43_4 => k_is)
    (case rk43_4 => first | rfl | exact ⟨_, rfl⟩)
    (case kq43_5 => k_is)
    (case rk43_5 => first | rfl | exact ⟨_, rfl⟩)
    (case a44 => k_is)
    (case l44 => k_is)
    (case c44 => k_is)
    (case k44 => k_is)
    (case a45 => k_is)
    (case l45 => k_is)
    (case c45 => k_is)
    (case k45 => k_is)
    (case a46 => k_is)
    (case l46 => k_is)
    (case c46 => k_is)
    (case k46 => k_is)
    (case a47 => k_is)
    (case l47 => k_is)
    (case c47 => k_is)
    (case k47 => k_is)
    (case a48 => k_is)
    (case l48 => k_is)
    (case c48 => k_is)
    (case k48 => k_is)
    (case a49 => k_is)
    (case l49 => k_is)
    (case c49 => k_is)
    (case k49 => k_is)
    (case a50 => k_is)
    (case l50 => k_is)
    (case c50 => k_is)
    (case k50 => k_is)
    (case a51 => k_is)
    (case l51 => k_is)
    (case c51 => k_is)
    (case k51 => k_is)
    (case a52 => k_is)
    (case l52 => k_is)
    (case c52 => k_is)
    (case k52 => k_is)
    (case a53 => k_is)
    (case l53 => k_is)
    (case c53 => k_is)
    (case k53 => k_is)
    (case a54 => k_is)
    (case l54 => k_is)
    (case c54 => k_is)
    (case k54 => k_is)
    (case a55 => k_is)
    (case l55 => k_is)
    (case c55 => k_is)
    (case k55 => k_is)
    (case a56 => k_is)
    (case l56 => k_is)
    (case c56 => k_is)
    (case k56 => k_is)
    (case a57 => k_is)
    (case l57 => k_is)
    (case c57 => k_is)
    (case k57 => k_is)
    (case a58 => k_is)
    (case l58 => k_is)
    (case c58 => k_is)
    (case k58 => k_is)
    (case a59 => k_is)
    (case l59 => k_is)
    (case c59 => k_is)
    (case k59 => k_is)
    (case a60 => k_is)
    (case l60 => k_is)
    (case c60 => k_is)
    (case k60 => k_is)
    (case a61 => k_is)
    (case l61 => k_is)
    (case c61 => k_is)
    (case k61 => k_is)
    (case a62 => k_is)
    (case l62 => k_is)
    (case c62 => k_is)
    (case k62 => k_is)
    (case a63 => k_is)
    (case l63 => k_is)
    (case c63 => k_is)
    (case k63 => k_is)
    (case a64 => k_is)
    (case l64 => k_is)
    (case c64 => k_is)
    (case k64 => k_is)
    (case a65 => k_is)
    (case l65 => k_is)
    (case c65 => k_is)
    (case k65 => k_is)
    (case a66 => k_is)
    (case l66 => k_is)
    (case c66 => k_is)
    (case k66 => k_is)
    (case a67 => k_is)
    (case l67 => k_is)
    (case c67 => k_is)
    (case k67 => k_is)
    (case a68 => k_is)
    (case l68 => k_is)
    (case c68 => k_is)
    (case k68 => k_is)
    (case a69 => k_is)
    (case i69 => k_is)
    (case l69 => k_is)
    (case c69 => k_is)
    (case k69 => k_is)
    (case a70 => k_is)
    (case i70 => k_is)
    (case l70 => k_is)
    (case c70 => k_is)
    (case k70 => k_is)
    (case a71 => k_is)
    (case i71 => k_is)
    (case l71 => k_is)
    (case c71 => k_is)
    (case k71 => k_is)
    (case a72 => k_is)
    (case i72 => k_is)
    (case l72 => k_is)
    (case c72 => k_is)
    (case k72 => k_is)
    (case a73 => k_is)
    (case i73 => k_is)
    (case l73 => k_is)
    (case c73 => k_is)
    (case k73 => k_is)
    (case a74 => k_is)
    (case i74 => k_is)
    (case l74 => k_is)
    (case c74 => k_is)
    (case k74 => k_is)
    (case a75 => k_is)
    (case i75 => k_is)
    (case l75 => k_is)
    (case c75 => k_is)
    (case k75 => k_is)
    (case a76 => k_is)
    (case i76 => k_is)
    (case l76 => k_is)
    (case c76 => k_is)
    (case k76 => k_is)
    (case t76 => k_is)
    (case rd76_0 => first | rfl | exact ⟨_, rfl⟩)
    (case a77 => k_is)
    (case i77 => k_is)
    (case l77 => k_is)
    (case c77 => k_is)
    (case k77 => k_is)
    (case a78 => k_is)
    (case i78 => k_is)
    (case l78 => k_is)
    (case c78 => k_is)
    (case k78 => k_is)
    (case a79 => k_is)
    (case i79 => k_is)
    (case l79 => k_is)
    (case c79 => k_is)
    (case k79 => k_is)
    (case a80 => k_is)
    (case i80 => k_is)
    (case l80 => k_is)
    (case c80 => k_is)
    (case k80 => k_is)
    (case a81 => k_is)
    (case i81 => k_is)
    (case l81 => k_is)
    (case c81 => k_is)
    (case k81 => k_is)
    (case a82 => k_is)
    (case i82 => k_is)
    (case l82 => k_is)
    (case c82 => k_is)
    (case k82 => k_is)
    (case a83 => k_is)
    (case i83 => k_is)
    (case l83 => k_is)
    (case c83 => k_is)
    (case k83 => k_is)
    (case kq83_0 => k_is)
    (case rk83_0 => first | rfl | exact ⟨_, rfl⟩)
    (case kq83_1 => k_is)
    (case rk83_1 => first | rfl | exact ⟨_, rfl⟩)
    (case kq83_2 => k_is)
    (case rk83_2 => first | rfl | exact ⟨_, rfl⟩)
    (case kq83_3 => k_is)
    (case rk83_3 => first | rfl | exact ⟨_, rfl⟩)
    (case kq83_4 => k_is)
    (case rk83_4 => first | rfl | exact ⟨_, rfl⟩)
    (case kq83_5 => k_is)
    (case rk83_5 => first | rfl | exact ⟨_, rfl⟩)
    (case kq83_6 => k_is)
    (case rk83_6 => first | rfl | exact ⟨_, rfl⟩)
    (case kq83_7 => k_is)
    (case rk83_7 => first | rfl | exact ⟨_, rfl⟩)
    (case kq83_8 => k_is)
    (case rk83_8 => first | rfl | exact ⟨_, rfl⟩)
    (case kq83_9 => k_is)
    (case rk83_9 => first | rfl | exact ⟨_, rfl⟩)
    (case kq83_10 => k_is)
    (case rk83_10 => first | rfl | exact ⟨_, rfl⟩)
    (case a84 => k_is)
    (case l84 => k_is)
    (case c84 => k_is)
    (case k84 => k_is)
    (case a85 => k_is)
    (case l85 => k_is)
    (case c85 => k_is)
    (case k85 => k_is)
    (case a86 => k_is)
    (case l86 => k_is)
    (case c86 => k_is)
    (case k86 => k_is)
    (case a87 => k_is)
    (case l87 => k_is)
    (case c87 => k_is)
    (case k87 => k_is)
    (case a88 => k_is)
    (case l88 => k_is)
    (case c88 => k_is)
    (case k88 => k_is)
    (case a89 => k_is)
    (case l89 => k_is)
    (case c89 => k_is)
    (case k89 => k_is)
    (case a90 => k_is)
    (case l90 => k_is)
    (case c90 => k_is)
    (case k90 => k_is)
    (case a91 => k_is)
    (case l91 => k_is)
    (case c91 => k_is)
    (case k91 => k_is)
    (case a92 => k_is)
    (case l92 => k_is)
    (case c92 => k_is)
    (case k92 => k_is)
    (case pg_Subframe => k_is)
    (case hd_Subframe => k_is)
    (case po_Subframe => k_is)
    (case sa_Subframe => k_is)
    (case mk_Subframe => k_is)
    (case kc_Subframe => k_is)
    (case n_Subframe_kind => k_is)
    (case n_Subframe_order => k_is)
    (case n_Subframe_precision => k_is)
    (case n_Subframe_shift => k_is)
    (case n_Subframe_coefficients => k_is)
    (case n_Subframe_plan => k_is)
    (case n_Subframe_wasted => k_is)
    (case pg_BitWriter => k_is)
    (case hd_BitWriter => k_is)
    (case po_BitWriter => k_is)
    (case sa_BitWriter => k_is)
    (case mk_BitWriter => k_is)
    (case kc_BitWriter => k_is)
    (case n_BitWriter_whole => k_is)
    (case n_BitWriter_held => k_is)
    (case n_BitWriter_held_bits => k_is)
    (case pg_BitReader => k_is)
    (case hd_BitReader => k_is)
    (case po_BitReader => k_is)
    (case sa_BitReader => k_is)
    (case mk_BitReader => k_is)
    (case kc_BitReader => k_is)
    (case n_BitReader_data => k_is)
    (case n_BitReader_position => k_is)
    (case pg_Settings => k_is)
    (case hd_Settings => k_is)
    (case po_Settings => k_is)
    (case sa_Settings => k_is)
    (case mk_Settings => k_is)
    (case kc_Settings => k_is)
    (case n_Settings_block_size => k_is)
    (case n_Settings_block_sizes => k_is)
    (case n_Settings_fixed_order => k_is)
    (case n_Settings_linear_order => k_is)
    (case n_Settings_search => k_is)
    (case n_Settings_precision => k_is)
    (case n_Settings_partition_order => k_is)
    (case n_Settings_wide => k_is)
    (case n_Settings_stereo => k_is)
    (case n_Settings_wasted => k_is)
    (case n_Settings_seek_interval => k_is)
    (case n_Settings_vendor => k_is)
    (case z_list => k_is)
    (case z_range => k_is)
    (case z_zip => k_is)
    (case z_len => k_is)
    (case z_sum => k_is)
    (case z_tuple => k_is)
    (case z_max => k_is)
    (case z_min => k_is)
    (case z_enumerate => k_is)
    (case z_reversed => k_is)
    (case z_abs => k_is)
    (case z_isinstance => k_is)
    (case z_int => k_is)
    (case z_bool => k_is)
    (case z_all => k_is)
    (case q_BOUND_residual => k_is)
    (case r_BOUND_residual => first | rfl | exact ⟨_, rfl⟩)
    (case q_PARAMETERS => k_is)
    (case l_PARAMETERS => k_is)
    (case r_PARAMETERS_0 => first | rfl | exact ⟨_, rfl⟩)
    (case r_PARAMETERS_1 => first | rfl | exact ⟨_, rfl⟩)
    (case q_MOST_RAW_WIDTH => k_is)
    (case r_MOST_RAW_WIDTH => first | rfl | exact ⟨_, rfl⟩)
    (case q_HEAD_BITS => k_is)
    (case r_HEAD_BITS => first | rfl | exact ⟨_, rfl⟩)
    (case q_MOST_SHIFT => k_is)
    (case r_MOST_SHIFT => first | rfl | exact ⟨_, rfl⟩)
    (case q_BOUND_choice => k_is)
    (case r_BOUND_choice => first | rfl | exact ⟨_, rfl⟩)
    (case q_HEADER_BITS => k_is)
    (case r_HEADER_BITS => first | rfl | exact ⟨_, rfl⟩)
    (case q_PREDICTOR_BITS => k_is)
    (case r_PREDICTOR_BITS => first | rfl | exact ⟨_, rfl⟩)
    (case q_MOST_ZEROS => k_is)
    (case r_MOST_ZEROS => first | rfl | exact ⟨_, rfl⟩)
