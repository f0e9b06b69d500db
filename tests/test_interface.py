"""The interface in DOC.md: its functions and classes are defined in the files under which it lists them, with as many arguments."""

import ast
import importlib
import inspect
import unittest

from tests.test_form import source

# For each file its functions, each with the number of its arguments.
FUNCTIONS = {
    "lexer": {"tokens_of": 1},
    "reader": {"read_term": 1, "read_kind": 1},
    "writer": {"term_text": 1, "kind_text": 1},
    "kinds": {"is_kind": 1, "is_plain": 1, "is_name": 1, "children": 1, "with_children": 2, "term_at": 2, "paths_of": 1, "put_at": 3,
              "free_names": 1, "bound_names": 1, "plainly_named": 1, "same_term": 2, "put_in": 3},
    "judging": {"fault_of": 2, "kind_of": 2, "is_program": 1, "menu_of": 1, "result_of": 1},
    "told": {"is_told": 2, "told_entry": 2, "least_told": 1, "same_told": 2, "is_known": 2, "go_together": 2, "together": 2, "known_at": 2},
    "plain": {"run_known": 2, "run_told": 2, "value_of": 1},
    "ways": {"ways": 1, "work": 1, "is_small": 1, "way_of": 2},
    "trees": {"is_tree": 2, "node_count": 1, "ends_of": 1, "value_on": 2, "way_on": 2, "fixed_at": 3, "paired": 3, "led": 2, "grafted": 3,
              "turned": 2, "put_in": 2},
    "leasttrees": {"least": 2, "is_least": 1, "first_needed": 1, "settled_at": 3},
    "sharing": {"shared": 2, "unshared": 1},
    "quantify": {"values_of": 1, "least_rows": 2, "value_rows": 1, "can_hold": 1, "holds": 1, "bound": 3},
    "sameness": {"same": 3, "same_programs": 2, "least_unlike": 3, "parting": 3, "distance": 3, "is_below": 3, "least_above": 3, "met": 3,
                 "joined": 3, "settled_share": 3, "nearest": 3},
    "moduli": {"needed_places": 2, "modulus": 2, "hangs_on": 3, "is_enough": 4, "enough_at": 3, "hardest": 3, "sensitive_places": 3},
    "strategies": {"least_depth": 2, "least_mean": 2, "best_strategy": 2, "mean_strategy": 2, "certificate_strategy": 3, "depth_of": 1,
                   "mean_of": 2},
    "shares": {"shares_of": 2, "mean": 2, "variance": 2, "shares_given": 3, "independent": 2, "told_so_far": 3, "force": 3, "swing": 3,
               "forces": 2, "asked_shares": 2, "weighed_shares": 3},
    "solving": {"patterns": 2, "least_solution": 2, "greatest_solution": 2, "forced": 2, "many_beginnings": 3, "nth_beginning": 4,
                "beginning_number": 3, "common_beginning": 2, "clash": 2, "best_solution": 3},
    "answering": {"least_meeting": 2, "first_entries": 3, "clash_at": 2, "answers_always": 1, "answerer": 1, "answer_tree": 2},
    "plays": {"worth": 3, "cut_worth": 4, "is_rule": 4, "sure_worth": 5, "best_rule": 4, "best_play": 3, "told_play": 4, "told_values": 4,
              "reply_value": 5},
    "choosers": {"choice": 2, "outcome": 2, "play_of": 4, "play_value": 3, "play_term": 2},
    "codes": {"is_searchable": 1, "width_of": 1, "is_even": 1, "elements_count": 1, "is_address": 2, "address_index": 2,
              "index_address": 2, "decoder": 1, "coder": 1, "over": 4, "found": 3, "is_near": 3},
    "reals": {"value_of": 1, "sum_of": 1, "row_of": 2, "reach": 2, "respects": 2, "same_numbers": 3, "negated_term": 0,
              "halved_term": 0, "average_term": 0, "constant_term": 1},
    "areas": {"greatest_value": 2, "least_value": 2, "mean_value": 2, "area": 2, "root": 3},
    "turners": {"entry_program": 2, "entry_tree": 2, "needs": 2, "behind": 2, "first_unlike": 3, "images": 2, "share_of_image": 2,
                "keeps_shares": 2, "fixed_beginnings": 2, "is_ahead": 2, "reads_back": 3, "back_table": 3, "collision": 3},
    "states": {"is_state_turner": 1, "state_entries": 2, "least_states": 1, "same_states": 2, "parting_word": 2, "state_term": 1},
    "machines": {"is_machine": 1, "machine_of": 2, "states_at": 1, "run_on": 2, "first_reader": 1, "read": 3, "read_all": 3},
    "merging": {"merged": 1, "tree_of": 1, "joined": 2, "machine_behind": 2},
    "shown": {"is_right_tree": 2, "answer_to": 1, "certified": 1, "is_certified": 3},
}


# For each file its classes, each with its methods and the number of their arguments without the object itself.
CLASSES = {
    "session": {"Session": {"__init__": 0, "define": 2, "drop": 0, "definitions": 0, "closed": 1, "undo": 0, "redo": 0,
                            "__eq__": 1, "__ne__": 1, "__len__": 0, "__enter__": 0, "__exit__": 3}},
    "desk": {"Desk": {"__init__": 1, "answer": 1}},
}


class InterfaceTest(unittest.TestCase):
    def test_classes(self):
        for name, classes in CLASSES.items():
            defined = {node.name: node for node in ast.parse(source(name + ".py")).body if isinstance(node, ast.ClassDef)}
            for word, methods in classes.items():
                own = {part.name: part for part in defined[word].body if isinstance(part, ast.FunctionDef)}
                for method, many in methods.items():
                    self.assertEqual(len(own[method].args.args), many + 1, (word, method))
                    self.assertEqual(own[method].args.defaults, [])

    def test_functions(self):
        for name, functions in FUNCTIONS.items():
            defined = [node.name for node in ast.parse(source(name + ".py")).body if isinstance(node, ast.FunctionDef)]
            module = importlib.import_module("allendless." + name)
            for word, many in functions.items():
                self.assertIn(word, defined, name)
                parameters = inspect.signature(getattr(module, word)).parameters.values()
                self.assertEqual(len(parameters), many, word)
                self.assertTrue(all(one.default is inspect.Parameter.empty for one in parameters), word)

    def test_equal_calls_give_equal_results(self):
        from allendless.leasttrees import least
        from allendless.sameness import nearest
        from allendless.strategies import best_strategy
        from tests.making import Maker
        places = [(i, k) for i in range(2) for k in range(2)]
        for seed in range(20):
            tree = Maker(seed).tree((2, 3), places, (0, 1, 2), 4)
            for function, more in ((least, ()), (best_strategy, ()), (nearest, (1,))):
                self.assertEqual(function((2, 3), tree, *more), function((2, 3), tree, *more))


if __name__ == "__main__":
    unittest.main()
