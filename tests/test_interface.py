"""The interface: each name is defined in its own file, with the parameters that the document lists."""

import importlib
import inspect
import unittest

FUNCTIONS = {
    "boards": ["is_weight(thing)", "is_piece(size, thing)", "letters_of(board)", "is_filled(board)", "filled(board, filling)"],
    "drawing": ["behind(one, other)", "below(one, other)", "backwards(board)", "upside_down(board)", "straight(size)", "planned(text)"],
    "ways": ["ways(board, row, column, *, most=2000)", "is_way(board, thing)", "way_weight(board, way)", "touches(board, some)"],
    "companies": ["tangles(board, rows, columns, *, most=2000)", "companies(board, rows, columns, *, most=2000)",
                  "is_company(board, rows, columns, thing)", "sign_of(board, rows, columns, tangle)",
                  "first_touch(board, rows, columns, tangle)", "exchanged(board, rows, columns, tangle)",
                  "judge_tangle(board, rows, columns, tangle)", "tangle_holds(board, rows, columns, tangle, thing)"],
    "sums": ["is_term(thing)", "is_sum(thing)", "number_sum(number)", "letter_sum(letter)", "plus(one, other)", "minus(one, other)",
             "times(one, other)", "scaled(number, some)", "power(some, many)", "by_filling(some, filling)", "sum_text(some)",
             "sum_read(text)", "is_plain_number(some)", "number_of(some)"],
    "tables": ["table_of(board)", "is_table(thing)", "table_product(one, other)", "entry(table, row, column)",
               "minor(table, rows, columns)", "company_sum(board, rows, columns)", "least_minor(board)"],
    "pairings": ["is_pairing(size, thing)", "pairings(size)", "straight_pairing(size)", "size_of(pairing)", "rim_of_row(size, row)",
                 "rim_of_column(size, column)", "heights(pairing)", "is_above(one, other)", "partner(pairing, place)",
                 "through(pairing)", "pairing_text(pairing)", "pairing_read(text)", "joined(one, other)",
                 "pairing_backwards(pairing)", "pairing_upside_down(pairing)", "pairing_below(one, other)"],
    "words": ["is_word(size, thing)", "pairing_made(size, word)", "is_plain(size, word)", "first_word(pairing)",
              "plain_words(pairing, *, most=1000)", "word_length(pairing)", "told_board(pairing)", "told_boards(size)",
              "board_of_word(size, word)"],
    "products": ["is_product(size, thing)", "products(size)", "product_of(size, rows, columns)", "other_company(size, product)",
                 "product_worth(table, product)"],
    "wishes": ["wish_of(size, pairs)", "one_product(size, rows, columns)", "whole(size)", "wish_plus(one, other)",
               "wish_minus(one, other)", "wish_times(number, wish)", "wish_backwards(wish)", "wish_upside_down(wish)",
               "worth(wish, board)", "worth_at(wish, table)", "filled_worth(wish, board)"],
    "speech": ["spoken(text)"],
    "coordinates": ["colours(size, product)", "does_fit(product, pairing)", "fitting(size, product)", "coordinate(wish, pairing)",
                    "coordinates(wish)", "coordinates_by_boards(wish)", "masses(wish)"],
    "plainform": ["standing_product(pairing)", "standing_pairing(size, product)", "plain_form(wish)", "wish_with(size, some)",
                  "relation(size, product)", "relations(size)"],
    "signedrows": ["signed_rows(wish)", "pairing_rows(pairing)", "coordinates_by_rows(wish)", "rows_worth(rows, table)"],
    "covers": ["is_cover(board, thing)", "covers(board, *, most=3000)", "loads(board, cover)", "cover_weight(board, cover)",
               "cover_drawing(board, cover)"],
    "shares": ["share(board, pairing)", "shares(board)", "filled_shares(board)", "drawn(board)", "worth_by_shares(wish, board)",
               "is_nought_on(wish, board)"],
    "ever": ["is_never_below(wish)", "first_below(wish)", "least_below(wish)", "judge_never(wish)", "never_holds(wish, thing)",
             "are_alike(one, other)", "first_parting(one, other)", "judge_alike(one, other)", "alike_holds(one, other, thing)",
             "is_ever_at_least(one, other)"],
    "factors": ["judge_factors(one, other)", "factors_holds(one, other, thing)", "is_factor(one, other, number)",
                "greatest_factor(one, other)", "least_factor(one, other)"],
    "offers": ["are_offers(thing)", "judge_offers(target, offers)", "offers_holds(target, offers, thing)",
               "least_price(target, offers)", "do_cover(target, offers, thing)"],
    "orders": ["does_stay_below(size, one, other)", "just_above(size, product)", "just_below(size, product)", "lowest(size)",
               "highest(size)", "bunch(pairing)", "first_chain(size, one, other)", "judge_order(size, one, other)",
               "order_holds(size, one, other, thing)", "longest_chain(size)"],
    "deciding": ["do_decide(boards)", "judge_boards(boards)", "boards_holds(boards, thing)", "lacking(boards)", "spare(boards)"],
    "asking": ["is_question(thing)", "judged(question)", "paper_holds(question, thing)", "is_told_yes(question)",
               "turned_question(question, upside)", "turned_paper(question, paper, upside)"],
}
CLASSES = {
    ("boards", "Board"): ["__init__(self, size, pieces)", "__len__(self)", "__eq__(self, other)", "__str__(self)", "read(text)"],
    ("tables", "Table"): ["__init__(self, rows)", "__eq__(self, other)", "sums(self)"],
    ("wishes", "Wish"): ["__init__(self, size, parts)", "__len__(self)", "__eq__(self, other)", "__str__(self)", "read(text)"],
    ("houses", "House"): ["__init__(self, size)", "__eq__(self, other)", "copy(self)", "__str__(self)", "read(text)", "names(self)",
                          "board(self, name)", "wish(self, name)", "promises(self)", "deals(self)", "deal(self, changes)",
                          "change(self, change)", "would(self, changes)", "undo(self)", "worth(self, wish, board)",
                          "shares(self, board)", "coordinates(self, wish)", "judged(self, promise)"],
    ("consoles", "Console"): ["__init__(self, house)", "run(self, line)"],
}


class Interface(unittest.TestCase):
    def test_functions(self):
        for name, wanted in FUNCTIONS.items():
            module = importlib.import_module("twocompanies." + name)
            for text in wanted:
                call = getattr(module, text.partition("(")[0])
                self.assertEqual(call.__name__ + str(inspect.signature(call)), text)
                self.assertEqual(call.__module__, module.__name__)

    def test_classes(self):
        for (name, own), wanted in CLASSES.items():
            module = importlib.import_module("twocompanies." + name)
            made = getattr(module, own)
            self.assertEqual(made.__module__, module.__name__)
            for text in wanted:
                method = text.partition("(")[0]
                self.assertIn(method, vars(made))
                self.assertEqual(method + str(inspect.signature(getattr(made, method))), text)
