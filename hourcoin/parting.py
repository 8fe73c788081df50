"""Two books held against each other: the least case in which they pay unlike rates, and its row."""

from hourcoin.books import rate_of
from hourcoin.cases import is_case, quarrel_among, row_of, sort_among, sort_in
from hourcoin.errors import Quarrel, Unsound
from hourcoin.kinds import is_number, is_row
from hourcoin.paying import due
from hourcoin.quarrels import least_case, quarrel_of


def rate_in(book, case):
    """The rate of the sort that a book tells in a case; Quarrel where its rules quarrel there."""
    return rate_of(book, sort_in(book, case)[0])


def are_parted_by(one, other, numbers):
    """Whether two books pay unlike rates where just the rules of these numbers hold.

    The rules of the other book are numbered on behind those of the one.
    """
    many = len(one[2])
    of_one = [one[2][at] for at in numbers if at < many]
    of_other = [other[2][at - many] for at in numbers if at >= many]
    # Where sound books would quarrel, these rules hold together in no case that can come.
    if quarrel_among(of_one) is not None or quarrel_among(of_other) is not None:
        return False
    return rate_of(one, sort_among(one, of_one)[0]) != rate_of(other, sort_among(other, of_other)[0])


def parted(one, other):
    """The tuple (case, rate, rate) of the least case with unlike rates, None; or Unsound."""
    for number, book in enumerate([one, other]):
        if quarrel_of(book) is not None:
            raise Unsound(number)
    case = least_case(one[2] + other[2], lambda numbers: are_parted_by(one, other, numbers))
    if case is None:
        return None
    return case, rate_in(one, case), rate_in(other, case)


def shows_parted(one, other, thing):
    """Whether a thing is a tuple (case, rate, rate) of a case that these books pay unlike, so."""
    if not is_row(thing, 3):
        return False
    case, *rates = thing
    if not is_case(case) or not all([is_number(rate) for rate in rates]):
        return False
    try:
        told = [rate_in(one, case), rate_in(other, case)]
    except Quarrel:
        return False
    return told == rates and told[0] != told[1]


def parting_row(one, other):
    """The tuple (lot, feasts, due, due) of the row of the least such case, None; or Unsound."""
    told = parted(one, other)
    if told is None:
        return None
    lot, feasts = row_of(told[0])
    return lot, feasts, due(lot, feasts, one), due(lot, feasts, other)
