"""The looker: whether a claim is borne out by its paper; it seeks nothing."""

from matefloors.bars import is_bar
from matefloors.layings import is_by, is_laying, must_be_kinds
from matefloors.mixtures import is_share
from matefloors.moving import is_place
from matefloors.numbers import contrary, is_above_nought, is_number, is_whole, over, plus, times
from matefloors.plans import is_plan, made_of
from matefloors.squares import counts_of


def holds(d, kinds, claim, paper):
    """Tell of any things whether the claim is one and its paper is as it has to be."""
    must_be_kinds(d, kinds)
    if not isinstance(claim, tuple) or len(claim) < 2 or not is_above_nought(d, claim[-1]):
        return False
    if claim[0] == "laid" and len(claim) == 2:
        return is_laid_by(d, kinds, claim[1], paper)
    if claim[0] == "barred" and len(claim) == 2:
        return is_bar(d, kinds, claim[1], paper)
    if claim[0] == "mixed" and len(claim) == 3 and is_place(claim[1], len(kinds)):
        return is_mixed_by(d, kinds[claim[1]], claim[2], paper)
    if claim[0] == "squares" and len(claim) == 3 and is_above_nought(d, claim[1]):
        return is_counts(over(d, claim[2], claim[1]), paper)
    return False


def is_laid_by(d, kinds, shape, paper):
    """Tell of any thing whether it is a paper by which the shape is laid: a plan's or a laying's."""
    if not isinstance(paper, tuple) or len(paper) != 2:
        return False
    word, thing = paper
    if word == "plan":
        return is_plan(thing, len(kinds)) and made_of(d, kinds, thing) == shape
    if word == "laying":
        return is_laying(d, thing) and over(d, thing[1], thing[0]) == shape and is_by(d, thing, kinds)
    return False


def is_mixed_by(d, kind, shape, paper):
    """Tell of any thing whether it is two fractions of the kind and its contrary that come to the shape."""
    if not isinstance(paper, tuple) or len(paper) != 2:
        return False
    if not all([is_number(share) and is_share(d, share) for share in paper]):
        return False
    u, v = paper
    return plus(times(d, u, kind), times(d, v, contrary(d, kind))) == shape


def is_counts(shape, paper):
    """Tell of any thing whether it is the list of how many squares go at each step from a floor of the shape."""
    if shape[1] != 0 or not isinstance(paper, list) or not all([is_whole(many) for many in paper]):
        return False
    return paper == counts_of(shape)
