"""Papers: answers to the question whether a web can be hued within the bounds, judged and found."""

from huewalks.cases import is_hue_refusal
from huewalks.checks import is_sequence
from huewalks.errors import BadPaper
from huewalks.huelay import check_tower_question
from huewalks.lay import find_laying, is_laying, is_refusal, refusal
from huewalks.roads import keeps_bounds
from huewalks.rowcase import is_row_in
from huewalks.trees import are_labels, is_label, measure_cases, measure_hues
from huewalks.walks import is_hueing
from huewalks.width import is_chain_cover

LIST_WORDS = ("hueing", "laying", "row")
YES_WORDS = ("hueing", "laying")


def is_answer(web, span, bounds, paper):
    """True if the value is a right paper for the question."""
    order = check_tower_question(web, span, bounds)
    if not is_paper(paper):
        return False
    word, data = paper
    if word == "hueing":
        return is_hueing(web, span, len(bounds), data) and keeps_bounds(web, span, bounds, data)
    if word == "laying":
        return is_laying(web, order, data)
    if word == "cases":
        return is_refusal(web, order, data)
    if word == "hues":
        return is_hue_refusal(web, span, bounds, data)
    if word == "row":
        return is_row_in(web, data) and len(data) > len(order)
    if word == "loop":
        return (data, data) in web
    return _are_many_ties(web, order, data[0], data[1])


def decide(web, span, bounds):
    """A right paper for the question."""
    order = check_tower_question(web, span, bounds)
    laying = find_laying(web, order)
    if laying is not None:
        return ("laying", laying)
    return ("cases", refusal(web, order))


def says_yes(paper):
    """True if the paper says that the web can be hued."""
    check_paper(paper)
    return paper[0] in YES_WORDS


def is_paper(value):
    """True for a well-formed paper, whatever the question."""
    if not is_sequence(value) or len(value) != 2:
        return False
    word, data = value
    if word in LIST_WORDS:
        return are_labels(data)
    if word == "loop":
        return is_label(data)
    if word == "cases":
        return measure_cases(data) is not None
    if word == "hues":
        return measure_hues(data) is not None
    return word == "ties" and _are_ties(data)


def check_paper(paper):
    """Refuse what is not a well-formed paper."""
    if not is_paper(paper):
        raise BadPaper(None)


def _are_ties(data):
    """True for a pair of a sequence of integers and a sequence of such sequences."""
    if not is_sequence(data) or len(data) != 2:
        return False
    return are_labels(data[0]) and is_sequence(data[1]) and all([are_labels(chain) for chain in data[1]])


def _are_many_ties(web, order, places, chains):
    """True if there are more of the places, each two of them joined both ways, than chains that cover the order."""
    if len(places) <= len(chains) or not is_row_in(web, places) or not is_row_in(web, places[::-1]):
        return False
    return is_chain_cover(order, chains)
