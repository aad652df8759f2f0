"""The text of a paper, and the text of a case: a question and a paper for it."""

from huewalks.checks import are_bounds, check_bounds, check_text, is_between, read_number, read_numbers
from huewalks.errors import BadText
from huewalks.papers import LIST_WORDS, check_paper, is_answer, is_paper
from huewalks.trees import MOST_HUE_TREES, MOST_SPLITS
from huewalks.walks import LEAST_SPAN, MOST_SPAN, check_span
from huewalks.webs import check_web
from huewalks.webtext import format_web, parse_web

# A span line, a bounds line, a line of the web and a paper.
LEAST_CASE_LINES = 4


def format_paper(paper):
    """The text of the paper."""
    check_paper(paper)
    word, data = paper
    if word in LIST_WORDS:
        return _joined([word, *data])
    if word == "loop":
        return _joined([word, data])
    if word == "ties":
        return _joined([word, *data[0]] + [told for chain in data[1] for told in ("/", *chain)])
    if word == "cases":
        return _joined([word] + _case_words(data))
    return _joined([word] + _hue_words(data))


def parse_paper(text):
    """The paper with this text."""
    check_text(text)
    paper = _read_paper(text.split(" "))
    if not is_paper(paper):
        raise BadText(1)
    return paper


def format_case(web, span, bounds, paper):
    """The text of the question and the paper."""
    check_web(web)
    check_span(span)
    check_bounds(bounds)
    return "\n".join([_joined(["span", span]), _joined(["bounds", *bounds]), format_web(web), format_paper(paper)])


def parse_case(text):
    """The web, the span, the bounds and the paper of the case with this text."""
    check_text(text)
    lines = text.split("\n")
    # A line that is missing is not right, and no more is an empty one in its place.
    lines = lines + [""] * (LEAST_CASE_LINES - len(lines))
    span = _read_span(lines[0])
    bounds = _read_bounds(lines[1])
    web = _read_web(lines[2:-1])
    return (web, span, bounds, _read_last(len(lines), lines[-1]))


def judge_text(text):
    """True if the paper of the case with this text is right."""
    web, span, bounds, paper = parse_case(text)
    return is_answer(web, span, bounds, paper)


def _joined(told):
    """The words and numbers with single spaces between them."""
    return " ".join([str(each) for each in told])


def _case_words(tree):
    """The words and numbers of a tree of clashes and splits."""
    word, first, second = tree
    if word == "clash":
        return ["c", first, second]
    return ["s", first, len(second)] + [told for below in second for told in _case_words(below)]


def _hue_words(tree):
    """The words and numbers of a tree of the forms road and hue."""
    word, first, second = tree
    if word == "road":
        return ["r", first, len(second), *second]
    return ["h", len(first), *first, len(second)] + [told for below in second for told in _hue_words(below)]


def _read_paper(words):
    """The paper that the words write, but for the limits that the whole of a tree has."""
    word = words[0]
    if word in LIST_WORDS:
        return (word, _numbers_at(words, 1, len(words) - 1))
    if word == "loop" and len(words) == 2:
        return (word, _numbers_at(words, 1, 1)[0])
    if word == "ties":
        return (word, _read_ties(words[1:]))
    if word == "cases":
        return (word, _read_whole(_read_cases, words, MOST_SPLITS))
    if word == "hues":
        return (word, _read_whole(_read_hues, words, MOST_HUE_TREES))
    raise BadText(1)


def _read_ties(words):
    """The places and the chains that the words write."""
    parts = [[]]
    for word in words:
        if word == "/":
            parts.append([])
        else:
            parts[-1].append(_numbers_at([word], 0, 1)[0])
    return (parts[0], parts[1:])


def _read_whole(read, words, deep):
    """The tree that the words behind the first one write, with at most deep branches on a path."""
    tree, behind = read(words, 1, deep)
    if behind != len(words):
        raise BadText(1)
    return tree


def _read_cases(words, at, deep):
    """The tree of clashes and splits whose words begin at this index, and the index behind its words."""
    first, second = _numbers_at(words, at + 1, 2)
    if words[at] == "c":
        return (("clash", first, second), at + 3)
    if words[at] != "s":
        raise BadText(1)
    trees, behind = _read_trees(_read_cases, words, at + 3, second, deep)
    return (("split", first, trees), behind)


def _read_hues(words, at, deep):
    """The tree of the forms road and hue whose words begin at this index, and the index behind its words."""
    count = _numbers_at(words, at + 1, 1)[0]
    if words[at] == "r":
        many = _numbers_at(words, at + 2, 1)[0]
        return (("road", count, tuple(_numbers_at(words, at + 3, many))), at + 3 + many)
    if words[at] != "h":
        raise BadText(1)
    walk = tuple(_numbers_at(words, at + 2, count))
    many = _numbers_at(words, at + 2 + count, 1)[0]
    trees, behind = _read_trees(_read_hues, words, at + 3 + count, many, deep)
    return (("hue", walk, trees), behind)


def _read_trees(read, words, at, many, deep):
    """So many trees whose words begin at this index, below a tree that counts as one of deep, and the index behind."""
    # No text may lead deeper than a tree may be; the other limits are checked once the tree is read.
    if deep < 1:
        raise BadText(1)
    trees = []
    behind = at
    for _ in range(many):
        tree, behind = read(words, behind, deep - 1)
        trees.append(tree)
    return (tuple(trees), behind)


def _numbers_at(words, at, many):
    """The numbers that so many words from this index on write."""
    numbers = read_numbers(words[at:at + many])
    if numbers is None or len(numbers) < many:
        raise BadText(1)
    return numbers


def _read_span(line):
    """The span of the first line of a case."""
    words = line.split(" ")
    span = read_number(words[-1])
    if len(words) != 2 or words[0] != "span" or not is_between(LEAST_SPAN, MOST_SPAN, span):
        raise BadText(1)
    return span


def _read_bounds(line):
    """The bounds of the second line of a case."""
    words = line.split(" ")
    bounds = read_numbers(words[1:])
    if words[0] != "bounds" or not are_bounds(bounds):
        raise BadText(2)
    return tuple(bounds)


def _read_web(lines):
    """The web whose lines these are, from the third line of a case on."""
    try:
        return parse_web("\n".join(lines))
    except BadText as wrong:
        raise BadText(wrong.line_number + 2)


def _read_last(number, line):
    """The paper of the last line of a case, which is the line of this number."""
    try:
        return parse_paper(line)
    except BadText:
        raise BadText(number)
