"""Texts that tell nets."""

from eventours.errors import BadLine, BadText
from eventours.nets import MOST_HALLS, check_net


def write_net(net):
    """The text of a net."""
    check_net(net)
    halls, ways = net
    words = ["ways"] + [word_of(way) for way in ways]
    return "\n".join([f"halls {halls}", " ".join(words)])


def read_net(text):
    """The net that a text tells."""
    if not isinstance(text, str):
        raise BadText()
    lines = [words_in(line) for line in text.split("\n")]
    told = [(line, words) for line, words in enumerate(lines, start=1) if words]
    # Behind all that is told stands a line without words, where one lacks if need be.
    told.append((len(lines) + 1, []))
    halls = read_halls(told[0])
    ways = read_ways(told[1], halls)
    check_no_words(told[2])
    return (halls, ways)


def word_of(way):
    """The word that tells a way."""
    x, y = way
    return f"{x}{y}"


def words_in(line):
    """The list of the words of a line."""
    # Only spaces part words: split() would take tabs and other signs for spaces, too.
    return [word for word in line.split(" ") if word]


def read_halls(told):
    """The number of halls that the first line tells."""
    line, words = told
    if words[:1] != ["halls"]:
        raise BadLine(line, 1)
    # Looked up, not read by int(), which takes "03" and figures of other scripts, too.
    numbers = {str(halls): halls for halls in range(1, MOST_HALLS + 1)}
    if len(words) < 2 or words[1] not in numbers:
        raise BadLine(line, 2)
    if len(words) > 2:
        raise BadLine(line, 3)
    return numbers[words[1]]


def read_ways(told, halls):
    """The ways between so many halls that the second line tells."""
    line, words = told
    if words[:1] != ["ways"]:
        raise BadLine(line, 1)
    known = {word_of((x, y)): (x, y) for y in range(halls) for x in range(y)}
    ways = []
    for at, word in enumerate(words[1:], start=2):
        if word not in known or (ways and known[word] <= ways[-1]):
            raise BadLine(line, at)
        ways.append(known[word])
    return tuple(ways)


def check_no_words(told):
    """Raise BadLine if a line has words."""
    line, words = told
    if words:
        raise BadLine(line, 1)
