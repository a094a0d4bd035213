"""Texts of choices."""

from routeweb.choices import MOST_LISTS, MOST_PATHS, Choices, check_choices, is_path
from routeweb.words import LineReader, few_lines_of

# The nodes of choices are 0 to 7, so that each is one digit.
NODE_OF = {"0": 0, "1": 1, "2": 2, "3": 3, "4": 4, "5": 5, "6": 6, "7": 7}


def write_choices(choices):
    """The text of choices: for each node its number and a colon, then its paths."""
    check_choices(choices)
    lines = []
    for node, paths in enumerate(choices.lists, start=1):
        lines.append(" ".join([f"{node}:", *[_written(path) for path in paths]]))
    return "\n".join(lines)


def _written(path):
    return "".join([str(node) for node in path])


def read_choices(text):
    """The choices of a text."""
    lines = few_lines_of(text, MOST_LISTS)
    return Choices(tuple([_read_paths(line, node, len(lines)) for node, line in enumerate(lines, start=1)]))


def _read_paths(line, node, many):
    """The paths of a node in its line, one of so many."""
    reader = LineReader(node, line)
    reader.take([f"{node}:"])
    paths = []
    while not reader.is_done():
        word = reader.next_word()
        path = tuple([NODE_OF.get(letter) for letter in word])
        can_stand = len(paths) < MOST_PATHS and is_path(many, node, path) and path not in paths
        reader.take([word] if can_stand else [])
        paths.append(path)
    return tuple(paths)
