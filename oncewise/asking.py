"""Asking by texts: webs judged, trees turned into webs and freed of cuts, rows searched."""

from oncewise.melting import melted
from oncewise.searching import searched
from oncewise.shrinking import first_bad
from oncewise.switching import fault_by
from oncewise.trees import web_of
from oncewise.treetext import read_tree, written_tree
from oncewise.wayback import tree_of
from oncewise.webtext import read_web, written_web
from oncewise.wordtext import read_row


def line_of(word, told):
    return word + "".join([f" {one}" for one in told]) + "\n"


def judged(text):
    web = read_web(text)
    choices = first_bad(web)
    if choices is None:
        return line_of("right", []) + written_tree(tree_of(web))
    fault = fault_by(web, choices)
    return line_of("wrong", []) + line_of("choices", choices) + line_of(fault[0], fault[1])


def webbed(text):
    return written_web(web_of(read_tree(text)))


def freed(text):
    return written_tree(melted(read_tree(text)))


def sought(text, most=120):
    answer = searched(read_row(text), most)
    if answer[0] == "web":
        return line_of("found", []) + written_web(answer[1])
    if answer[0] == "tries":
        return line_of("tries", [len(answer[1])])
    return line_of(answer[0], answer[1:])
