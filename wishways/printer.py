"""Texts of webs and of traffic, written."""

from wishways.webs import check_traffic, check_web


def web_text(web):
    check_web(web)
    return written(web, ())


def traffic_text(web, wishes):
    check_traffic(web, wishes)
    return written(web, wishes)


def written(web, wishes):
    lines = [f"places {web[1]}"]
    lines.extend([f"tie {one} {other} {room}" for one, other, room in web[2]])
    lines.extend([f"wish {one} {other} {wish}" for one, other, wish in wishes])
    return "".join([line + "\n" for line in lines])
