"""Viewwood: pictures made of parts, drawn anew where they must, and a small checker of it all."""
