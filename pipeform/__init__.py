"""Pipeform: normal forms of pipelines of line tools."""
