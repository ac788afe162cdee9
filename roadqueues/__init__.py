"""Roadqueues: letters that wait at roads, whoever puts them in."""
